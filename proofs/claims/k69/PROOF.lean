import PyProof.Rows.All
import Wide.All
import OpenK.AllK
import Wide.FinOn
import Lean
import PyProof.EqAt
import PyProof.EqKinds
import PyProof.TupleCall
import PySem.Challenge.RW_trueword_k69_bounds_of_a_rule
-- CHANGE: your row's module here, as the last of these rows
set_option Elab.async false
set_option linter.all false
set_option maxRecDepth 100000
/-! THE HAND LAYER, for ints, bools, texts, own classes, LISTS and tuples (index, slices, in, append, pop ..), calls, loops. Paste it whole ahead of your own text; what your proof does not reach may be deleted. -/
namespace L2
open PySem PySem.Spec PyProof.Rows

/-- a key: an int or a str -/
abbrev Key := Sum Int Str
def keyIs : Key → Value → Bool
  | .inl k, v => Value.isInt k v
  | .inr x, v => Value.isStrOf x v
def keyH (w : World) : Key → Int
  | .inl k => hashInt k
  | .inr x => hashStr w x
theorem keyIs_shape : ∀ {k : Key} {v : Value}, keyIs k v = true → (∃ i t, k = Sum.inl i ∧ v = Value.int i t) ∨ (∃ x t, k = Sum.inr x ∧ v = Value.str x t)
  | .inl i, v, h => by
    obtain ⟨t, e⟩ := Value.isInt_shape (k := i) (v := v) h
    exact .inl ⟨i, t, rfl, e⟩
  | .inr x, v, h => by
    obtain ⟨t, e⟩ := Value.isStrOf_shape (x := x) (v := v) h
    exact .inr ⟨x, t, rfl, e⟩
theorem key_ll (a b : Int) : decide ((Sum.inl a : Key) = Sum.inl b) = (a == b) := by
  by_cases e : a = b
  · subst e; simp
  · have h : ¬ (Sum.inl a : Key) = Sum.inl b := fun q => e (Sum.inl.inj q)
    rw [decide_eq_false h]
    exact (beq_eq_false_iff_ne.mpr e).symm
theorem key_rr (a b : Str) : decide ((Sum.inr a : Key) = Sum.inr b) = decide (a = b) := by
  by_cases e : a = b
  · subst e; simp
  · have h : ¬ (Sum.inr a : Key) = Sum.inr b := fun q => e (Sum.inr.inj q)
    rw [decide_eq_false h, decide_eq_false e]
theorem key_lr (a : Int) (b : Str) : decide ((Sum.inl a : Key) = Sum.inr b) = false := decide_eq_false (fun q => nomatch q)
theorem key_rl (a : Str) (b : Int) : decide ((Sum.inr a : Key) = Sum.inl b) = false := decide_eq_false (fun q => nomatch q)

def mixKind (prog : Program) (w : World) : PySem.KeyKind prog w Key where
  is := keyIs
  hash := keyH w
  inj := fun v a b ha hb => by
    rcases keyIs_shape ha with ⟨i, t, rfl, rfl⟩ | ⟨x, t, rfl, rfl⟩
    · rcases keyIs_shape hb with ⟨j, u, rfl, e⟩ | ⟨y, u, rfl, e⟩
      · injection e with e1 _; rw [e1]
      · exact nomatch e
    · rcases keyIs_shape hb with ⟨j, u, rfl, e⟩ | ⟨y, u, rfl, e⟩
      · exact nomatch e
      · injection e with e1 _; rw [e1]
  byValue := fun k v h => by
    rcases keyIs_shape h with ⟨i, t, rfl, rfl⟩ | ⟨x, t, rfl, rfl⟩ <;> rfl
  pyHash := fun hv h => by
    rcases keyIs_shape hv with ⟨i, t, rfl, rfl⟩ | ⟨x, t, rfl, rfl⟩
    · exact wpAny_pyHash_int h
    · exact wpAny_pyHash_str h
  eqBool := fun hu hv h => by
    rcases keyIs_shape hu with ⟨i, t, rfl, rfl⟩ | ⟨x, t, rfl, rfl⟩
    · rcases keyIs_shape hv with ⟨j, u, rfl, rfl⟩ | ⟨y, u, rfl, rfl⟩
      · rw [key_ll] at h; exact wpAny_eqBool_int h
      · rw [key_lr] at h; exact SeqAt.EqAt.int_str i t y u _ _ _ _ h
    · rcases keyIs_shape hv with ⟨j, u, rfl, rfl⟩ | ⟨y, u, rfl, rfl⟩
      · rw [key_rl] at h; exact SeqAt.EqAt.str_int x t j u _ _ _ _ h
      · rw [key_rr] at h; exact wpAny_eqBool_str h
  «strs» := fun k x t v h => by
    rcases keyIs_shape h with ⟨i, u, rfl, e⟩ | ⟨y, u, rfl, e⟩
    · exact nomatch e
    · injection e with e1 _
      subst e1
      cases v <;> rfl

end L2

namespace L2
open PySem PySem.Spec PyProof.Rows

/-- a value, without the heap -/
inductive V where
  | non | bl (b : Bool) | int (i : Int) | str (x : Str) | byt (b : Array UInt8) | flt (b : UInt64) | ref (a : Addr) | ty (n : String)
  deriving DecidableEq

def RelV : V → Value → Prop
  | .non, u => u = Value.none
  | .bl b, u => u = Value.bool b
  | .int i, u => ∃ t, u = Value.int i t
  | .str x, u => ∃ t, u = Value.str x t
  | .byt b, u => ∃ t, u = Value.bytes b t
  | .flt b, u => ∃ t, u = Value.float b t
  | .ref a, u => u = Value.ref a
  | .ty n, u => u = Value.type n

abbrev Vals : List V → List Value → Prop := Paired RelV
theorem Vals.length {xs : List V} {us : List Value} (r : Vals xs us) : xs.length = us.length := Paired.length r
theorem Vals.get : ∀ {xs : List V} {us : List Value} {i : Nat} {x : V}, Vals xs us → xs[i]? = some x → ∃ u, us[i]? = some u ∧ RelV x u
  | _, _, _, _, .nil, e => by simp at e
  | _, _, 0, _, .cons r _, e => by simp at e; subst e; exact ⟨_, rfl, r⟩
  | _, _, i + 1, x, .cons _ t, e => by
    obtain ⟨u, h1, h2⟩ := Vals.get (i := i) (x := x) t (by simpa using e)
    exact ⟨u, by simpa using h1, h2⟩
theorem Vals.set {x : V} {u : Value} (r : RelV x u) : ∀ {xs : List V} {us : List Value} (i : Nat), Vals xs us → Vals (xs.set i x) (us.set i u)
  | _, _, _, .nil => .nil
  | _, _, 0, .cons _ t => .cons r t
  | _, _, i + 1, .cons q t => .cons q (Vals.set r i t)
theorem Vals.append : ∀ {xs ys : List V} {us ws : List Value}, Vals xs us → Vals ys ws → Vals (xs ++ ys) (us ++ ws)
  | _, _, _, _, .nil, s => s
  | _, _, _, _, .cons r t, s => .cons r (Vals.append t s)
theorem Vals.take : ∀ {xs : List V} {us : List Value} (n : Nat), Vals xs us → Vals (xs.take n) (us.take n)
  | _, _, 0, _ => .nil
  | _, _, _ + 1, .nil => .nil
  | _, _, n + 1, .cons r t => .cons r (Vals.take n t)
theorem Vals.drop : ∀ {xs : List V} {us : List Value} (n : Nat), Vals xs us → Vals (xs.drop n) (us.drop n)
  | _, _, 0, r => r
  | _, _, _ + 1, .nil => .nil
  | _, _, n + 1, .cons _ t => Vals.drop n t
def RelO : Option V → Option Value → Prop
  | some v, some u => RelV v u
  | none, none => True
  | _, _ => False
def KV {κ : Type} : List (κ × V) → List (κ × Value) → Prop := Paired fun (p : κ × V) (q : κ × Value) => p.1 = q.1 ∧ RelV p.2 q.2

/-- a key of a dict (00_mix): an int or a text -/
def kV : Key → V
  | .inl i => .int i
  | .inr x => .str x

/-- what stands at a tracked address -/
inductive HO where
  /-- a list -/
  | lst (xs : List V)
  /-- a tuple (never changes) -/
  | tup (xs : List V)
  /-- a dict whose keys are ints and texts; one whose keys are tuples of ints and texts (the empty one is both) -/
  | dK (kvs : List (Key × V)) | dT (kvs : List (List Key × V))
  /-- a set of ints: its members, its size -/
  | set (S : Int → Bool) (n : Nat)
  /-- an instance of the class at C, its dict at dx, its attributes -/
  | ins (C dx : Addr) (fs : List (Str × V))
  /-- the dict of the instance at x -/
  | own (x : Addr)
  /-- the dict of an exception -/
  | xd (fs : List (Str × V))
  /-- a bound method, f of x -/
  | met (f x : Addr)
  /-- a range object lo, lo + 1, .. below hi -/
  | rng (lo hi : Int)
  /-- a thing that is known to the object (the script; a dict while a loop walks it): read, never written while it is so -/
  | frz (o : Obj) (u : HO)
  /-- a code object's table -/
  | tbl (ps : Array Value)
  /-- any other thing, by what is true of its one object (a def of one's own: SetO a S n := HO.ext fun h => ..) -/
  | ext (φ : Heap → Prop)

abbrev Hp := Addr → Option HO
def upd (H : Hp) (a : Addr) (o : HO) : Hp := fun b => if b = a then some o else H b
theorem upd_same {H : Hp} {a : Addr} {o : HO} : upd H a o a = some o := by unfold upd; rw [if_pos rfl]
theorem upd_ne {H : Hp} {a b : Addr} {o : HO} (h : b ≠ a) : upd H a o b = H b := by unfold upd; rw [if_neg h]
theorem ne_of_none {H : Hp} {a b : Addr} {o : HO} (h : H a = some o) (h' : H b = none) : a ≠ b := by
  intro e; subst e; rw [h] at h'; cases h'

/-- a tuple without a dict of its own -/
def IsTupD (h : Heap) (a : Addr) (items : Array Value) : Prop := ∃ o, h.get? a = some o ∧ o.cls = .type "tuple" ∧ ∃ n, o.data = .seq items n ∧ o.dict = none
theorem IsTupD.tup {h : Heap} {a : Addr} {items : Array Value} (q : IsTupD h a items) : IsTup h a items := by
  obtain ⟨o, e, c, n, d, _⟩ := q
  exact ⟨o, e, c, n, d⟩
theorem IsTupD.new (h : Heap) (items : Array Value) : IsTupD (h.push { cls := .type "tuple", data := .seq items }) h.objs.size items := ⟨_, Heap.get?_push_size _ rfl, rfl, _, rfl, rfl⟩
section
variable (P : Program) (w : World)
def ObjOk (H : Hp) (h : Heap) (a : Addr) : HO → Prop
  | .lst xs => xs.length ≤ sizeLine ∧ ∃ (its : List Value) (n : Nat), Vals xs its ∧ h.get? a = some { cls := .type "list", data := .seq its.toArray n }
  | .tup xs => xs.length ≤ sizeLine ∧ ∃ its : List Value, Vals xs its ∧ IsTupD h a its.toArray
  | .dK kvs => kvs.length ≤ sizeLine ∧ (a == sysModules) = false ∧ ∃ vs, KV kvs vs ∧ h.DictOf (mixKind P w) a vs
  | .dT kvs => kvs.length ≤ sizeLine ∧ (a == sysModules) = false ∧ ∃ xs : List (List Key × Addr × Value),
      Paired (fun (p : List Key × V) (q : List Key × Addr × Value) => p.1 = q.1 ∧ H q.2.1 = some (.tup (p.1.map kV)) ∧ RelV p.2 q.2.2) kvs xs ∧
      ∃ o es ep, h.get? a = some o ∧ o.ExactDict ∧ o.data = .dict es ep ∧ es.toList = xs.map (entryOfKey (tupleKind (mixKind P w))) ∧ (xs.map (·.1)).Nodup
  | .set S n => h.SetOf (intKind P w) a S n
  | .ins C dx fs => H dx = some (.own a) ∧ fs.length ≤ 1000 ∧ dx ≠ a ∧ h.get? a = some (PySem.W.instObj C dx) ∧
      ∃ mA, h.Ns1 dx mA ∧ (∀ f, RelO (fs.lookup f) (mA f)) ∧ PySem.Within mA (fs.map (·.1))
  | .own _ => ∃ o, h.get? a = some o
  | .xd fs => ∃ mA, h.Ns1 a mA ∧ ∀ f, RelO (fs.lookup f) (mA f)
  | .rng lo hi => ∃ t u v, h.get? a = some { cls := .type "range", data := .fields #[.int lo t, .int hi u, .int 1 v] }
  | .frz o u => h.get? a = some o ∧ ObjOk H h a u
  | .tbl ps => h.get? a = some { cls := .none, data := .fields ps }
  | .met f x => h.get? a = some (PySem.W.methodObj (.ref f) (.ref x))
  | .ext φ => φ h ∧ (∃ o, h.get? a = some o) ∧ ∀ h1 h2 : Heap, φ h1 → (∀ o, h1.get? a = some o → h2.get? a = some o) → φ h2
/-- the abstract heap is held -/
def HOk (H : Hp) (h : Heap) : Prop := ∀ a o, H a = some o → ObjOk P w H h a o
end

section
variable {P : Program} {w : World} {H H' : Hp} {h h' : Heap} {a : Addr} {o : HO}
theorem ObjOk.lt (x : ObjOk P w H h a o) : a < h.objs.size := by
  cases o with
  | lst xs => obtain ⟨_, _, _, _, e⟩ := x; exact Heap.lt_size e
  | tup xs => obtain ⟨_, _, _, p⟩ := x; exact p.tup.lt
  | dK kvs => obtain ⟨_, _, _, _, o, _, _, e, _⟩ := x; exact Heap.lt_size e
  | dT kvs => obtain ⟨_, _, _, _, o, _, _, e, _⟩ := x; exact Heap.lt_size e
  | set S n => obtain ⟨o, _, _, _, e, _⟩ := x; exact Heap.lt_size e
  | ins C dx fs => obtain ⟨_, _, _, e, _⟩ := x; exact Heap.lt_size e
  | own y => obtain ⟨_, e⟩ := x; exact Heap.lt_size e
  | xd fs => obtain ⟨_, ⟨_, _, _, e, _⟩, _⟩ := x; exact Heap.lt_size e
  | rng lo hi => obtain ⟨_, _, _, e⟩ := x; exact Heap.lt_size e
  | frz ob u => obtain ⟨e, _⟩ := x; exact Heap.lt_size e
  | tbl ps => exact Heap.lt_size (show h.get? a = some _ from x)
  | met f y => exact Heap.lt_size (show h.get? a = some _ from x)
  | ext φ => obtain ⟨_, ⟨_, e⟩, _⟩ := x; exact Heap.lt_size e
theorem Paired.mapP {α β : Type} {F G : α → β → Prop} : ∀ {l₁ : List α} {l₂ : List β}, Paired F l₁ l₂ → (∀ a b, F a b → G a b) → Paired G l₁ l₂
  | _, _, .nil, _ => .nil
  | _, _, .cons r t, f => .cons (f _ _ r) (Paired.mapP t f)
/-- what an object's description leans on: its own object, its own dict, the tuples -/
theorem ObjOk.stay (x : ObjOk P w H h a o) (k : ∀ b u, (b = a ∨ H b = some (.own a)) → h.get? b = some u → h'.get? b = some u)
    (ho : ∀ b, H b = some (.own a) → H' b = some (.own a)) (ht : ∀ b xs, H b = some (.tup xs) → H' b = some (.tup xs)) : ObjOk P w H' h' a o := by
  induction o with
  | lst xs => obtain ⟨z, its, n, r, e⟩ := x; exact ⟨z, its, n, r, k _ _ (.inl rfl) e⟩
  | tup xs => obtain ⟨z, its, r, ob, e, c⟩ := x; exact ⟨z, its, r, ob, k _ _ (.inl rfl) e, c⟩
  | dK kvs => obtain ⟨z, y, vs, r, ob, es, ep, e, c⟩ := x; exact ⟨z, y, vs, r, ob, es, ep, k _ _ (.inl rfl) e, c⟩
  | dT kvs =>
    obtain ⟨z, y, xs, r, ob, es, ep, e, c⟩ := x
    exact ⟨z, y, xs, Paired.mapP r fun p q z => ⟨z.1, ht _ _ z.2.1, z.2.2⟩, ob, es, ep, k _ _ (.inl rfl) e, c⟩
  | set S n => obtain ⟨ob, es, ep, t, e, c⟩ := x; exact ⟨ob, es, ep, t, k _ _ (.inl rfl) e, c⟩
  | ins C dx fs =>
    obtain ⟨d, z, ne, e, mA, ⟨od, es, ep, e2, c⟩, r⟩ := x
    exact ⟨ho _ d, z, ne, k _ _ (.inl rfl) e, mA, ⟨od, es, ep, k _ _ (.inr d) e2, c⟩, r⟩
  | own y => obtain ⟨ob, e⟩ := x; exact ⟨ob, k _ _ (.inl rfl) e⟩
  | xd fs => obtain ⟨mA, ⟨od, es, ep, e, c⟩, r⟩ := x; exact ⟨mA, ⟨od, es, ep, k _ _ (.inl rfl) e, c⟩, r⟩
  | rng lo hi => obtain ⟨t, u, v, e⟩ := x; exact ⟨t, u, v, k _ _ (.inl rfl) e⟩
  | frz ob u ih => obtain ⟨e, q⟩ := x; exact ⟨k _ _ (.inl rfl) e, ih q⟩
  | tbl ps =>
    have e : h.get? a = some { cls := .none, data := .fields ps } := x
    show h'.get? a = some { cls := .none, data := .fields ps }
    exact k a _ (.inl rfl) e
  | met f y =>
    have e : h.get? a = some (PySem.W.methodObj (.ref f) (.ref y)) := x
    show h'.get? a = some (PySem.W.methodObj (.ref f) (.ref y))
    exact k a _ (.inl rfl) e
  | ext φ => obtain ⟨p, ⟨o, e⟩, st⟩ := x; exact ⟨st _ _ p fun o q => k _ _ (.inl rfl) q, ⟨o, k _ _ (.inl rfl) e⟩, st⟩
theorem HOk.lt (x : HOk P w H h) (e : H a = some o) : a < h.objs.size := (x a o e).lt
theorem HOk.fresh (x : HOk P w H h) (e : h.objs.size ≤ a) : H a = none := by
  cases q : H a with
  | none => rfl
  | some u => exact absurd (Nat.lt_of_lt_of_le (x.lt q) e) (Nat.lt_irrefl _)
/-- every object of the heap is kept -/
theorem HOk.kept (x : HOk P w H h) (k : ∀ b u, h.get? b = some u → h'.get? b = some u) : HOk P w H h' := fun a o e =>
  (x a o e).stay (fun b u _ q => k b u q) (fun _ q => q) fun _ _ q => q
/-- a new object is laid and tracked -/
theorem HOk.laid (x : HOk P w H h) (k : ∀ b u, h.get? b = some u → h'.get? b = some u) (hp : h.objs.size ≤ a) (new : ObjOk P w (upd H a o) h' a o) : HOk P w (upd H a o) h' := fun b u e => by
  have hn := x.fresh hp
  by_cases hb : b = a
  · subst hb; rw [upd_same] at e; cases e; exact new
  · rw [upd_ne hb] at e
    exact (x b u e).stay (fun c v _ q => k c v q) (fun c q => by rw [upd_ne (ne_of_none q hn)]; exact q) fun c xs q => by rw [upd_ne (ne_of_none q hn)]; exact q
end

/-- what may be read as u: it is u, or a known u -/
def Rd (H : Hp) (a : Addr) (u : HO) : Prop := H a = some u ∨ ∃ o, H a = some (.frz o u)
theorem Rd.of {H : Hp} {a : Addr} {u : HO} (h : H a = some u) : Rd H a u := .inl h
theorem Rd.ok {P : Program} {w : World} {H : Hp} {h : Heap} {a : Addr} {u : HO} (r : Rd H a u) (x : HOk P w H h) : ObjOk P w H h a u := by
  rcases r with r | ⟨o, r⟩
  · exact x a u r
  · obtain ⟨_, q⟩ := x a _ r
    exact q
/-- what may be written -/
def Mut : Option HO → Prop
  | some (.lst _) => True
  | some (.dK _) => True
  | some (.dT _) => True
  | some (.set _ _) => True
  | some (.ins _ _ _) => True
  | some (.ext _) => True
  | _ => False
section
variable {P : Program} {w : World} {H : Hp} {h h' : Heap} {x e : Addr} {o' : HO}
/-- the object at e is changed: x itself, or the dict of the instance x -/
theorem HOk.write (ok : HOk P w H h) (mu : Mut (H x)) (he : e = x ∨ H e = some (.own x)) (k : ∀ b u, b ≠ e → h.get? b = some u → h'.get? b = some u) (heo : ∃ u, h'.get? e = some u)
    (new : ObjOk P w (upd H x o') h' x o') : HOk P w (upd H x o') h' := fun b u q => by
  have nown : ∀ c y, H c = some (.own y) → c ≠ x := fun c y r z => by subst z; rw [r] at mu; exact mu
  have ntup : ∀ c xs, H c = some (.tup xs) → c ≠ x := fun c xs r z => by subst z; rw [r] at mu; exact mu
  by_cases hb : b = x
  · subst hb; rw [upd_same] at q; cases q; exact new
  · rw [upd_ne hb] at q
    by_cases hbe : b = e
    · have q' : H b = some (.own x) := by
        rcases he with z | z
        · exact absurd (hbe.trans z) hb
        · rw [hbe]; exact z
      rw [q] at q'; cases q'
      obtain ⟨v, hv⟩ := heo
      exact ⟨v, by rw [hbe]; exact hv⟩
    · refine (ok b u q).stay (fun c v hc r => k c v ?_ r) (fun c r => by rw [upd_ne (nown c b r)]; exact r) fun c xs r => by rw [upd_ne (ntup c xs r)]; exact r
      rcases hc with rfl | hc
      · exact hbe
      · rintro rfl
        rcases he with z | z
        · exact nown c b hc z
        · rw [hc] at z; cases z; exact hb rfl
end

/-! ### kept unless tracked; of the frames at fs (the callers') the slots may change (an exception that passes writes there); of the records at ex (iterators) nothing is said -/
structure Un (fs ex : List Addr) (H H' : Hp) (h h' : Heap) : Prop where
  keep : ∀ b o, h.get? b = some o → H b = none → b ∉ fs → b ∉ ex → h'.get? b = some o
  slot : ∀ b o, h.get? b = some o → H b = none → b ∈ fs → b ∉ ex → ∃ sl, h'.get? b = some { o with slots := sl }
  free : ∀ b o, h.get? b = some o → H b = none → b ∉ ex → H' b = none
  there : ∀ b o, h.get? b = some o → b ∉ ex → ∃ o', h'.get? b = some o'
  tups : ∀ b xs, H b = some (.tup xs) → H' b = some (.tup xs)
  frzs : ∀ b o u, H b = some (.frz o u) → H' b = some (.frz o u)
  tbls : ∀ b ps, H b = some (.tbl ps) → ∃ more, H' b = some (.tbl (ps ++ more))
section
variable {fs fs' ex ex' : List Addr} {H H1 H2 : Hp} {h h1 h2 h' : Heap} {a x e : Addr} {o : HO}
theorem Un.any (u : Un fs ex H H1 h h1) {b : Addr} {ob : Obj} (q : h.get? b = some ob) (n : H b = none) (hx : b ∉ ex) : ∃ sl, h1.get? b = some { ob with slots := sl } := by
  by_cases hb : b ∈ fs
  · exact u.slot b ob q n hb hx
  · exact ⟨ob.slots, u.keep b ob q n hb hx⟩
theorem Un.trans (a : Un fs ex H H1 h h1) (b : Un fs ex H1 H2 h1 h2) : Un fs ex H H2 h h2 where
  keep := fun c ob q n hc hx => b.keep c ob (a.keep c ob q n hc hx) (a.free c ob q n hx) hc hx
  slot := fun c ob q n hc hx => by
    obtain ⟨sl, e1⟩ := a.slot c ob q n hc hx
    obtain ⟨sl', e2⟩ := b.slot c _ e1 (a.free c ob q n hx) hc hx
    exact ⟨sl', e2⟩
  free := fun c ob q n hx => by
    obtain ⟨o', e1⟩ := a.there c ob q hx
    exact b.free c o' e1 (a.free c ob q n hx) hx
  there := fun c ob q hx => by
    obtain ⟨o', e1⟩ := a.there c ob q hx
    exact b.there c o' e1 hx
  tups := fun c xs q => b.tups c xs (a.tups c xs q)
  frzs := fun c ob xs q => b.frzs c ob xs (a.frzs c ob xs q)
  tbls := fun c ps q => by
    obtain ⟨m1, e1⟩ := a.tbls c ps q
    obtain ⟨m2, e2⟩ := b.tbls c _ e1
    exact ⟨m1 ++ m2, by rw [e2, Array.append_assoc]⟩
theorem Un.kept (k : ∀ b u, h.get? b = some u → h'.get? b = some u) : Un fs ex H H h h' :=
  ⟨fun b ob q _ _ _ => k b ob q, fun b ob q _ _ _ => ⟨ob.slots, k b ob q⟩, fun _ _ _ n _ => n, fun b ob q _ => ⟨ob, k b ob q⟩, fun _ _ q => q, fun _ _ _ q => q, fun _ ps q => ⟨#[], by rw [q]; simp⟩⟩
theorem Un.refl : Un fs ex H H h h := Un.kept fun _ _ q => q
theorem Un.laid (k : ∀ b u, h.get? b = some u → h'.get? b = some u) (hp : h.objs.size ≤ a) (hn : H a = none) : Un fs ex H (upd H a o) h h' where
  keep := fun b u q _ _ _ => k b u q
  slot := fun b u q _ _ _ => ⟨u.slots, k b u q⟩
  free := fun b u q n _ => by rw [upd_ne (Nat.ne_of_lt (Nat.lt_of_lt_of_le (Heap.lt_size q) hp))]; exact n
  there := fun b u q _ => ⟨u, k b u q⟩
  tups := fun b xs q => by rw [upd_ne (ne_of_none q hn)]; exact q
  frzs := fun b u xs q => by rw [upd_ne (ne_of_none q hn)]; exact q
  tbls := fun b ps q => ⟨#[], by rw [upd_ne (ne_of_none q hn), q]; simp⟩
theorem Un.write (mu : Mut (H x)) (he : e = x ∨ H e = some (.own x)) (k : ∀ b u, b ≠ e → h.get? b = some u → h'.get? b = some u) (heo : ∃ u, h'.get? e = some u) : Un fs ex H (upd H x o) h h' := by
  have hx : ∀ b, H b = none → b ≠ x := fun b n z => by subst z; rw [n] at mu; exact mu
  have hb : ∀ b, H b = none → b ≠ e := fun b n z => by
    subst z
    rcases he with r | r
    · exact hx b n r
    · rw [n] at r; cases r
  have hm : ∀ b u, H b = some u → ¬ Mut (some u) → b ≠ x := fun b u q nm z => by subst z; rw [q] at mu; exact nm mu
  refine ⟨fun b u q n _ _ => k b u (hb b n) q, fun b u q n _ _ => ⟨u.slots, k b u (hb b n) q⟩, fun b u q n _ => by rw [upd_ne (hx b n)]; exact n, fun b u q _ => ?_,
    fun b xs q => by rw [upd_ne (hm b _ q fun z => z)]; exact q, fun b u xs q => by rw [upd_ne (hm b _ q fun z => z)]; exact q, fun b ps q => ⟨#[], by rw [upd_ne (hm b _ q fun z => z), q]; simp⟩⟩
  by_cases hbe : b = e
  · subst hbe; exact heo
  · exact ⟨u, k b u hbe q⟩
theorem Un.mono (u : Un fs ex H H1 h h1) (hs : ∀ b ∈ fs, b ∈ fs') (hx : ∀ b ∈ ex, b ∈ ex') : Un fs' ex' H H1 h h1 :=
  ⟨fun b ob q n hb he => u.keep b ob q n (fun z => hb (hs b z)) fun z => he (hx b z), fun _ _ q n _ he => u.any q n fun z => he (hx _ z), fun b ob q n he => u.free b ob q n fun z => he (hx b z), fun b ob q he => u.there b ob q fun z => he (hx b z), u.tups, u.frzs, u.tbls⟩
end

/-! ### the heap without what is tracked -/
def trk (h : Heap) (H : Hp) : List Addr := (List.range h.objs.size).filter fun a => (H a).isSome
def hidT (h : Heap) (H : Hp) : Heap := PySem.W.hideAll h (trk h H)
theorem hidT_size (h : Heap) (H : Hp) : (hidT h H).objs.size = h.objs.size := PySem.W.hideAll_size _ _
theorem hidT_get {h : Heap} {H : Hp} {b : Addr} {o : Obj} (e : h.get? b = some o) (n : H b = none) : (hidT h H).get? b = some o :=
  PySem.W.hideAll_get _ e fun hm => by
    have q : (H b).isSome = true := (List.mem_filter.mp hm).2
    rw [n] at q; simp at q
theorem of_hidT {h : Heap} {H : Hp} {b : Addr} {o : Obj} (e : (hidT h H).get? b = some o) : h.get? b = some o ∧ H b = none := by
  have e' : h.get? b = some o := PySem.W.of_hideAll (trk h H) e
  refine ⟨e', ?_⟩
  cases q : H b with
  | none => rfl
  | some x =>
    have hm : b ∈ trk h H := List.mem_filter.mpr ⟨List.mem_range.mpr (Heap.lt_size e'), by simp [q]⟩
    have z : (hidT h H).get? b = none := PySem.W.hideAll_none (trk h H) hm
    rw [z] at e; cases e

/-! ### OpenK's ledger, filled with every new object but one -/
def allNews (g h : Heap) (L : Addr) : List (Addr × Obj) := (List.range h.objs.size).filterMap fun a => if a = L ∨ (g.get? a).isSome = true then none else (h.get? a).map fun o => (a, o)
def rest (g h : Heap) (L d : Addr) : List (Addr × Obj) := (allNews g h L).filter fun p => decide (p.1 ≠ d)
end L2

namespace L2
open PySem PySem.Spec PyProof.Rows

/-- the module's facts, over the base: the heap at the law's entry without what is tracked there -/
structure Mod (K : PySem.W.Frag) (mg : Str → Option Value) (base : Heap) : Prop where
  kin : K.In base
  glob : base.Ns mainGlobals mg
  blt : ∃ mb, base.Ns builtinsNs mb ∧ ∀ x : Str, x ≠ "__name__" → mb x = bootBuiltins x
  nolimit : base.NoLimit

/-- the context: a def's body (or a comprehension's block) running. base: fixed through the whole law; s₀, H₀: the entry; outer: the frames whose slots others may change (a def's callers); stack: all frames that run;
   ex: iterators that were made ahead of the entry and are walked here (a comprehension's); fn: the names whose cells were made at the entry (a def: all; a comprehension's block: its own); calm: not within an except suite; pn: pins that every state bears; xe: what is wanted of an exception that leaves the code -/
structure Cx where
  prog : Program
  w : World
  K : PySem.W.Frag
  mg : Str → Option Value
  base : Heap
  A : Around
  N : List Str
  s₀ : Shared
  H₀ : Hp
  env : Env
  outer : List Env
  stack : List Env
  ex : List Addr
  fn : Str → Bool
  calm : Bool
  pn : List (Addr × Obj)
  xe : Value → Shared → Prop
/-- the callers' frames -/
def frs (l : List Env) : List Addr := l.filterMap (·.frame)
abbrev Cx.fs (X : Cx) : List Addr := frs X.outer

def Vis (sc : Scope) (x : Str) : Prop := sc.names.lookup x = some .local ∨ sc.names.lookup x = some .cell ∨ sc.names.lookup x = some .free
def Loc (sc : Scope) (x : Str) : Prop := sc.names.lookup x = some .local ∨ sc.names.lookup x = some .cell
def Look (env : Env) (h : Heap) (m : Str → Option Value) (x : Str) (u : Value) : Prop :=
  (env.kindOf x = some .local ∧ m x = some u) ∨ ((env.kindOf x = some .cell ∨ env.kindOf x = some .free) ∧ ∃ c, env.cells.lookup x = some c ∧ h.IsCell c (some u))

structure Cx.Ok (X : Cx) : Prop where
  mod : Mod X.K X.mg X.base
  kind : X.env.scope.kind = .function
  glob : X.env.globals = mainGlobals
  blt : X.env.builtins = builtinsNs
  above : X.s₀.heap.objs.size ≤ X.env.locals
  inj : ∀ x y c, X.env.cells.lookup x = some c → X.env.cells.lookup y = some c → x = y
  has : ∀ x, (X.env.kindOf x = some .cell ∨ X.env.kindOf x = some .free) → ∃ c, X.env.cells.lookup x = some c
  cab : ∀ x c, X.fn x = true → X.env.cells.lookup x = some c → X.s₀.heap.objs.size ≤ c
  hd : X.calm = true → X.A.handled = none
  frames : X.A.frames = some X.stack
  stk : X.stack = X.outer ∨ (X.stack = X.env :: X.outer ∧ X.env.frame = some X.env.locals)
  exf : ∀ b ∈ X.ex, b ≠ X.env.locals ∧ ∀ x c, X.env.cells.lookup x = some c → c ≠ b
  bs : ∀ b o, X.base.get? b = some o → X.s₀.heap.get? b = some o ∧ X.H₀ b = none
  bsz : X.base.objs.size ≤ X.s₀.heap.objs.size
  noex : ∀ b o, X.base.get? b = some o → b ∉ X.ex
  exfs : ∀ b ∈ X.ex, b ∉ X.fs
  funs : X.s₀.heap.FunFrames X.base X.outer
  frf : ∀ b ∈ X.fs, X.H₀ b = none

structure Inv (X : Cx) (pins : List (Addr × Obj)) (σ : List (Option V)) (H : Hp) (s : Shared) : Prop where
  ok : X.Ok
  os : s.os = X.s₀.os
  bare : AllBare s.gens
  base : Un X.fs X.ex X.H₀ H X.s₀.heap s.heap
  loc : ∃ m, s.heap.Ns X.env.locals m ∧ ∀ (i : Nat) (x : Str) (v : V), X.N[i]? = some x → σ[i]? = some (some v) → Vis X.env.scope x → ∃ u, RelV v u ∧ Look X.env s.heap m x u
  cell : ∀ x c, X.env.cells.lookup x = some c → ∃ v, s.heap.IsCell c v
  free : H X.env.locals = none
  freeC : ∀ x c, X.env.cells.lookup x = some c → H c = none
  pin : ∀ p ∈ X.pn ++ pins, s.heap.get? p.1 = some p.2 ∧ H p.1 = none ∧ p.1 ≠ X.env.locals ∧ p.1 ∉ X.fs ∧ ∀ v, p.2.data ≠ .cell v
  hok : HOk X.prog X.w H s.heap
  len : σ.length = X.N.length

section
variable {X : Cx} {pins : List (Addr × Obj)} {σ : List (Option V)} {H H' : Hp} {s : Shared} {h' : Heap}

theorem Cx.Ok.nofr (ok : X.Ok) {b : Addr} {o : Obj} (e : X.base.get? b = some o) : b ∉ X.fs := fun hb => by
  have := (ok.funs.mem hb).1
  rw [e] at this; cases this
theorem Inv.bs (I : Inv X pins σ H s) : ∀ b o, X.base.get? b = some o → s.heap.get? b = some o ∧ H b = none := fun b o e =>
  ⟨I.base.keep b o (I.ok.bs b o e).1 (I.ok.bs b o e).2 (I.ok.nofr e) (I.ok.noex b o e), I.base.free b o (I.ok.bs b o e).1 (I.ok.bs b o e).2 (I.ok.noex b o e)⟩
theorem Inv.bk (I : Inv X pins σ H s) : ∀ b o, X.base.get? b = some o → s.heap.get? b = some o := fun b o e => (I.bs b o e).1
theorem Inv.mod (I : Inv X pins σ H s) : Mod X.K X.mg X.base := I.ok.mod
theorem Inv.kIn (I : Inv X pins σ H s) : X.K.In s.heap := I.ok.mod.kin.keeps I.bk
theorem Inv.nolimit (I : Inv X pins σ H s) : s.heap.NoLimit := I.ok.mod.nolimit.keeps I.bk
/-- the frame over the base: for OpenK's rules (K.In X.base is I.mod.kin) -/
theorem Inv.fr (I : Inv X pins σ H s) : ∃ m, Fr X.base X.env.locals s.heap m :=
  let ⟨m, hn, _⟩ := I.loc
  ⟨m, hn, I.bk, Nat.le_trans I.ok.bsz I.ok.above⟩
theorem Inv.lt (I : Inv X pins σ H s) : X.env.locals < s.heap.objs.size := let ⟨_, hn, _⟩ := I.loc; hn.lt
theorem Inv.sz (I : Inv X pins σ H s) : X.s₀.heap.objs.size ≤ s.heap.objs.size := Nat.le_trans I.ok.above (Nat.le_of_lt I.lt)
theorem Inv.nofs (I : Inv X pins σ H s) {a : Addr} (h : s.heap.objs.size ≤ a) : a ∉ X.fs := fun hb => by
  obtain ⟨_, o, ho, _⟩ := I.ok.funs.mem hb
  exact absurd (Nat.lt_of_lt_of_le (Heap.lt_size ho) (Nat.le_trans I.sz h)) (Nat.lt_irrefl _)
theorem Inv.cne (I : Inv X pins σ H s) : ∀ x c, X.env.cells.lookup x = some c → c ≠ X.env.locals := fun x c e z => by
  obtain ⟨v, o, ho, hd⟩ := I.cell x c e
  obtain ⟨m, ⟨o', es, ep, ho', hd', _⟩, _⟩ := I.loc
  rw [z, ho'] at ho; cases ho; rw [hd'] at hd; cases hd
theorem Inv.funs (I : Inv X pins σ H s) : s.heap.FunFrames X.base X.outer := by
  have all : ∀ (l : List Env), (∀ b ∈ frs l, b ∈ X.fs) → X.s₀.heap.FunFrames X.base l → s.heap.FunFrames X.base l := by
    intro l
    induction l with
    | nil => intro _ _; trivial
    | cons env r ih =>
      intro hs hl
      obtain ⟨hk, ⟨L, o, hf, hn, ho, hd⟩, hr⟩ := hl
      have hL : L ∈ X.fs := hs L (by unfold frs; rw [List.filterMap_cons, hf]; exact List.mem_cons_self)
      obtain ⟨sl, e⟩ := I.base.slot L o ho (I.ok.frf L hL) hL fun z => I.ok.exfs L z hL
      exact ⟨hk, ⟨L, _, hf, hn, e, hd⟩, ih (fun b hb => hs b (by unfold frs; rw [List.filterMap_cons, hf]; exact List.mem_cons_of_mem _ hb)) hr⟩
  exact all X.outer (fun _ hb => hb) I.ok.funs

/-- the frames that run, for a call -/
theorem Inv.stack (I : Inv X pins σ H s) : s.heap.FunFrames X.base X.stack := by
  rcases I.ok.stk with e | ⟨e, hf⟩
  · rw [e]; exact I.funs
  · rw [e]
    obtain ⟨m, hn, _⟩ := I.loc
    refine .cons (by rw [I.ok.kind]; decide) hf hn ?_ I.funs
    exact Heap.get?_none_of_le (Nat.le_trans I.ok.bsz I.ok.above)
theorem Inv.stkSub (I : Inv X pins σ H s) : ∀ b ∈ frs X.stack, b ∈ X.env.locals :: X.fs := fun b hb => by
  rcases I.ok.stk with e | ⟨e, hf⟩
  · rw [e] at hb; exact List.mem_cons_of_mem _ hb
  · rw [e] at hb
    unfold frs at hb
    rw [List.filterMap_cons, hf] at hb
    exact hb
theorem Inv.stkFree (I : Inv X pins σ H s) : ∀ b ∈ frs X.stack, H b = none := fun b hb => by
  rcases List.mem_cons.mp (I.stkSub b hb) with e | hb
  · rw [e]; exact I.free
  · obtain ⟨_, o, ho, _⟩ := I.ok.funs.mem hb
    exact I.base.free b o ho (I.ok.frf b hb) fun z => I.ok.exfs b z hb

/-- THE STEP: the untracked objects but the frame and the records at ch are kept (the callers' frames up to slots), the frame's map is kept, the new abstract heap is held -/
theorem Inv.step {g' : Array GenState} {t' : Nat} {d' : Drawn} {ch : List Addr} (I : Inv X pins σ H s)
    (hch : ∀ b ∈ ch, (b ∈ X.ex ∨ X.s₀.heap.objs.size ≤ b) ∧ b ≠ X.env.locals ∧ (∀ x c, X.env.cells.lookup x = some c → c ≠ b) ∧ ∀ p ∈ X.pn ++ pins, p.1 ≠ b)
    (keep : ∀ b o, b ≠ X.env.locals → b ∉ X.fs → b ∉ ch → s.heap.get? b = some o → H b = none → h'.get? b = some o)
    (slot : ∀ b o, b ≠ X.env.locals → b ∈ X.fs → b ∉ ch → s.heap.get? b = some o → H b = none → ∃ sl, h'.get? b = some { o with slots := sl }) (free : ∀ b o, b ∉ ch → s.heap.get? b = some o → H b = none → H' b = none)
    (there : ∀ b o, b ∉ ch → s.heap.get? b = some o → ∃ o', h'.get? b = some o')
    (tups : ∀ b xs, H b = some (.tup xs) → H' b = some (.tup xs)) (frzs : ∀ b o u, H b = some (.frz o u) → H' b = some (.frz o u)) (tbls : ∀ b ps, H b = some (.tbl ps) → ∃ more, H' b = some (.tbl (ps ++ more)))
    (ns : ∀ m, s.heap.Ns X.env.locals m → h'.Ns X.env.locals m) (hok : HOk X.prog X.w H' h') (hg : AllBare g') :
    Inv X pins σ H' { s with heap := h', gens := g', drawn := d', toks := t' } := by
  have neL : ∀ b o, X.s₀.heap.get? b = some o → b ≠ X.env.locals := fun b o e => Nat.ne_of_lt (Nat.lt_of_lt_of_le (Heap.lt_size e) I.ok.above)
  have neC : ∀ b o, X.s₀.heap.get? b = some o → b ∉ X.ex → b ∉ ch := fun b o e hx hb => by
    rcases (hch b hb).1 with z | z
    · exact hx z
    · exact absurd (Nat.lt_of_lt_of_le (Heap.lt_size e) z) (Nat.lt_irrefl _)
  have cellK : ∀ x c, X.env.cells.lookup x = some c → ∀ v, s.heap.IsCell c v → h'.IsCell c v := fun x c e v ⟨o, ho, hd⟩ => by
    have nch : c ∉ ch := fun z => (hch c z).2.2.1 x c e rfl
    by_cases hc : c ∈ X.fs
    · obtain ⟨sl, q⟩ := slot c o (I.cne x c e) hc nch ho (I.freeC x c e)
      exact ⟨_, q, hd⟩
    · exact ⟨o, keep c o (I.cne x c e) hc nch ho (I.freeC x c e), hd⟩
  refine ⟨I.ok, I.os, hg, ⟨fun b o e n hb hx => ?_, fun b o e n hb hx => ?_, fun b o e n hx => ?_, fun b o e hx => ?_, fun b xs e => tups b xs (I.base.tups b xs e), fun b o xs e => frzs b o xs (I.base.frzs b o xs e), fun b ps e => ?_⟩, ?_, fun x c e => ?_, ?_, fun x c e => ?_, fun p hp => ?_, hok, I.len⟩
  · exact keep b o (neL b o e) hb (neC b o e hx) (I.base.keep b o e n hb hx) (I.base.free b o e n hx)
  · obtain ⟨sl, e1⟩ := I.base.slot b o e n hb hx
    obtain ⟨sl', e2⟩ := slot b _ (neL b o e) hb (neC b o e hx) e1 (I.base.free b o e n hx)
    exact ⟨sl', e2⟩
  · obtain ⟨o', e1⟩ := I.base.there b o e hx
    exact free b o' (neC b o e hx) e1 (I.base.free b o e n hx)
  · obtain ⟨o', e1⟩ := I.base.there b o e hx
    exact there b o' (neC b o e hx) e1
  · obtain ⟨m1, e1⟩ := I.base.tbls b ps e
    obtain ⟨m2, e2⟩ := tbls b _ e1
    exact ⟨m1 ++ m2, by rw [e2, Array.append_assoc]⟩
  · obtain ⟨m, hn, hl⟩ := I.loc
    refine ⟨m, ns m hn, fun i x v e1 e2 e3 => ?_⟩
    obtain ⟨u, r, l⟩ := hl i x v e1 e2 e3
    refine ⟨u, r, ?_⟩
    rcases l with l | ⟨k, c, e, z⟩
    · exact .inl l
    · exact .inr ⟨k, c, e, cellK x c e _ z⟩
  · obtain ⟨v, z⟩ := I.cell x c e
    exact ⟨v, cellK x c e v z⟩
  · obtain ⟨m, ⟨o, _, _, ho, _⟩, _⟩ := I.loc
    exact free _ o (fun z => (hch _ z).2.1 rfl) ho I.free
  · obtain ⟨v, o, ho, hd⟩ := I.cell x c e
    exact free c o (fun z => (hch c z).2.2.1 x c e rfl) ho (I.freeC x c e)
  · obtain ⟨e, n, ne, nf, d⟩ := I.pin p hp
    have nch : p.1 ∉ ch := fun z => (hch p.1 z).2.2.2 p hp rfl
    exact ⟨keep p.1 p.2 ne nf nch e n, free p.1 p.2 nch e n, ne, nf, d⟩
/-- .. where the frame's own object is kept too -/
theorem Inv.un {t' : Nat} (I : Inv X pins σ H s) (u : Un X.fs [] H H' s.heap h') (hok : HOk X.prog X.w H' h') : Inv X pins σ H' { s with heap := h', toks := t' } := by
  obtain ⟨m, ⟨o, es, ep, ho, r⟩, _⟩ := id I.loc
  obtain ⟨sl, hL⟩ := u.any ho I.free (by simp)
  exact I.step (g' := s.gens) (d' := s.drawn) (ch := []) (fun _ z => nomatch z) (fun b o _ hb _ e n => u.keep b o e n hb (by simp)) (fun b o _ hb _ e n => u.slot b o e n hb (by simp)) (fun b o _ e n => u.free b o e n (by simp)) (fun b o _ e => u.there b o e (by simp)) u.tups u.frzs u.tbls (fun m' hm => by
    obtain ⟨o', es', ep', ho', r'⟩ := hm
    rw [ho] at ho'; cases ho'
    exact ⟨_, es', ep', hL, r'⟩) hok I.bare
/-- behind a call (or a comprehension's block): the slots of this frame may have changed too, the records at ch may have turned -/
theorem Inv.call {g' : Array GenState} {t' : Nat} {d' : Drawn} {ch : List Addr} (I : Inv X pins σ H s) (u : Un (frs X.stack) ch H H' s.heap h') (hok : HOk X.prog X.w H' h') (hg : AllBare g')
    (hch : ∀ b ∈ ch, (b ∈ X.ex ∨ X.s₀.heap.objs.size ≤ b) ∧ b ≠ X.env.locals ∧ (∀ x c, X.env.cells.lookup x = some c → c ≠ b) ∧ ∀ p ∈ X.pn ++ pins, p.1 ≠ b) :
    Inv X pins σ H' { s with heap := h', gens := g', drawn := d', toks := t' } := by
  obtain ⟨m, ⟨o, es, ep, ho, r⟩, _⟩ := id I.loc
  obtain ⟨sl, hL⟩ := u.any ho I.free fun z => (hch _ z).2.1 rfl
  exact I.step (ch := ch) hch (fun b o hL hb hc e n => u.keep b o e n (fun z => (List.mem_cons.mp (I.stkSub b z)).elim hL hb) hc) (fun b o _ _ hc e n => u.any e n hc) (fun b o hc e n => u.free b o e n hc) (fun b o hc e => u.there b o e hc) u.tups u.frzs u.tbls (fun m' hm => by
    obtain ⟨o', es', ep', ho', r'⟩ := hm
    rw [ho] at ho'; cases ho'
    exact ⟨_, es', ep', hL, r'⟩) hok hg
/-- an untracked record of ours (an iterator) has turned -/
theorem Inv.turned {t' : Nat} {it : Addr} (I : Inv X pins σ H s) (k : ∀ b o, b ≠ it → s.heap.get? b = some o → h'.get? b = some o) (hn : H it = none) (hL : it ≠ X.env.locals)
    (h1 : it ∈ X.ex ∨ X.s₀.heap.objs.size ≤ it) (h2 : ∀ x c, X.env.cells.lookup x = some c → c ≠ it) (h3 : ∀ p ∈ X.pn ++ pins, p.1 ≠ it) : Inv X pins σ H { s with heap := h', toks := t' } := by
  have nit : ∀ b u, H b = some u → b ≠ it := fun b u e z => by rw [z, hn] at e; cases e
  refine I.step (g' := s.gens) (d' := s.drawn) (ch := [it]) (fun b hb => ?_) (fun b o _ _ hc e _ => k b o (fun z => hc (by simp [z])) e) (fun b o _ _ hc e _ => ⟨o.slots, k b o (fun z => hc (by simp [z])) e⟩) (fun _ _ _ _ n => n)
    (fun b o hc e => ⟨o, k b o (fun z => hc (by simp [z])) e⟩) (fun _ _ e => e) (fun _ _ _ e => e) (fun b ps e => ⟨#[], by rw [e]; simp⟩) (fun m hm => ?_) (fun b u e => ?_) I.bare
  · have e : b = it := by simpa using hb
    subst e
    exact ⟨h1, hL, h2, h3⟩
  · obtain ⟨o, es, ep, ho, r⟩ := hm
    exact ⟨o, es, ep, k _ o (Ne.symm hL) ho, r⟩
  · refine (I.hok b u e).stay (fun c v hc q => k c v ?_ q) (fun _ q => q) fun _ _ q => q
    rcases hc with z | z
    · rw [z]; exact nit b u e
    · exact nit c _ z
theorem Inv.tok (I : Inv X pins σ H s) (t : Nat) : Inv X pins σ H { s with toks := t } := I.un (h' := s.heap) (t' := t) Un.refl I.hok
/-- all objects kept -/
theorem Inv.kept {t' : Nat} (I : Inv X pins σ H s) (k : ∀ b u, s.heap.get? b = some u → h'.get? b = some u) : Inv X pins σ H { s with heap := h', toks := t' } := I.un (Un.kept k) (I.hok.kept k)
/-- a new object laid and tracked -/
theorem Inv.laid {a : Addr} {o : HO} {t' : Nat} (I : Inv X pins σ H s) (k : ∀ b u, s.heap.get? b = some u → h'.get? b = some u) (hp : s.heap.objs.size ≤ a) (new : ObjOk X.prog X.w (upd H a o) h' a o) :
    Inv X pins σ (upd H a o) { s with heap := h', toks := t' } := I.un (Un.laid k hp (I.hok.fresh hp)) (I.hok.laid k hp new)
/-- an object written -/
theorem Inv.write {x e : Addr} {o : HO} {t' : Nat} (I : Inv X pins σ H s) (mu : Mut (H x)) (he : e = x ∨ H e = some (.own x)) (k : ∀ b u, b ≠ e → s.heap.get? b = some u → h'.get? b = some u) (heo : ∃ u, h'.get? e = some u)
    (new : ObjOk X.prog X.w (upd H x o) h' x o) : Inv X pins σ (upd H x o) { s with heap := h', toks := t' } := I.un (Un.write mu he k heo) (I.hok.write mu he k heo new)
/-- forgetting slots, pins -/
theorem Inv.weak {σ' : List (Option V)} (I : Inv X pins σ H s) (hl : σ'.length = σ.length) (w : ∀ (i : Nat) v, σ'[i]? = some (some v) → σ[i]? = some (some v)) : Inv X pins σ' H s :=
  ⟨I.ok, I.os, I.bare, I.base, let ⟨m, hn, hl'⟩ := I.loc; ⟨m, hn, fun i x v e1 e2 e3 => hl' i x v e1 (w i v e2) e3⟩, I.cell, I.free, I.freeC, I.pin, I.hok, hl.trans I.len⟩
theorem Inv.pins_of {pins' : List (Addr × Obj)} (I : Inv X pins σ H s) (h : ∀ p ∈ pins', s.heap.get? p.1 = some p.2 ∧ H p.1 = none ∧ p.1 ≠ X.env.locals ∧ p.1 ∉ X.fs ∧ ∀ v, p.2.data ≠ .cell v) : Inv X pins' σ H s :=
  ⟨I.ok, I.os, I.bare, I.base, I.loc, I.cell, I.free, I.freeC, fun p hp => (List.mem_append.mp hp).elim (fun z => I.pin p (List.mem_append_left _ z)) (h p), I.hok, I.len⟩

theorem nodup_ix {N : List Str} (hN : N.Nodup) {i j : Nat} {x : Str} (a : N[i]? = some x) (b : N[j]? = some x) : i = j := by
  obtain ⟨h1, e1⟩ := List.getElem?_eq_some_iff.mp a
  obtain ⟨h2, e2⟩ := List.getElem?_eq_some_iff.mp b
  exact (List.getElem_inj hN).mp (e1.trans e2.symm)

/-- a name is stored; what changed -/
theorem store_ok2 {M : Model} {A : Around} {E : Value → Shared → Prop} {i : Nat} {x : Str} {v : V} {u : Value} {Q : Unit → Shared → Prop} (I : Inv X pins σ H s) (hN : X.N.Nodup) (hi : X.N[i]? = some x) (hx : Loc X.env.scope x) (r : RelV v u)
    (h : ∀ s', Inv X pins (σ.set i (some v)) H s' → (∃ a, Heap.SameBut a s.heap s'.heap ∧ (a = X.env.locals ∨ X.env.cells.lookup x = some a)) → Q () s') (hf : X.fn x = true ∨ X.env.scope.names.lookup x = some .local := by first | exact .inl rfl | exact .inr rfl | assumption) : wpAny M A (storeName X.env x u) Q E s := by
  obtain ⟨m, hn, hl⟩ := id I.loc
  have hcls : (X.env.scope.kind == .class || (X.env.scope.kind == .module && X.env.locals != X.env.globals)) = false := by rw [I.ok.kind]; rfl
  have hiσ : i < σ.length := by rw [I.len]; exact (List.getElem?_eq_some_iff.mp hi).1
  have cne := I.cne
  have tracked : ∀ {a : Addr} {h' : Heap}, (∃ o, s.heap.get? a = some o ∧ H a = none) → Heap.SameBut a s.heap h' → HOk X.prog X.w H h' := fun {a h'} ha hs b ob e => by
    obtain ⟨_, _, hfree⟩ := ha
    refine (I.hok b ob e).stay (fun c w' hc q => (hs.2 c ?_).trans q) (fun _ q => q) fun _ _ q => q
    rintro rfl
    rcases hc with rfl | hc
    · rw [hfree] at e; cases e
    · rw [hfree] at hc; cases hc
  rcases hx with hk | hk
  · refine wpAny_storeName_local hk hn (fun h' hn' hs => ?_) hcls
    obtain ⟨oL, _, _, hoL, _⟩ := id hn
    refine h _ ⟨I.ok, I.os, I.bare, ⟨fun b o e n hb hx => ?_, fun b o e n hb hx => ?_, I.base.free, fun b o e hx => ?_, I.base.tups, I.base.frzs, I.base.tbls⟩, ⟨_, hn', fun j y v' e1 e2 e3 => ?_⟩, fun y c e => ?_, I.free, I.freeC, fun p hp => ?_, tracked ⟨oL, hoL, I.free⟩ hs, by simpa using I.len⟩ ⟨_, hs, .inl rfl⟩
    · exact (hs.2 b (Nat.ne_of_lt (Nat.lt_of_lt_of_le (Heap.lt_size e) I.ok.above))).trans (I.base.keep b o e n hb hx)
    · obtain ⟨sl, e1⟩ := I.base.slot b o e n hb hx
      exact ⟨sl, (hs.2 b (Nat.ne_of_lt (Nat.lt_of_lt_of_le (Heap.lt_size e) I.ok.above))).trans e1⟩
    · obtain ⟨o', e1⟩ := I.base.there b o e hx
      exact ⟨o', (hs.2 b (Nat.ne_of_lt (Nat.lt_of_lt_of_le (Heap.lt_size e) I.ok.above))).trans e1⟩
    · by_cases hj : j = i
      · subst hj
        rw [hi] at e1; cases e1
        rw [List.getElem?_set_self hiσ] at e2
        cases e2
        exact ⟨u, r, .inl ⟨hk, by simp⟩⟩
      · rw [List.getElem?_set_ne (Ne.symm hj)] at e2
        obtain ⟨u', r', q⟩ := hl j y v' e1 e2 e3
        refine ⟨u', r', ?_⟩
        rcases q with ⟨k, e⟩ | ⟨k, c, e, z⟩
        · refine .inl ⟨k, ?_⟩
          have : y ≠ x := fun e => hj (nodup_ix hN e1 (e ▸ hi))
          simp [this, e]
        · exact .inr ⟨k, c, e, z.sameBut hs (cne y c e)⟩
    · obtain ⟨w', z⟩ := I.cell y c e
      exact ⟨w', z.sameBut hs (cne y c e)⟩
    · obtain ⟨e, n, ne, nf, d⟩ := I.pin p hp
      exact ⟨(hs.2 p.1 ne).trans e, n, ne, nf, d⟩
  · have hfn : X.fn x = true := by
      rcases hf with z | z
      · exact z
      · rw [z] at hk; cases hk
    obtain ⟨c, hc⟩ := I.ok.has x (.inl hk)
    obtain ⟨w', z⟩ := I.cell x c hc
    refine wpAny_storeName_cell I.ok.kind hk hc z (fun h' hc' hs => ?_)
    obtain ⟨oc, hoc, hocd⟩ := id z
    refine h { s with heap := h' } ⟨I.ok, I.os, I.bare, ⟨fun b o e n hb hx => ?_, fun b o e n hb hx => ?_, I.base.free, fun b o e hx => ?_, I.base.tups, I.base.frzs, I.base.tbls⟩, ⟨m, hn.sameBut hs (Ne.symm (cne x c hc)), fun j y v' e1 e2 e3 => ?_⟩, fun y c' e => ?_, I.free, I.freeC, fun p hp => ?_, tracked ⟨oc, hoc, I.freeC x c hc⟩ hs, by simpa using I.len⟩ ⟨c, hs, .inr hc⟩
    · exact (hs.2 b (Nat.ne_of_lt (Nat.lt_of_lt_of_le (Heap.lt_size e) (I.ok.cab x c hfn hc)))).trans (I.base.keep b o e n hb hx)
    · obtain ⟨sl, e1⟩ := I.base.slot b o e n hb hx
      exact ⟨sl, (hs.2 b (Nat.ne_of_lt (Nat.lt_of_lt_of_le (Heap.lt_size e) (I.ok.cab x c hfn hc)))).trans e1⟩
    · obtain ⟨o', e1⟩ := I.base.there b o e hx
      exact ⟨o', (hs.2 b (Nat.ne_of_lt (Nat.lt_of_lt_of_le (Heap.lt_size e) (I.ok.cab x c hfn hc)))).trans e1⟩
    · by_cases hj : j = i
      · subst hj
        rw [hi] at e1; cases e1
        rw [List.getElem?_set_self hiσ] at e2
        cases e2
        exact ⟨u, r, .inr ⟨.inl hk, c, hc, hc'⟩⟩
      · rw [List.getElem?_set_ne (Ne.symm hj)] at e2
        obtain ⟨u', r', q⟩ := hl j y v' e1 e2 e3
        refine ⟨u', r', ?_⟩
        rcases q with q | ⟨k, c', e, z'⟩
        · exact .inl q
        · refine .inr ⟨k, c', e, z'.sameBut hs ?_⟩
          rintro rfl
          exact hj (nodup_ix hN e1 (I.ok.inj _ _ _ e hc ▸ hi))
    · by_cases hcc : c' = c
      · subst hcc; exact ⟨_, hc'⟩
      · obtain ⟨w2, z2⟩ := I.cell y c' e
        exact ⟨w2, z2.sameBut hs hcc⟩
    · obtain ⟨e, n, ne, nf, d⟩ := I.pin p hp
      refine ⟨(hs.2 p.1 ?_).trans e, n, ne, nf, d⟩
      intro q
      rw [q, hoc] at e
      have q' : oc = p.2 := Option.some.inj e
      exact d w' (by rw [← q']; exact hocd)
theorem store_ok {M : Model} {A : Around} {E : Value → Shared → Prop} {i : Nat} {x : Str} {v : V} {u : Value} {Q : Unit → Shared → Prop} (I : Inv X pins σ H s) (hN : X.N.Nodup) (hi : X.N[i]? = some x) (hx : Loc X.env.scope x) (r : RelV v u)
    (h : ∀ s', Inv X pins (σ.set i (some v)) H s' → Q () s') (hf : X.fn x = true ∨ X.env.scope.names.lookup x = some .local := by first | exact .inl rfl | exact .inr rfl | assumption) : wpAny M A (storeName X.env x u) Q E s :=
  store_ok2 I hN hi hx r (fun s' I' _ => h s' I') hf
/-- behind a call or a block, the state as it is -/
theorem Inv.call' {s' : Shared} {ch : List Addr} (I : Inv X pins σ H s) (ho : s'.os = s.os) (u : Un (frs X.stack) ch H H' s.heap s'.heap) (hok : HOk X.prog X.w H' s'.heap) (hg : AllBare s'.gens)
    (hch : ∀ b ∈ ch, (b ∈ X.ex ∨ X.s₀.heap.objs.size ≤ b) ∧ b ≠ X.env.locals ∧ (∀ x c, X.env.cells.lookup x = some c → c ≠ b) ∧ ∀ p ∈ X.pn ++ pins, p.1 ≠ b) : Inv X pins σ H' s' := by
  obtain ⟨h', g', d', t', o'⟩ := s'
  have e : o' = s.os := ho
  subst e
  exact I.call (g' := g') (t' := t') (d' := d') u hok hg hch
end

/-! ### the judgements -/
/-- an exception: its class, its own dict's address (where it has one), the abstract heap behind it -/
abbrev XK := Value → Option Addr → Hp → Prop
abbrev St := List (Option V)
abbrev VK := V → Hp → Prop
/-- an expression's reading; a test's; an argument list's -/
abbrev TE := St → Hp → VK → Prop
abbrev TT := St → Hp → (Bool → Hp → Prop) → Prop
abbrev TA := St → Hp → (List V → Hp → Prop) → Prop
/-- what is wanted behind a statement -/
structure Ends where
  nx : St → Hp → Prop
  rt : VK
  bk : St → Hp → Prop := fun _ _ => False
  ct : St → Hp → Prop := fun _ _ => False
abbrev TS := Ends → St → Hp → Prop

def EP (X : Cx) (pins : List (Addr × Obj)) (σ : St) (Q : VK) (u : Value) (s' : Shared) : Prop := ∃ v H', Inv X pins σ H' s' ∧ RelV v u ∧ Q v H'
def TP (X : Cx) (pins : List (Addr × Obj)) (σ : St) (Q : Bool → Hp → Prop) (b : Bool) (s' : Shared) : Prop := ∃ H', Inv X pins σ H' s' ∧ Q b H'
def AP (X : Cx) (pins : List (Addr × Obj)) (σ : St) (Q : List V → Hp → Prop) (us : List Value) (s' : Shared) : Prop := ∃ vs H', Inv X pins σ H' s' ∧ Vals vs us ∧ Q vs H'
def SP (X : Cx) (pins : List (Addr × Obj)) (D : Ends) (f : Flow) (s' : Shared) : Prop :=
  match f with
  | .next => ∃ σ' H', Inv X pins σ' H' s' ∧ D.nx σ' H'
  | .brk => ∃ σ' H', Inv X pins σ' H' s' ∧ D.bk σ' H'
  | .cont => ∃ σ' H', Inv X pins σ' H' s' ∧ D.ct σ' H'
  | .ret u => ∃ v σ' H', Inv X pins σ' H' s' ∧ RelV v u ∧ D.rt v H'

def PE (X : Cx) (e : Expr) (t : TE) : Prop :=
  ∀ (pins : List (Addr × Obj)) (s : Shared) (σ : St) (H : Hp) (Q : VK), Inv X pins σ H s → t σ H Q → wpAny (model X.prog X.w) X.A (eval e X.env) (EP X pins σ Q) X.xe s
def PT (X : Cx) (e : Expr) (t : TT) : Prop :=
  ∀ (pins : List (Addr × Obj)) (s : Shared) (σ : St) (H : Hp) (Q : Bool → Hp → Prop), Inv X pins σ H s → t σ H Q → wpAny (model X.prog X.w) X.A (isTrue e X.env (eval e X.env)) (TP X pins σ Q) X.xe s
/-- a test whatever its 'whole' is (and, or) -/
def PW (X : Cx) (e : Expr) (t : TT) : Prop :=
  ∀ (whole : Sem Value) (pins : List (Addr × Obj)) (s : Shared) (σ : St) (H : Hp) (Q : Bool → Hp → Prop), Inv X pins σ H s → t σ H Q → wpAny (model X.prog X.w) X.A (isTrue e X.env whole) (TP X pins σ Q) X.xe s
theorem PW.pt {X : Cx} {e : Expr} {t : TT} (h : PW X e t) : PT X e t := h _
/-- an argument list (no star), from the left -/
def PA (X : Cx) (es : List Expr) (t : TA) : Prop :=
  ∀ (pos : Pos) (pins : List (Addr × Obj)) (s : Shared) (σ : St) (H : Hp) (Q : List V → Hp → Prop), Inv X pins σ H s → t σ H Q → wpAny (model X.prog X.w) X.A (spliced (backTo pos (starEach es X.env))) (AP X pins σ Q) X.xe s
def PS (X : Cx) (st : Stmt) (t : TS) : Prop :=
  ∀ (pins : List (Addr × Obj)) (s : Shared) (σ : St) (H : Hp) (D : Ends), Inv X pins σ H s → t D σ H → wpAny (model X.prog X.w) X.A (exec st X.env) (SP X pins D) X.xe s
def PSs (X : Cx) (st : List Stmt) (t : TS) : Prop :=
  ∀ (pins : List (Addr × Obj)) (s : Shared) (σ : St) (H : Hp) (D : Ends), Inv X pins σ H s → t D σ H → wpAny (model X.prog X.w) X.A (execs st X.env) (SP X pins D) X.xe s
/-- weaken the end -/
theorem thn {α : Type} {t : Sem α} {Q Q' : α → Shared → Prop} {M : Model} {A : Around} {E : Value → Shared → Prop} {s : Shared} (h : wpAny M A t Q E s) (hQ : ∀ a s, Q a s → Q' a s) : wpAny M A t Q' E s := wpAny_mono h hQ fun _ _ x => x
end L2

namespace L2
open PySem PySem.Spec PyProof.Rows
section
variable {X : Cx}

/-! ### names and constants -/
def tVar (i : Nat) : TE := fun σ H Q => ∃ v, σ[i]? = some (some v) ∧ Q v H
def tC (v : V) : TE := fun _ H Q => Q v H
theorem pe_var {i : Nat} {x : Str} {pos : Pos} (hN : X.N[i]? = some x) (hv : Vis X.env.scope x) (hd : (x == ("__debug__" : Str)) = false := by decide) (hcd : (x == ("__classdict__" : Str)) = false := by decide) : PE X (.Name x pos) (tVar i) := by
  intro pins s σ H Q I h
  obtain ⟨v, e, h⟩ := h
  obtain ⟨m, hn, hl⟩ := I.loc
  obtain ⟨u, r, l⟩ := hl i x v hN e hv
  have fin : EP X pins σ Q u s := ⟨v, H, I, r, h⟩
  rcases l with ⟨hk, hm⟩ | ⟨hk, c, hc, hcell⟩
  · exact wpAny_Name (wpAny_loadName_local I.ok.kind hk hn hm fin) hd
  · rcases hk with hk | hk
    · exact wpAny_Name (wpAny_loadName_cell I.ok.kind hk hc hcell fin) hd
    · exact wpAny_Name (wpAny_loadName_free I.ok.kind hk hc hcell fin hcd) hd
theorem pe_int {i j pos} : PE X (.Constant (.int i) j pos) (tC (.int i)) := fun _ _ _ H _ I h => wpAny_Constant_int ⟨.int i, H, I.tok _, ⟨_, rfl⟩, h⟩
theorem pe_bl {b j pos} : PE X (.Constant (.bool b) j pos) (tC (.bl b)) := fun _ _ _ H _ I h => Constant_bool ⟨.bl b, H, I, rfl, h⟩
theorem pe_non {j pos} : PE X (.Constant .none j pos) (tC .non) := fun _ _ _ H _ I h => Constant_none ⟨.non, H, I, rfl, h⟩
theorem pe_str {x j pos} : PE X (.Constant (.str x) j pos) (tC (.str x)) := fun _ _ _ H _ I h => Calls.Constant_str ⟨.str x, H, I.tok _, ⟨_, rfl⟩, h⟩

/-- a global name of the def -/
def Gl (X : Cx) (x : Str) : Prop := X.env.kindOf x = some .globalImplicit
theorem ld_glob {E : Value → Shared → Prop} {pins : List (Addr × Obj)} {s : Shared} {σ : St} {H : Hp} {x : Str} {u : Value} {pos : Pos} {Q : Value → Shared → Prop} (I : Inv X pins σ H s) (hg : Gl X x) (hm : X.mg x = some u) (h : Q u s)
    (hd : (x == ("__debug__" : Str)) = false := by decide) : wpAny (model X.prog X.w) X.A (eval (.Name x pos) X.env) Q E s :=
  Calls.Name_function_global I.ok.kind hg (Calls.loadGlobal_global (by rw [I.ok.glob]; exact I.mod.glob.keeps I.bk) hm h) hd
theorem ld_blt {E : Value → Shared → Prop} {pins : List (Addr × Obj)} {s : Shared} {σ : St} {H : Hp} {x : Str} {u : Value} {pos : Pos} {Q : Value → Shared → Prop} (I : Inv X pins σ H s) (hg : Gl X x) (hm : X.mg x = none) (hv : bootBuiltins x = some u) (h : Q u s)
    (hn : x ≠ "__name__" := by decide) (hd : (x == ("__debug__" : Str)) = false := by decide) : wpAny (model X.prog X.w) X.A (eval (.Name x pos) X.env) Q E s := by
  obtain ⟨mb, h1, h2⟩ := I.mod.blt
  exact Calls.Name_function_global I.ok.kind hg (Calls.loadGlobal_builtin (by rw [I.ok.glob]; exact I.mod.glob.keeps I.bk) hm (by rw [I.ok.blt]; exact h1.keeps I.bk) ((h2 x hn).trans hv) h) hd
/-- a module's constant, a class, a function, as a value -/
theorem pe_glob {x : Str} {v : V} {u : Value} {pos : Pos} (hg : Gl X x) (hm : X.mg x = some u) (r : RelV v u) (hd : (x == ("__debug__" : Str)) = false := by decide) : PE X (.Name x pos) (tC v) :=
  fun _ _ _ H _ I h => ld_glob I hg hm ⟨v, H, I, r, h⟩ hd
theorem pe_bltn {x : Str} {v : V} {u : Value} {pos : Pos} (hg : Gl X x) (hm : X.mg x = none) (hv : bootBuiltins x = some u) (r : RelV v u) (hn : x ≠ "__name__" := by decide) (hd : (x == ("__debug__" : Str)) = false := by decide) : PE X (.Name x pos) (tC v) :=
  fun _ _ _ H _ I h => ld_blt I hg hm hv ⟨v, H, I, r, h⟩ hn hd

/-! ### arithmetic -/
variable {a b : Expr} {ta tb : TE} {pos : Pos}
/-! ### comparisons -/
/-- a comparison as a value, as a test -/
def tB (t : TE) : TT := fun σ H Q => t σ H fun x H1 => ∃ c, x = .bl c ∧ Q c H1
/-- an expression whose value is a bool, as a test -/
theorem pt_val {e : Expr} {t : TE} (h : PE X e t) (he : ∀ whole, isTrue e X.env whole = (do let v ← whole; standAt e.pos; holding [v] (truthy v)) := by intro _; rfl) : PT X e (tB t) := by
  intro pins s σ H Q I hw
  refine isTrue_plain (thn (h pins s σ H _ I hw) fun v s1 ⟨x, H1, I1, r1, q1⟩ => ?_) (he _)
  obtain ⟨d, rfl, q⟩ := q1
  cases r1
  exact wpAny_truthy_bool ⟨H1, I1, q⟩

/-! ### and, or, not -/
variable {tA tB' : TT} {rest : List Expr}
def tAnd (t u : TT) : TT := fun σ H Q => t σ H fun c H1 => if c = true then u σ H1 Q else Q false H1
def tOr (t u : TT) : TT := fun σ H Q => t σ H fun c H1 => if c = true then Q true H1 else u σ H1 Q
def tNot (t : TT) : TT := fun σ H Q => t σ H fun c H1 => Q (!c) H1
theorem pw_or1 (ha : PT X a tA) : PW X (.BoolOp .Or [a] pos) tA := by
  intro wh pins s σ H Q I h
  refine isTrue_or (thn (ha pins s σ H Q I h) fun c s1 e => ?_)
  cases c with
  | false => exact isTrue_or_nil e
  | true => exact e
theorem pw_or (ha : PT X a tA) (hb : PW X (.BoolOp .Or (b :: rest) pos) tB') : PW X (.BoolOp .Or (a :: b :: rest) pos) (tOr tA tB') := by
  intro wh pins s σ H Q I h
  refine isTrue_or (thn (ha pins s σ H _ I h) fun c s1 ⟨H1, I1, q1⟩ => ?_)
  cases c with
  | true => exact ⟨H1, I1, q1⟩
  | false => exact hb wh pins s1 σ H1 Q I1 q1
theorem pt_not (ha : PT X a tA) : PT X (.UnaryOp .Not a pos) (tNot tA) := by
  intro pins s σ H Q I h
  exact isTrue_not (ha pins s σ H (fun c H1 => Q (!c) H1) I h)
/-- .. as values (bools) -/
def tAndV (ta tb : TE) : TE := fun σ H Q => ta σ H fun x H1 => ∃ c, x = .bl c ∧ if c = true then tb σ H1 Q else Q (.bl false) H1
def tOrV (ta tb : TE) : TE := fun σ H Q => ta σ H fun x H1 => ∃ c, x = .bl c ∧ if c = true then Q (.bl true) H1 else tb σ H1 Q
def tNotV (ta : TE) : TE := fun σ H Q => ta σ H fun x H1 => ∃ c, x = .bl c ∧ Q (.bl (!c)) H1
theorem pe_one {op} {t : TE} (h : PE X a t) : PE X (.BoolOp op [a] pos) t := fun pins s σ H Q I hw => BoolOp_one (h pins s σ H Q I hw)
theorem pe_and (ha : PE X a ta) (hb : PE X (.BoolOp .And (b :: rest) pos) tb) : PE X (.BoolOp .And (a :: b :: rest) pos) (tAndV ta tb) := by
  intro pins s σ H Q I h
  refine BoolOp_and (thn (ha pins s σ H _ I h) fun v s1 ⟨x, H1, I1, r1, q1⟩ => ?_)
  obtain ⟨c, rfl, q1⟩ := q1
  cases r1
  refine wpAny_truthy_bool ?_
  cases c with
  | true => exact hb pins s1 σ H1 Q I1 q1
  | false => exact ⟨.bl false, H1, I1, rfl, q1⟩
theorem pe_or (ha : PE X a ta) (hb : PE X (.BoolOp .Or (b :: rest) pos) tb) : PE X (.BoolOp .Or (a :: b :: rest) pos) (tOrV ta tb) := by
  intro pins s σ H Q I h
  refine BoolOp_or (thn (ha pins s σ H _ I h) fun v s1 ⟨x, H1, I1, r1, q1⟩ => ?_)
  obtain ⟨c, rfl, q1⟩ := q1
  cases r1
  refine wpAny_truthy_bool ?_
  cases c with
  | false => exact hb pins s1 σ H1 Q I1 q1
  | true => exact ⟨.bl true, H1, I1, rfl, q1⟩
theorem pe_not (ha : PE X a ta) : PE X (.UnaryOp .Not a pos) (tNotV ta) := by
  intro pins s σ H Q I h
  refine UnaryOp_ (thn (ha pins s σ H _ I h) fun v s1 ⟨x, H1, I1, r1, q1⟩ => ?_)
  obtain ⟨c, rfl, q1⟩ := q1
  cases r1
  exact not_of (wpAny_truthy_bool ⟨.bl (!c), H1, I1, rfl, q1⟩)
/-- a if t else b -/
def tIf (t : TT) (ta tb : TE) : TE := fun σ H Q => t σ H fun c H1 => if c = true then ta σ H1 Q else tb σ H1 Q
end
end L2

namespace L2
open PySem PySem.Spec PyProof.Rows

/-! ### a list, a tuple that is read: tracked, frozen, or an object of the module -/
def SqL (K : PySem.W.Frag) (H : Hp) (a : Addr) (xs : List V) : Prop :=
  Rd H a (.lst xs) ∨
    ∃ (o : Obj) (its : Array Value) (n : Nat), K.lookup a = some o ∧ o.cls = .type "list" ∧ o.dict = none ∧ o.data = .seq its n ∧ its.size ≤ sizeLine ∧ Vals xs its.toList
def SqT (K : PySem.W.Frag) (H : Hp) (a : Addr) (xs : List V) : Prop :=
  Rd H a (.tup xs) ∨
    ∃ (o : Obj) (its : Array Value) (n : Nat), K.lookup a = some o ∧ o.cls = .type "tuple" ∧ o.data = .seq its n ∧ its.size ≤ sizeLine ∧ Vals xs its.toList
def absV : Value → Option V
  | .none => some .non
  | .bool b => some (.bl b)
  | .int i _ => some (.int i)
  | .str x _ => some (.str x)
  | .bytes b _ => some (.byt b)
  | .float b _ => some (.flt b)
  | .ref a => some (.ref a)
  | .type n => some (.ty n)
  | _ => none
theorem RelV.abs {x : V} {u : Value} (r : RelV x u) : absV u = some x := by
  cases x with
  | non => cases r; rfl
  | bl _ => cases r; rfl
  | int _ => obtain ⟨t, rfl⟩ := r; rfl
  | str _ => obtain ⟨t, rfl⟩ := r; rfl
  | byt _ => obtain ⟨t, rfl⟩ := r; rfl
  | flt _ => obtain ⟨t, rfl⟩ := r; rfl
  | ref _ => cases r; rfl
  | ty _ => cases r; rfl
theorem RelV.inj {x y : V} {u : Value} (r : RelV x u) (q : RelV y u) : x = y := Option.some.inj (r.abs.symm.trans q.abs)
theorem Vals.inj : ∀ {xs ys : List V} {us : List Value}, Vals xs us → Vals ys us → xs = ys
  | _, _, _, .nil, .nil => rfl
  | _, _, _, .cons r t, .cons r' t' => by rw [r.inj r', Vals.inj t t']
section
variable {X : Cx} {pins : List (Addr × Obj)} {σ : St} {H : Hp} {s : Shared} {a : Addr} {xs ys : List V}
theorem SqL.of {K : PySem.W.Frag} (h : H a = some (.lst xs)) : SqL K H a xs := .inl (.inl h)
theorem SqT.of {K : PySem.W.Frag} (h : H a = some (.tup xs)) : SqT K H a xs := .inl (.inl h)
theorem Inv.list (I : Inv X pins σ H s) (h : SqL X.K H a xs) : ∃ its : List Value, Vals xs its ∧ PlainL s.heap a its.toArray ∧ xs.length ≤ sizeLine := by
  rcases h with h | ⟨o, its, n, hk, hc, hd, hs, hz, r⟩
  · obtain ⟨z, its, n, r, e⟩ := h.ok I.hok
    exact ⟨its, r, ⟨_, n, e, rfl, rfl, rfl⟩, z⟩
  · refine ⟨its.toList, r, ⟨o, n, I.kIn a o hk, hc, hd, by simpa using hs⟩, ?_⟩
    have e := r.length
    simp only [Array.length_toList] at e
    omega
theorem Inv.tuple (I : Inv X pins σ H s) (h : SqT X.K H a xs) : ∃ its : List Value, Vals xs its ∧ IsTup s.heap a its.toArray ∧ xs.length ≤ sizeLine := by
  rcases h with h | ⟨o, its, n, hk, hc, hs, hz, r⟩
  · obtain ⟨z, its, r, p⟩ := h.ok I.hok
    exact ⟨its, r, p.tup, z⟩
  · refine ⟨its.toList, r, ⟨o, I.kIn a o hk, hc, n, by simpa using hs⟩, ?_⟩
    have e := r.length
    simp only [Array.length_toList] at e
    omega
theorem Inv.list_inj (I : Inv X pins σ H s) (h : SqL X.K H a xs) (h' : SqL X.K H a ys) : xs = ys := by
  obtain ⟨its, r, ⟨o, n, e, _, _, d⟩, _⟩ := I.list h
  obtain ⟨its', r', ⟨o', n', e', _, _, d'⟩, _⟩ := I.list h'
  rw [e] at e'; cases e'
  rw [d] at d'
  injection d' with d1 _
  have : its = its' := by simpa using congrArg Array.toList d1
  subst this
  exact r.inj r'
theorem Inv.tuple_inj (I : Inv X pins σ H s) (h : SqT X.K H a xs) (h' : SqT X.K H a ys) : xs = ys := by
  obtain ⟨its, r, ⟨o, e, _, n, d⟩, _⟩ := I.tuple h
  obtain ⟨its', r', ⟨o', e', _, n', d'⟩, _⟩ := I.tuple h'
  rw [e] at e'; cases e'
  rw [d] at d'
  injection d' with d1 _
  have : its = its' := by simpa using congrArg Array.toList d1
  subst this
  exact r.inj r'
end

/-! ### another wish about exceptions -/
abbrev Cx.wish (X : Cx) (E : Value → Shared → Prop) : Cx := { X with xe := E }
/-- no exception leaves -/
abbrev Cx.nox (X : Cx) : Cx := X.wish fun _ _ => False
theorem Cx.Ok.wish {X : Cx} (ok : X.Ok) (E : Value → Shared → Prop) : (X.wish E).Ok :=
  ⟨ok.mod, ok.kind, ok.glob, ok.blt, ok.above, ok.inj, ok.has, ok.cab, ok.hd, ok.frames, ok.stk, ok.exf, ok.bs, ok.bsz, ok.noex, ok.exfs, ok.funs, ok.frf⟩
theorem Cx.Ok.unwish {X : Cx} {E : Value → Shared → Prop} (ok : (X.wish E).Ok) : X.Ok :=
  ⟨ok.mod, ok.kind, ok.glob, ok.blt, ok.above, ok.inj, ok.has, ok.cab, ok.hd, ok.frames, ok.stk, ok.exf, ok.bs, ok.bsz, ok.noex, ok.exfs, ok.funs, ok.frf⟩
section
variable {X : Cx} {pins : List (Addr × Obj)} {σ : St} {H : Hp} {s : Shared} {E : Value → Shared → Prop}
theorem Inv.wish (I : Inv X pins σ H s) (E : Value → Shared → Prop) : Inv (X.wish E) pins σ H s := ⟨I.ok.wish E, I.os, I.bare, I.base, I.loc, I.cell, I.free, I.freeC, I.pin, I.hok, I.len⟩
theorem Inv.unwish (I : Inv (X.wish E) pins σ H s) : Inv X pins σ H s := ⟨I.ok.unwish, I.os, I.bare, I.base, I.loc, I.cell, I.free, I.freeC, I.pin, I.hok, I.len⟩
theorem SP.unwish {D : Ends} {f : Flow} {s' : Shared} (h : SP (X.wish E) pins D f s') : SP X pins D f s' := by
  cases f with
  | next => obtain ⟨σ', H', I, q⟩ := h; exact ⟨σ', H', I.unwish, q⟩
  | brk => obtain ⟨σ', H', I, q⟩ := h; exact ⟨σ', H', I.unwish, q⟩
  | cont => obtain ⟨σ', H', I, q⟩ := h; exact ⟨σ', H', I.unwish, q⟩
  | ret u => obtain ⟨v, σ', H', I, r, q⟩ := h; exact ⟨v, σ', H', I.unwish, r, q⟩
theorem PE.nox {e : Expr} {t : TE} (h : PE X.nox e t) : PE X e t := fun pins s σ H Q I hw =>
  wpAny_mono (h pins s σ H Q (I.wish _) hw) (fun _ _ ⟨v, H', I', r, q⟩ => ⟨v, H', I'.unwish, r, q⟩) fun _ _ z => False.elim z
theorem PT.nox {e : Expr} {t : TT} (h : PT X.nox e t) : PT X e t := fun pins s σ H Q I hw =>
  wpAny_mono (h pins s σ H Q (I.wish _) hw) (fun _ _ ⟨H', I', q⟩ => ⟨H', I'.unwish, q⟩) fun _ _ z => False.elim z
theorem PSs.nox {st : List Stmt} {t : TS} (h : PSs X.nox st t) : PSs X st t := fun pins s σ H D I hw =>
  wpAny_mono (h pins s σ H D (I.wish _) hw) (fun _ _ q => q.unwish) fun _ _ z => False.elim z
end

/-! ### blocks and small statements -/
section
variable {X : Cx} {st : Stmt} {rest : List Stmt} {t u : TS} {e : Expr} {te : TE} {pos : Pos}
def tNext : TS := fun D σ H => D.nx σ H
def tSeq (t u : TS) : TS := fun D σ H => t { D with nx := u D } σ H
theorem pss_nil : PSs X [] tNext := fun _ _ σ H _ I h => wpAny_execs_nil ⟨σ, H, I, h⟩
theorem pss_cons (h1 : PS X st t) (h2 : PSs X rest u) : PSs X (st :: rest) (tSeq t u) := by
  intro pins s σ H D I h
  refine wpAny_execs_cons (thn (h1 pins s σ H { D with nx := u D } I h) fun f s1 q => ?_)
  cases f with
  | next =>
    obtain ⟨σ', H', I', q⟩ := q
    exact h2 pins s1 σ' H' D I' q
  | ret v => exact q
  | brk => exact q
  | cont => exact q
theorem pss_one (h1 : PS X st t) : PSs X [st] t := by
  intro pins s σ H D I h
  refine wpAny_execs_cons (thn (h1 pins s σ H D I h) fun f s1 q => ?_)
  cases f with
  | next => exact wpAny_execs_nil q
  | ret v => exact q
  | brk => exact q
  | cont => exact q
def tBreak : TS := fun D σ H => D.bk σ H
def tCont : TS := fun D σ H => D.ct σ H
/-- an expression whose value is dropped -/
def tDrop (te : TE) : TS := fun D σ H => te σ H fun _ H1 => D.nx σ H1
def tRet (te : TE) : TS := fun D σ H => te σ H D.rt
theorem ps_ret (he : PE X e te) : PS X (.Return (some e) pos) (tRet te) := by
  intro pins s σ H D I h
  exact wpAny_Return_some (thn (he pins s σ H _ I h) fun v s1 ⟨x, H1, I1, r1, q1⟩ => ⟨x, σ, H1, I1, r1, q1⟩)
def tRetN : TS := fun D _ H => D.rt .non H
def tIfS (c : TT) (t u : TS) : TS := fun D σ H => c σ H fun b H1 => if b = true then t D σ H1 else u D σ H1
theorem ps_if {c : Expr} {a b : List Stmt} {tc : TT} (hc : PT X c tc) (ha : PSs X a t) (hb : PSs X b u) : PS X (.If c a b pos) (tIfS tc t u) := by
  intro pins s σ H D I h
  refine wpAny_If (thn (hc pins s σ H _ I h) fun d s1 ⟨H1, I1, q1⟩ => ?_)
  cases d with
  | true => exact ha pins s1 σ H1 D I1 q1
  | false => exact hb pins s1 σ H1 D I1 q1
end

/-! ### targets -/
abbrev TG := V → St → Hp → (St → Hp → Prop) → Prop
abbrev TGs := List V → St → Hp → (St → Hp → Prop) → Prop
def PG (X : Cx) (target : Expr) (t : TG) : Prop :=
  ∀ (pins : List (Addr × Obj)) (s : Shared) (σ : St) (H : Hp) (v : V) (u : Value) (Q : St → Hp → Prop), Inv X pins σ H s → RelV v u → t v σ H Q →
    wpAny (model X.prog X.w) X.A (assign target X.env u) (fun _ s' => ∃ σ' H', Inv X pins σ' H' s' ∧ Q σ' H') X.xe s
/-- several targets, one after another -/
def PGs (X : Cx) (ts : List Expr) (t : TGs) : Prop :=
  ∀ (pins : List (Addr × Obj)) (s : Shared) (σ : St) (H : Hp) (vs : List V) (us : List Value) (Q : St → Hp → Prop), Inv X pins σ H s → Vals vs us → t vs σ H Q →
    wpAny (model X.prog X.w) X.A (assignInOrder ((assignEach ts X.env).map (·.2)) us) (fun _ s' => ∃ σ' H', Inv X pins σ' H' s' ∧ Q σ' H') X.xe s
/-- o[i] = v, by values -/
abbrev TSet := V → V → V → Hp → (Hp → Prop) → Prop
def PSet (X : Cx) (t : TSet) : Prop :=
  ∀ (pins : List (Addr × Obj)) (s : Shared) (σ : St) (H : Hp) (o i v : V) (ov iv u : Value) (Q : Hp → Prop), Inv X pins σ H s → RelV o ov → RelV i iv → RelV v u → t o i v H Q →
    wpAny (model X.prog X.w) X.A (setItem ov iv u) (fun _ s' => ∃ H', Inv X pins σ H' s' ∧ Q H') X.xe s
/-- a op= b, by values -/
abbrev TIp := V → V → Hp → VK → Prop
section
variable {X : Cx} {pos : Pos}
def gName (i : Nat) : TG := fun v σ H Q => Q (σ.set i (some v)) H
theorem pg_name {i : Nat} {x : Str} (hN : X.N.Nodup) (hi : X.N[i]? = some x) (hx : Loc X.env.scope x) (hf : X.fn x = true ∨ X.env.scope.names.lookup x = some .local := by first | exact .inl rfl | exact .inr rfl | assumption) : PG X (.Name x pos) (gName i) := by
  intro pins s σ H v u Q I r h
  exact wpAny_assign_Name (store_ok I hN hi hx r (fun s' I' => ⟨_, H, I', h⟩) hf)
def gNil : TGs := fun vs σ H Q => vs = [] ∧ Q σ H
def gCons (t : TG) (u : TGs) : TGs := fun vs σ H Q => ∃ v r, vs = v :: r ∧ t v σ H fun σ' H' => u r σ' H' Q
theorem pgs_nil : PGs X [] gNil := by
  intro pins s σ H vs us Q I r h
  obtain ⟨e, h⟩ := h
  subst e
  cases r
  exact assignInOrder_nil ⟨σ, H, I, h⟩
theorem pgs_cons {e : Expr} {es : List Expr} {t : TG} {u : TGs} (h1 : PG X e t) (h2 : PGs X es u)
    (hs : (assignEach (e :: es) X.env).map (·.2) = assign e X.env :: (assignEach es X.env).map (·.2) := by rfl) : PGs X (e :: es) (gCons t u) := by
  intro pins s σ H vs us Q I r h
  obtain ⟨v, vr, e1, h⟩ := h
  subst e1
  cases r with
  | cons r rr =>
    rw [hs]
    refine assignInOrder_cons (thn (h1 pins s σ H _ _ _ I r h) fun _ s1 ⟨σ1, H1, I1, q1⟩ => ?_)
    exact h2 pins s1 σ1 H1 _ _ Q I1 rr q1
/-- (a, b, ..) = a tuple of that length -/
def gTup (K : PySem.W.Frag) (n : Nat) (t : TGs) : TG := fun v σ H Q => ∃ a xs, v = .ref a ∧ SqT K H a xs ∧ xs.length = n ∧ t xs σ H Q
theorem pg_tup {es : List Expr} {k : Nat} {t : TGs} {n : Nat} (hc : X.calm = true) (h : PGs X es t)
    (hn : (assignEach es X.env).length = n := by rfl) (hst : (assignEach es X.env).findIdx? (·.1) = none := by rfl) : PG X (.Tuple es k pos) (gTup X.K n t) := by
  intro pins s σ H v u Q I r hw
  obtain ⟨a, xs, e1, hq, hl, hw⟩ := hw
  subst e1
  cases r
  obtain ⟨its, rv, ht, hz⟩ := I.tuple hq
  refine assign_Tuple_tuple (I.ok.hd hc) ht (by simp [hn, ← hl, rv.length]) hst fun h' hx => ?_
  have I1 : Inv X pins σ H { s with heap := h' } := I.kept (t' := s.toks) fun b o e => hx b o (Nat.ne_of_lt (Heap.lt_size e)) e
  exact h pins _ σ H xs _ Q I1 (by simpa using rv) hw
/-- o[i] = .. -/
def gSub (to ti : TE) (t : TSet) : TG := fun v σ H Q => to σ H fun o H1 => ti σ H1 fun i H2 => t o i v H2 fun H3 => Q σ H3
theorem pg_sub {o i : Expr} {to ti : TE} {t : TSet} (ho : PE X o to) (hi : PE X i ti) (hs : PSet X t)
    (ha : ∀ v, assign (.Subscript o i pos) X.env v = (do
      let ov ← holding [v] (eval o X.env)
      let iv ← holding [v, ov] (eval i X.env)
      standAt pos
      holding [v, ov, iv] (setItem ov iv v)
      release [v, ov, iv] []) := by intro _; rfl) : PG X (.Subscript o i pos) (gSub to ti t) := by
  intro pins s σ H v u Q I r h
  rw [ha]
  refine wpAny_bind (wpAny_holding (thn (ho pins s σ H _ I h) fun ov s1 ⟨x, H1, I1, r1, q1⟩ => ?_))
  refine wpAny_bind (wpAny_holding (thn (hi pins s1 σ H1 _ I1 q1) fun iv s2 ⟨y, H2, I2, r2, q2⟩ => ?_))
  refine wpAny_bind (wpAny_standAt (wpAny_bind (wpAny_holding (thn (hs pins s2 σ H2 x y v ov iv u _ I2 r1 r2 r q2) fun _ s3 ⟨H3, I3, q3⟩ => ?_))))
  exact wpAny_release ⟨σ, H3, I3, q3⟩
/-- target = value -/
def tAsg (te : TE) (g : TG) : TS := fun D σ H => te σ H fun x H1 => g x σ H1 D.nx
theorem ps_asg {tg e : Expr} {te : TE} {g : TG} (he : PE X e te) (hg : PG X tg g) (hs : swapsWithSole [tg] e pos.line X.env = pure false := by rfl) (hw : swappedStores [tg] e X.env = pure none := by rfl)
    (h1 : (assignEach [tg] X.env).map (·.2) = [assign tg X.env] := by rfl) : PS X (.Assign [tg] e pos) (tAsg te g) := by
  intro pins s σ H D I h
  refine wpAny_Assign_stores (thn (he pins s σ H _ I h) fun v s1 ⟨x, H1, I1, r1, q1⟩ => ?_) hs hw
  rw [h1]
  exact thn (hg pins s1 σ H1 x v _ I1 r1 q1) fun _ s2 q => q
/-- name = value -/
theorem ps_set {i : Nat} {x : Str} {e : Expr} {te : TE} {pos' : Pos} (hN : X.N.Nodup) (hi : X.N[i]? = some x) (hx : Loc X.env.scope x) (he : PE X e te) (hs : swapsWith e (some (.Name x pos')) pos.line X.env = pure false := by rfl) (hf : X.fn x = true ∨ X.env.scope.names.lookup x = some .local := by first | exact .inl rfl | exact .inr rfl | assumption) :
    PS X (.Assign [.Name x pos'] e pos) (tAsg te (gName i)) := by
  intro pins s σ H D I h
  refine wpAny_Assign_Name (thn (he pins s σ H _ I h) fun v s1 ⟨y, H1, I1, r1, q1⟩ => ?_) hs
  exact store_ok I1 hN hi hx r1 (fun s2 I2 => ⟨_, H1, I2, q1⟩) hf
/-- o[i] op= e -/
def tAugS (to ti te : TE) (tget : V → V → Hp → VK → Prop) (tip : TIp) (tset : TSet) : TS := fun D σ H => to σ H fun o H1 => ti σ H1 fun i H2 => tget o i H2 fun x H3 => te σ H3 fun y H4 => tip x y H4 fun z H5 => tset o i z H5 fun H6 => D.nx σ H6
/-- ints -/
def ipI (f : Int → Int → Int) : TIp := fun x y H Q => ∃ i j, x = .int i ∧ y = .int j ∧ Q (.int (f i j)) H
end

/-! ### while -/
section
variable {X : Cx} {pos : Pos}
/-- the invariant W with its measure -/
def tWhile (c : TT) (tb : TS) : TS := fun D σ H => ∃ W : Nat → St → Hp → Prop, (∃ m, W m σ H) ∧ ∀ m σ H, W m σ H →
  c σ H fun b H1 => if b = true then ∃ N : St → Hp → Prop, (∀ σ' H', N σ' H' → ∃ m', m' < m ∧ W m' σ' H') ∧ tb { D with nx := N, ct := N, bk := D.nx } σ H1 else D.nx σ H1
theorem ps_while {c : Expr} {body : List Stmt} {tc : TT} {tb : TS} (hp : PassesOwn (model X.prog X.w) X.A X.env X.xe) (hc : PT X c tc) (hb : PSs X body tb) : PS X (.While c body [] pos) (tWhile tc tb) := by
  intro pins s σ H D I h
  obtain ⟨W, ⟨m0, w0⟩, turn⟩ := h
  refine wpAny_While (codeAny_whileLoop (fun n s' => ∃ σ' H', Inv X pins σ' H' s' ∧ W n σ' H') ?_ m0 ⟨σ, H, I, w0⟩)
  rintro n s1 ⟨σ1, H1, I1, w1⟩
  refine wpAny_passesOwn hp (thn (hc pins s1 σ1 H1 _ I1 (turn n σ1 H1 w1)) fun b s2 ⟨H2, I2, q2⟩ => ?_)
  cases b with
  | true =>
    obtain ⟨N, hN, q2⟩ := q2
    rw [if_pos rfl]
    refine wpAny_passesOwn hp (thn (hb pins s2 σ1 H2 _ I2 q2) fun f s3 q3 => ?_)
    cases f with
    | next =>
      obtain ⟨σ3, H3, I3, n3⟩ := q3
      obtain ⟨m', hm, w3⟩ := hN σ3 H3 n3
      exact ⟨m', hm, σ3, H3, I3, w3⟩
    | cont =>
      obtain ⟨σ3, H3, I3, n3⟩ := q3
      obtain ⟨m', hm, w3⟩ := hN σ3 H3 n3
      exact ⟨m', hm, σ3, H3, I3, w3⟩
    | brk => exact q3
    | ret v => exact q3
  | false =>
    rw [if_neg Bool.false_ne_true]
    exact wpAny_execs_nil ⟨σ1, H2, I2, q2⟩
end

/-! ### what a loop or a comprehension walks -/
/-- at turn i: it yields x (the heap may grow), or it stops -/
structure It where
  go : Nat → Hp → Prop
  yld : Nat → Hp → V → Hp → Prop
  stop : Nat → Hp → Prop
/-- the iterator's own objects may turn: they are not the frame's, not pinned, younger than the entry (or a comprehension's own) -/
def FpOk (X : Cx) (pins : List (Addr × Obj)) (H : Hp) (b : Addr) : Prop :=
  H b = none ∧ b ≠ X.env.locals ∧ b ∉ X.fs ∧ (b ∈ X.ex ∨ X.s₀.heap.objs.size ≤ b) ∧ (∀ x c, X.env.cells.lookup x = some c → c ≠ b) ∧ ∀ p ∈ X.pn ++ pins, p.1 ≠ b
theorem Inv.fpOk {X : Cx} {pins : List (Addr × Obj)} {σ : St} {H H' : Hp} {s : Shared} {b : Addr} (I : Inv X pins σ H s) (hb : s.heap.objs.size ≤ b) (hn : H' b = none) : FpOk X pins H' b := by
  refine ⟨hn, Nat.ne_of_gt (Nat.lt_of_lt_of_le I.lt hb), I.nofs hb, .inr (Nat.le_trans I.sz hb), fun x c e z => ?_, fun p hp z => ?_⟩
  · obtain ⟨v, q⟩ := I.cell x c e
    exact absurd (Nat.lt_of_lt_of_le q.lt (by rw [z]; exact hb)) (Nat.lt_irrefl _)
  · exact absurd (Nat.lt_of_lt_of_le (Heap.lt_size (I.pin p hp).1) (by rw [z]; exact hb)) (Nat.lt_irrefl _)
structure Turn (P : Program) (w : World) (K : PySem.W.Frag) (tg : Expr) (J : It) (fp : List Addr) (it : Addr) (tn : Nat → Heap → Prop) : Prop where
  mem : it ∈ fp
  obj : ∀ i h, tn i h → ∀ b ∈ fp, ∃ o, h.get? b = some o ∧ ∀ v, o.data ≠ .cell v
  keep : ∀ i h h', tn i h → (∀ b ∈ fp, ∀ o, h.get? b = some o → h'.get? b = some o) → tn i h'
  item : ∀ (X : Cx), X.prog = P → X.w = w → X.K = K → X.calm = true → ∀ (i : Nat) (pins : List (Addr × Obj)) (s : Shared) (σ : St) (H : Hp) (E : Value → Shared → Prop), Inv X pins σ H s → (∀ b ∈ fp, FpOk X pins H b) → tn i s.heap → J.go i H →
    wpAny (model P w) X.A (pyNext (.ref it)) (fun r s1 => ∃ u, r = some u ∧
      wpAny (model P w) X.A (letOwnedTupleGo tg (.ref it) u) (fun _ s2 => ∃ x H', Inv X pins σ H' s2 ∧ RelV x u ∧ J.yld i H x H' ∧ tn (i + 1) s2.heap ∧ ∀ b ∈ fp, H' b = none) E s1) E s
  done : ∀ (X : Cx), X.prog = P → X.w = w → X.K = K → X.calm = true → ∀ (i : Nat) (pins : List (Addr × Obj)) (s : Shared) (σ : St) (H : Hp) (E : Value → Shared → Prop), Inv X pins σ H s → (∀ b ∈ fp, FpOk X pins H b) → tn i s.heap → J.stop i H →
    wpAny (model P w) X.A (pyNext (.ref it)) (fun r s1 => r = none ∧ Inv X pins σ H s1) E s
  self : ∀ (A : Around) (i : Nat) (s : Shared) (Q : Value → Shared → Prop) (E : Value → Shared → Prop), tn i s.heap → Q (.ref it) s → wpAny (model P w) A (pyIter (.ref it)) Q E s
abbrev TI := St → Hp → (It → Hp → Prop) → Prop
/-- an iterator has come -/
def PIE (X : Cx) (pins : List (Addr × Obj)) (σ : St) (tg : Expr) (R : It → Hp → Prop) (itv : Value) (s2 : Shared) : Prop :=
  ∃ (it : Addr) (fp : List Addr) (tn : Nat → Heap → Prop) (J : It) (H' : Hp), itv = .ref it ∧ Inv X pins σ H' s2 ∧ Turn X.prog X.w X.K tg J fp it tn ∧ tn 0 s2.heap ∧ (∀ b ∈ fp, FpOk X pins H' b) ∧ R J H'
def PI (X : Cx) (tg iter : Expr) (wi : TI) : Prop :=
  ∀ (pins : List (Addr × Obj)) (s : Shared) (σ : St) (H : Hp) (R : It → Hp → Prop), Inv X pins σ H s → wi σ H R →
    wpAny (model X.prog X.w) X.A (eval iter X.env) (fun v s1 => wpAny (model X.prog X.w) X.A (pyIter v) (PIE X pins σ tg R) X.xe s1) X.xe s

/-- the step ahead of the store is nothing for an iterator that keeps no tuple -/
theorem go_of {M : Model} {A : Around} {E : Value → Shared → Prop} {s : Shared} {tg : Expr} {it : Addr} {u : Value} {o : Obj} {n : String} {vs : Array Value} {Q : Unit → Shared → Prop} (ho : s.heap.get? it = some o) (hc : o.cls = .type n) (hd : o.data = .fields vs)
    (hn : ["enumerate", "zip", "dict_itemiterator", "dict_reverseitemiterator", "odict_iterator", "itertools.zip_longest", "itertools.pairwise"].contains n = false) (hQ : Q () s) : wpAny M A (letOwnedTupleGo tg (.ref it) u) Q E s := by
  unfold letOwnedTupleGo
  cases tg <;> first
    | exact wpAny_pure hQ
    | (cases u <;> first
        | exact wpAny_pure hQ
        | (refine wpAny_bind (wpAny_load ho ?_)
           rw [hc, hd]
           show wpAny M A (if (["enumerate", "zip", "dict_itemiterator", "dict_reverseitemiterator", "odict_iterator", "itertools.zip_longest", "itertools.pairwise"].contains n && vs[0]? == some (rawInt _)) = true then _ else _) Q E s
           rw [if_neg (by intro h; rw [hn, Bool.false_and] at h; cases h)]
           exact wpAny_pure hQ))

/-- the list at a, as it stands at each turn (a loop may append to it) -/
def Itl (K : PySem.W.Frag) (a : Addr) : It :=
  ⟨fun i H => ∃ xs x, SqL K H a xs ∧ xs[i]? = some x, fun i H x H' => H' = H ∧ ∀ xs, SqL K H a xs → xs[i]? = some x, fun i H => ∃ xs, SqL K H a xs ∧ xs.length ≤ i⟩
def Itt (K : PySem.W.Frag) (a : Addr) : It :=
  ⟨fun i H => ∃ xs x, SqT K H a xs ∧ xs[i]? = some x, fun i H x H' => H' = H ∧ ∀ xs, SqT K H a xs → xs[i]? = some x, fun i H => ∃ xs, SqT K H a xs ∧ xs.length ≤ i⟩
/-- lo, lo + 1, .. (n of them) -/
def Itr (lo : Int) (n : Nat) : It := ⟨fun i _ => i < n, fun i H x H' => H' = H ∧ x = .int (lo + i), fun i _ => n ≤ i⟩
theorem turn_list {P : Program} {w : World} {K : PySem.W.Frag} {tg : Expr} (a it : Addr) : Turn P w K tg (Itl K a) [it] it (fun i h => h.IsListIter it a i) where
  mem := by simp
  obj := fun i h st b hb => by
    have e : b = it := by simpa using hb
    subst e
    obtain ⟨o, e, c, d⟩ := st
    exact ⟨o, e, fun v z => by rw [d] at z; cases z⟩
  keep := fun i h h' st k => st.at fun o e => k it (by simp) o e
  item := by
    intro X hP hw hK hc i pins s σ H E I hf st hg
    subst hP hw hK
    obtain ⟨xs, x, hq, hx⟩ := hg
    obtain ⟨its, rv, p, hz⟩ := I.list hq
    obtain ⟨u, hu, ru⟩ := rv.get hx
    obtain ⟨f0, f1, f2, f3, f4, f5⟩ := hf it (by simp)
    refine wpAny_pyNext_list_item st p.isList (x := u) (by simpa using hu) fun h' st' sb => ?_
    have I1 : Inv X pins σ H { s with heap := h' } := I.turned (t' := s.toks) (fun b o hb e => (sb.2 b hb).trans e) f0 f1 f3 f4 f5
    obtain ⟨o, e, c, d⟩ := id st'
    exact ⟨u, rfl, go_of (s := { s with heap := h' }) e c d (by decide) ⟨x, H, I1, ru, ⟨rfl, fun ys hy => by rw [I.list_inj hy hq]; exact hx⟩, st', fun b hb => (hf b hb).1⟩⟩
  done := by
    intro X hP hw hK hc i pins s σ H E I hf st hg
    subst hP hw hK
    obtain ⟨xs, hq, hx⟩ := hg
    obtain ⟨its, rv, p, hz⟩ := I.list hq
    obtain ⟨f0, f1, f2, f3, f4, f5⟩ := hf it (by simp)
    have hl := rv.length
    exact wpAny_pyNext_list_end (I.ok.hd hc) st p.isList (by simp; omega) fun h' eb => ⟨rfl, I.turned (t' := s.toks) (fun b o hb e => eb b o hb e) f0 f1 f3 f4 f5⟩
  self := fun _ _ _ _ _ st h => wpAny_pyIter_listiter st h
theorem turn_tuple {P : Program} {w : World} {K : PySem.W.Frag} {tg : Expr} (a it : Addr) : Turn P w K tg (Itt K a) [it] it (fun i h => h.IsTupleIter it a i) where
  mem := by simp
  obj := fun i h st b hb => by
    have e : b = it := by simpa using hb
    subst e
    obtain ⟨o, e, c, d⟩ := st
    exact ⟨o, e, fun v z => by rw [d] at z; cases z⟩
  keep := fun i h h' st k => st.at fun o e => k it (by simp) o e
  item := by
    intro X hP hw hK hc i pins s σ H E I hf st hg
    subst hP hw hK
    obtain ⟨xs, x, hq, hx⟩ := hg
    obtain ⟨its, rv, p, hz⟩ := I.tuple hq
    obtain ⟨u, hu, ru⟩ := rv.get hx
    obtain ⟨f0, f1, f2, f3, f4, f5⟩ := hf it (by simp)
    refine wpAny_pyNext_tuple_item st (show s.heap.IsTuple a its.toArray from p) (x := u) (by simpa using hu) fun h' st' sb => ?_
    have I1 : Inv X pins σ H { s with heap := h' } := I.turned (t' := s.toks) (fun b o hb e => (sb.2 b hb).trans e) f0 f1 f3 f4 f5
    obtain ⟨o, e, c, d⟩ := id st'
    exact ⟨u, rfl, go_of (s := { s with heap := h' }) e c d (by decide) ⟨x, H, I1, ru, ⟨rfl, fun ys hy => by rw [I.tuple_inj hy hq]; exact hx⟩, st', fun b hb => (hf b hb).1⟩⟩
  done := by
    intro X hP hw hK hc i pins s σ H E I hf st hg
    subst hP hw hK
    obtain ⟨xs, hq, hx⟩ := hg
    obtain ⟨its, rv, p, hz⟩ := I.tuple hq
    obtain ⟨f0, f1, f2, f3, f4, f5⟩ := hf it (by simp)
    have hl := rv.length
    exact wpAny_pyNext_tuple_end (I.ok.hd hc) st (show s.heap.IsTuple a its.toArray from p) (by simp; omega) fun h' eb => ⟨rfl, I.turned (t' := s.toks) (fun b o hb e => eb b o hb e) f0 f1 f3 f4 f5⟩
  self := fun _ _ _ _ _ st h => wpAny_pyIter_tupleiter st h
theorem turn_range {P : Program} {w : World} {K : PySem.W.Frag} {tg : Expr} (it : Addr) (lo : Int) (n : Nat) : Turn P w K tg (Itr lo n) [it] it (fun i h => IsRangeIter h it (lo + (i : Nat) * 1) ((n : Int) - (i : Nat)) 1) where
  mem := by simp
  obj := fun i h st b hb => by
    have e : b = it := by simpa using hb
    subst e
    exact ⟨_, st, fun v z => by
      have z' : Data.fields _ = Data.cell v := z
      cases z'⟩
  keep := fun i h h' st k => k it (by simp) _ st
  item := by
    intro X hP hw hK hc i pins s σ H E I hf st hg
    subst hP hw hK
    obtain ⟨f0, f1, f2, f3, f4, f5⟩ := hf it (by simp)
    have W := Walks.range (prog := X.prog) (w := X.w) (I.ok.hd hc) it lo 1 n
    refine W.item i s _ _ hg st fun v h' tk hv st' kk => ?_
    obtain ⟨t, rfl⟩ := hv
    have I1 : Inv X pins σ H { s with heap := h', toks := tk } := I.turned (fun b o hb e => kk b o (by simpa using hb) e) f0 f1 f3 f4 f5
    refine ⟨_, rfl, go_of (s := { s with heap := h', toks := tk }) (n := "range_iterator") st' rfl rfl (by decide) ⟨.int (lo + i), H, I1, ⟨t, ?_⟩, ⟨rfl, rfl⟩, st', fun b hb => (hf b hb).1⟩⟩
    rw [Int.mul_one]
  done := by
    intro X hP hw hK hc i pins s σ H E I hf st hg
    subst hP hw hK
    obtain ⟨f0, f1, f2, f3, f4, f5⟩ := hf it (by simp)
    exact wpAny_pyNext_range_end (I.ok.hd hc) st (by have : n ≤ i := hg; omega) fun h' eb => ⟨rfl, I.turned (t' := s.toks) (fun b o hb e => eb b o hb e) f0 f1 f3 f4 f5⟩
  self := fun _ _ _ _ _ st h => wpAny_pyIter_rangeiter st h
end L2

namespace L2
open PySem PySem.Spec PyProof.Rows
section
variable {X : Cx} {tg : Expr}
def iList (K : PySem.W.Frag) (tl : TE) : TI := fun σ H R => tl σ H fun x H1 => ∃ a, x = .ref a ∧ (∃ xs, SqL K H1 a xs) ∧ R (Itl K a) H1
def iTup (K : PySem.W.Frag) (tl : TE) : TI := fun σ H R => tl σ H fun x H1 => ∃ a, x = .ref a ∧ (∃ xs, SqT K H1 a xs) ∧ R (Itt K a) H1
theorem pi_list {l : Expr} {tl : TE} (hl : PE X l tl) : PI X tg l (iList X.K tl) := by
  intro pins s σ H R I h
  refine thn (hl pins s σ H _ I h) fun v s1 ⟨x, H1, I1, r1, q1⟩ => ?_
  obtain ⟨a, e, ⟨xs, hq⟩, q⟩ := q1
  subst e
  cases r1
  obtain ⟨its, rv, p, hz⟩ := I1.list hq
  refine wpAny_pyIter_list p.isList ?_
  refine ⟨s1.heap.objs.size, [s1.heap.objs.size], _, _, H1, rfl, I1.kept (t' := s1.toks) fun b o e => Heap.get?_push_of_some _ e, turn_list a _, ⟨_, Heap.get?_push_size _ rfl, rfl, rfl⟩, fun b hb => ?_, q⟩
  have e : b = s1.heap.objs.size := by simpa using hb
  subst e
  exact I1.fpOk (Nat.le_refl _) (I1.hok.fresh (Nat.le_refl _))
/-- a range object just made, walked -/
theorem range_it {pins : List (Addr × Obj)} {σ : St} {H : Hp} {s : Shared} {R : It → Hp → Prop} {E : Value → Shared → Prop} {lo hi : Int} {t u v : Tok} {tk : Nat} (I : Inv X pins σ H s) (h1 : -(2 ^ 62) ≤ lo) (h2 : lo < 2 ^ 62) (h3 : -(2 ^ 62) ≤ hi) (h4 : hi < 2 ^ 62)
    (q : R (Itr lo (hi - lo).toNat) H) : wpAny (model X.prog X.w) X.A (pyIter (.ref s.heap.objs.size)) (PIE X pins σ tg R) E { s with heap := s.heap.push { cls := .type "range", data := .fields #[.int lo t, .int hi u, .int 1 v] }, toks := tk } := by
  refine wpAny_pyIter_range (IsRange.new ..) (small_one h1 h2 h3 h4) ?_
  have I1 : Inv X pins σ H { s with heap := s.heap.push { cls := .type "range", data := .fields #[.int lo t, .int hi u, .int 1 v] }, toks := tk } := I.kept fun b o e => Heap.get?_push_of_some _ e
  refine ⟨(s.heap.push { cls := .type "range", data := .fields #[.int lo t, .int hi u, .int 1 v] }).objs.size, [(s.heap.push { cls := .type "range", data := .fields #[.int lo t, .int hi u, .int 1 v] }).objs.size], _, _, H, rfl,
    I1.kept (t' := tk) fun b o e => Heap.get?_push_of_some _ e, turn_range _ lo (hi - lo).toNat, ?_, fun b hb => ?_, q⟩
  · have e1 : lo + ((0 : Nat) : Int) * 1 = lo := by simp
    have e2 : (((hi - lo).toNat : Nat) : Int) - ((0 : Nat) : Int) = Builtin.Range.rangeSize lo hi 1 := by rw [rangeSize_one]; split <;> omega
    show IsRangeIter _ _ (lo + ((0 : Nat) : Int) * 1) ((((hi - lo).toNat : Nat) : Int) - ((0 : Nat) : Int)) 1
    rw [e1, e2]
    exact Heap.get?_push_size _ rfl
  · have e : b = (s.heap.push { cls := .type "range", data := .fields #[.int lo t, .int hi u, .int 1 v] }).objs.size := by simpa using hb
    subst e
    exact I1.fpOk (Nat.le_refl _) (I1.hok.fresh (Nat.le_refl _))
def iRng1 (ta : TA) : TI := fun σ H R => ta σ H fun vs H1 => ∃ j : Int, vs = [.int j] ∧ -(2 ^ 62) ≤ j ∧ j < 2 ^ 62 ∧ R (Itr 0 j.toNat) H1
def iRng2 (ta : TA) : TI := fun σ H R => ta σ H fun vs H1 => ∃ i j : Int, vs = [.int i, .int j] ∧ (-(2 ^ 62) ≤ i ∧ i < 2 ^ 62 ∧ -(2 ^ 62) ≤ j ∧ j < 2 ^ 62) ∧ R (Itr i (j - i).toNat) H1
theorem pi_range1 {a : Expr} {ta : TA} {p pos : Pos} (hg : Gl X "range") (hm : X.mg "range" = none) (ha : PA X [a] ta) (hs : starEach [a] X.env = [(false, eval a X.env)] := by rfl) : PI X tg (.Call (.Name "range" p) [a] [] pos) (iRng1 ta) := by
  intro pins s σ H R I h
  refine Call_ (ld_blt I hg hm boot_range (PyProof.Rows.callWith_type1 (thn (ha pos pins s σ H _ I h) fun us s1 ⟨vs, H1, I1, r1, q1⟩ => ?_) hs rfl))
  obtain ⟨j, e, q1, q2, q⟩ := q1
  subst e
  cases r1 with
  | cons r rr =>
    cases rr
    obtain ⟨t, rfl⟩ := r
    exact call_range_1 (range_it I1 (by omega) (by omega) q1 q2 (by simpa using q))
/-! ### for -/
/-- W: the invariant by the turn and a measure; N: what the body is to reach -/
def tFor (wi : TI) (g : TG) (tb : TS) : TS := fun D σ H => wi σ H fun J H1 => ∃ W : Nat → Nat → St → Hp → Prop, (∃ m, W 0 m σ H1) ∧ ∀ i m σ H, W i m σ H →
  (J.stop i H ∧ D.nx σ H) ∨ (J.go i H ∧ ∃ N : St → Hp → Prop, (∀ σ' H', N σ' H' → ∃ m', m' < m ∧ W (i + 1) m' σ' H') ∧ ∀ x H', J.yld i H x H' → g x σ H' fun σ2 H2 => tb { D with nx := N, ct := N, bk := D.nx } σ2 H2)
/-- the records at fp as they stand -/
def pinsAt (fp : List Addr) (h : Heap) : List (Addr × Obj) := fp.filterMap fun b => (h.get? b).map fun o => (b, o)
theorem mem_pinsAt {fp : List Addr} {h : Heap} {b : Addr} {o : Obj} (hb : b ∈ fp) (e : h.get? b = some o) : (b, o) ∈ pinsAt fp h := List.mem_filterMap.mpr ⟨b, hb, by rw [e]; rfl⟩
theorem of_pinsAt {fp : List Addr} {h : Heap} {p : Addr × Obj} (hp : p ∈ pinsAt fp h) : p.1 ∈ fp ∧ h.get? p.1 = some p.2 := by
  obtain ⟨b, hb, e⟩ := List.mem_filterMap.mp hp
  cases q : h.get? b with
  | none => rw [q] at e; cases e
  | some o =>
    rw [q] at e
    have e' : (b, o) = p := Option.some.inj e
    subst e'
    exact ⟨hb, q⟩
theorem Inv.pinned {pins : List (Addr × Obj)} {σ : St} {H : Hp} {s : Shared} {fp : List Addr} (I : Inv X pins σ H s) (hf : ∀ b ∈ fp, FpOk X pins H b) (ho : ∀ b ∈ fp, ∃ o, s.heap.get? b = some o ∧ ∀ v, o.data ≠ .cell v) : Inv X (pins ++ pinsAt fp s.heap) σ H s :=
  I.pins_of fun p hp => (List.mem_append.mp hp).elim (fun z => I.pin p (List.mem_append_right _ z)) fun z => by
    obtain ⟨hb, e⟩ := of_pinsAt z
    obtain ⟨f0, f1, f2, _⟩ := hf p.1 hb
    obtain ⟨o, e', d⟩ := ho p.1 hb
    rw [e] at e'; cases e'
    exact ⟨e, f0, f1, f2, d⟩
theorem Inv.unpinned {pins pl : List (Addr × Obj)} {σ : St} {H : Hp} {s : Shared} (I : Inv X (pins ++ pl) σ H s) : Inv X pins σ H s := I.pins_of fun p hp => I.pin p (List.mem_append_right _ (List.mem_append_left _ hp))
theorem ps_for {iter : Expr} {body : List Stmt} {wi : TI} {g : TG} {tb : TS} {pos : Pos} (hp : PassesOwn (model X.prog X.w) X.A X.env X.xe) (hc : X.calm = true) (hi : PI X tg iter wi) (hg : PG X tg g) (hb : PSs X body tb)
    (hs : ∀ x, foldedSetIterable iter X.env x = pure x := by intro _; rfl) : PS X (.For tg iter body [] pos) (tFor wi g tb) := by
  intro pins s σ H D I h
  refine wpAny_For (thn (hi pins s σ H _ I h) fun v s1 h1 => thn h1 fun itv s2 h2 => ?_) hs
  obtain ⟨it, fp, tn, J, H2, e, I2, T, st2, f2, W, ⟨m0, w0⟩, turn⟩ := h2
  subst e
  -- what stays true of the iterator's objects through the loop
  have stat : ∀ {H' : Hp}, (∀ b ∈ fp, H' b = none) → ∀ b ∈ fp, FpOk X pins H' b := fun hn b hb => ⟨hn b hb, (f2 b hb).2⟩
  refine codeAny_forLoop_any (fun n s' => ∃ i σ' H', Inv X pins σ' H' s' ∧ tn i s'.heap ∧ (∀ b ∈ fp, H' b = none) ∧ W i n σ' H') ?_ m0 ⟨0, σ, H2, I2, st2, fun b hb => (f2 b hb).1, w0⟩
  rintro n s3 ⟨i, σ3, H3, I3, st3, fr3, w3⟩
  rcases turn i n σ3 H3 w3 with ⟨stop, qn⟩ | ⟨go, N, hN, step⟩
  · refine wpAny_passesOwn hp (thn (T.done X rfl rfl rfl hc i pins s3 σ3 H3 X.xe I3 (stat fr3) st3 stop) fun r s4 ⟨hr, I4⟩ => ?_)
    subst hr
    exact wpAny_execs_nil ⟨σ3, H3, I4, qn⟩
  · refine wpAny_passesOwn hp (thn (T.item X rfl rfl rfl hc i pins s3 σ3 H3 X.xe I3 (stat fr3) st3 go) fun r s4 ⟨u, hr, h4⟩ => ?_)
    subst hr
    refine wpAny_passesOwn hp (thn h4 fun _ s5 ⟨x, H5, I5, r5, y5, st5, fr5⟩ => ?_)
    have I5' := I5.pinned (stat fr5) (T.obj _ _ st5)
    refine wpAny_passesOwn hp (thn (hg _ s5 σ3 H5 x u _ I5' r5 (step x H5 y5)) fun _ s6 ⟨σ6, H6, I6, q6⟩ => ?_)
    refine wpAny_passesOwn hp (thn (hb _ s6 σ6 H6 _ I6 q6) fun f s7 q7 => ?_)
    have again : ∀ {σ7 : St} {H7 : Hp}, Inv X (pins ++ pinsAt fp s5.heap) σ7 H7 s7 → N σ7 H7 → ∃ m, m < n ∧ ∃ i σ' H', Inv X pins σ' H' s7 ∧ tn i s7.heap ∧ (∀ b ∈ fp, H' b = none) ∧ W i m σ' H' := fun {σ7 H7} I7 n7 => by
      obtain ⟨m', hm, w7⟩ := hN σ7 H7 n7
      refine ⟨m', hm, i + 1, σ7, H7, I7.unpinned, T.keep _ _ _ st5 fun b hb o e => (I7.pin (b, o) (List.mem_append_right _ (List.mem_append_right _ (mem_pinsAt hb e)))).1, fun b hb => ?_, w7⟩
      obtain ⟨o, e, d⟩ := T.obj _ _ st5 b hb
      exact (I7.pin (b, o) (List.mem_append_right _ (List.mem_append_right _ (mem_pinsAt hb e)))).2.1
    cases f with
    | next => obtain ⟨σ7, H7, I7, n7⟩ := q7; exact again I7 n7
    | cont => obtain ⟨σ7, H7, I7, n7⟩ := q7; exact again I7 n7
    | brk => obtain ⟨σ7, H7, I7, q7⟩ := q7; exact ⟨σ7, H7, I7.unpinned, q7⟩
    | ret v => obtain ⟨x7, σ7, H7, I7, r7, q7⟩ := q7; exact ⟨x7, σ7, H7, I7.unpinned, r7, q7⟩
end

/-! ### the forms one uses -/
/-- over a list that the body leaves as it is -/
theorem for_list {K : PySem.W.Frag} {a : Addr} {xs : List V} {g : TG} {tb : TS} {D : Ends} {σ : St} {H : Hp} (Pv : Nat → St → Hp → Prop) (h0 : Pv 0 σ H) (hl : ∀ i σ H, i ≤ xs.length → Pv i σ H → SqL K H a xs)
    (hs : ∀ i x σ H, xs[i]? = some x → Pv i σ H → g x σ H fun σ2 H2 => tb { D with nx := Pv (i + 1), ct := Pv (i + 1), bk := D.nx } σ2 H2) (hd : ∀ σ H, Pv xs.length σ H → D.nx σ H) :
    ∃ W : Nat → Nat → St → Hp → Prop, (∃ m, W 0 m σ H) ∧ ∀ i m σ H, W i m σ H →
      ((Itl K a).stop i H ∧ D.nx σ H) ∨ ((Itl K a).go i H ∧ ∃ N : St → Hp → Prop, (∀ σ' H', N σ' H' → ∃ m', m' < m ∧ W (i + 1) m' σ' H') ∧ ∀ x H', (Itl K a).yld i H x H' → g x σ H' fun σ2 H2 => tb { D with nx := N, ct := N, bk := D.nx } σ2 H2) := by
  refine ⟨fun i m σ H => m = xs.length - i ∧ i ≤ xs.length ∧ Pv i σ H, ⟨xs.length, by simp, Nat.zero_le _, h0⟩, ?_⟩
  rintro i m σ H ⟨rfl, hi, p⟩
  have q := hl i σ H hi p
  by_cases hlt : i < xs.length
  · refine .inr ⟨⟨xs, xs[i], q, by simp [hlt]⟩, Pv (i + 1), fun σ' H' p' => ⟨xs.length - (i + 1), by omega, rfl, hlt, p'⟩, fun x H' y => ?_⟩
    obtain ⟨e, y⟩ := y
    subst e
    exact hs i x σ _ (y xs q) p
  · have e : i = xs.length := by omega
    subst e
    exact .inl ⟨⟨xs, q, Nat.le_refl _⟩, hd σ H p⟩
theorem for_range {lo : Int} {n : Nat} {g : TG} {tb : TS} {D : Ends} {σ : St} {H : Hp} (Pv : Nat → St → Hp → Prop) (h0 : Pv 0 σ H)
    (hs : ∀ i σ H, i < n → Pv i σ H → g (.int (lo + i)) σ H fun σ2 H2 => tb { D with nx := Pv (i + 1), ct := Pv (i + 1), bk := D.nx } σ2 H2) (hd : ∀ σ H, Pv n σ H → D.nx σ H) :
    ∃ W : Nat → Nat → St → Hp → Prop, (∃ m, W 0 m σ H) ∧ ∀ i m σ H, W i m σ H →
      ((Itr lo n).stop i H ∧ D.nx σ H) ∨ ((Itr lo n).go i H ∧ ∃ N : St → Hp → Prop, (∀ σ' H', N σ' H' → ∃ m', m' < m ∧ W (i + 1) m' σ' H') ∧ ∀ x H', (Itr lo n).yld i H x H' → g x σ H' fun σ2 H2 => tb { D with nx := N, ct := N, bk := D.nx } σ2 H2) := by
  refine ⟨fun i m σ H => m = n - i ∧ i ≤ n ∧ Pv i σ H, ⟨n, by simp, Nat.zero_le _, h0⟩, ?_⟩
  rintro i m σ H ⟨rfl, hi, p⟩
  by_cases hlt : i < n
  · refine .inr ⟨hlt, Pv (i + 1), fun σ' H' p' => ⟨n - (i + 1), by omega, rfl, hlt, p'⟩, fun x H' y => ?_⟩
    obtain ⟨e, y⟩ := y
    subst e y
    exact hs i σ _ hlt p
  · have e : i = n := by omega
    subst e
    exact .inl ⟨Nat.le_refl _, hd σ H p⟩
end L2

namespace L2
open PySem PySem.Spec PyProof.Rows

abbrev R2 := V → V → Hp → VK → Prop
/-- a two-place operation on values: f is binaryOp op, inplaceOp op or compareOp op -/
def OpR (X : Cx) (f : Value → Value → Sem Value) (r : R2) : Prop :=
  ∀ (pins : List (Addr × Obj)) (s : Shared) (σ : St) (H : Hp) (x y : V) (v u : Value) (Q : VK), Inv X pins σ H s → RelV x v → RelV y u → r x y H Q →
    wpAny (model X.prog X.w) X.A (f v u) (EP X pins σ Q) X.xe s
/-- a one-place operation -/
def UnR (X : Cx) (f : Value → Sem Value) (r : V → Hp → VK → Prop) : Prop :=
  ∀ (pins : List (Addr × Obj)) (s : Shared) (σ : St) (H : Hp) (x : V) (v : Value) (Q : VK), Inv X pins σ H s → RelV x v → r x H Q →
    wpAny (model X.prog X.w) X.A (f v) (EP X pins σ Q) X.xe s
/-- a call of a value that is known (a builtin, a type) with values -/
def CallR (X : Cx) (f : Value) (r : List V → Hp → VK → Prop) : Prop :=
  ∀ (pins : List (Addr × Obj)) (s : Shared) (σ : St) (H : Hp) (xs : List V) (us : List Value) (Q : VK), Inv X pins σ H s → Vals xs us → r xs H Q →
    wpAny (model X.prog X.w) X.A (call f us) (EP X pins σ Q) X.xe s
def tOp (r : R2) (ta tb : TE) : TE := fun σ H Q => ta σ H fun x H1 => tb σ H1 fun y H2 => r x y H2 Q
def tUn (r : V → Hp → VK → Prop) (ta : TE) : TE := fun σ H Q => ta σ H fun x H1 => r x H1 Q
/-- ints in, under C, and a value out -/
def rI (C : Int → Int → Prop) (g : Int → Int → V) : R2 := fun x y H Q => ∃ i j, x = .int i ∧ y = .int j ∧ C i j ∧ Q (g i j) H
def rI0 (g : Int → Int → V) : R2 := fun x y H Q => ∃ i j, x = .int i ∧ y = .int j ∧ Q (g i j) H
def rU (g : Int → V) : V → Hp → VK → Prop := fun x H Q => ∃ i, x = .int i ∧ Q (g i) H

section
variable {X : Cx} {a b c : Expr} {ta tb tc : TE} {pos : Pos}

theorem binT (ha : PE X a ta) (hb : PE X b tb) {pins : List (Addr × Obj)} {s : Shared} {σ : St} {H : Hp} {R : V → V → Hp → Prop} (I : Inv X pins σ H s)
    (h : ta σ H fun x H1 => tb σ H1 fun y H2 => R x y H2) {Q : Value → Shared → Prop} {f : Value → Value → Sem Value}
    (hf : ∀ v u s2 x y H2, Inv X pins σ H2 s2 → RelV x v → RelV y u → R x y H2 → wpAny (model X.prog X.w) X.A (f v u) Q X.xe s2) :
    wpAny (model X.prog X.w) X.A (eval a X.env) (fun v s₁ => wpAny (model X.prog X.w) X.A (eval b X.env) (fun u s₂ => wpAny (model X.prog X.w) X.A (f v u) Q X.xe s₂) X.xe s₁) X.xe s := by
  refine thn (ha pins s σ H _ I h) fun v s1 ⟨x, H1, I1, r1, q1⟩ => ?_
  refine thn (hb pins s1 σ H1 _ I1 q1) fun u s2 ⟨y, H2, I2, r2, q2⟩ => ?_
  exact hf v u s2 x y H2 I2 r1 r2 q2

theorem pe_op {op : Operator} {r : R2} (ho : OpR X (binaryOp op) r) (ha : PE X a ta) (hb : PE X b tb) : PE X (.BinOp a op b pos) (tOp r ta tb) := by
  intro pins s σ H Q I h
  exact wpAny_BinOp (binT ha hb I h fun v u s2 x y H2 I2 rx ry q => ho pins s2 σ H2 x y v u Q I2 rx ry q)
theorem pe_un {op : UnaryOp} {r : V → Hp → VK → Prop} (ho : UnR X (unaryOp op) r) (ha : PE X a ta) : PE X (.UnaryOp op a pos) (tUn r ta) := by
  intro pins s σ H Q I h
  exact UnaryOp_ (thn (ha pins s σ H _ I h) fun v s1 ⟨x, H1, I1, r1, q1⟩ => ho pins s1 σ H1 x v Q I1 r1 q1)
/-! ### ints -/
theorem opI {f : Value → Value → Sem Value} {C : Int → Int → Prop} {g : Int → Int → Int}
    (rule : ∀ (i j : Int) (t u : Tok) (s : Shared) (Q : Value → Shared → Prop) (E : Value → Shared → Prop), C i j → Q (.int (g i j) s.toks) { s with toks := s.toks + 1 } → wpAny (model X.prog X.w) X.A (f (.int i t) (.int j u)) Q E s) :
    OpR X f (rI C fun i j => .int (g i j)) := by
  intro pins s σ H x y v u Q I rx ry h
  obtain ⟨i, j, rfl, rfl, hc, q⟩ := h
  obtain ⟨t, rfl⟩ := rx
  obtain ⟨t', rfl⟩ := ry
  exact rule i j t t' s _ _ hc ⟨.int (g i j), H, I.tok _, ⟨_, rfl⟩, q⟩
theorem opI0 {f : Value → Value → Sem Value} {g : Int → Int → Int}
    (rule : ∀ (i j : Int) (t u : Tok) (s : Shared) (Q : Value → Shared → Prop) (E : Value → Shared → Prop), Q (.int (g i j) s.toks) { s with toks := s.toks + 1 } → wpAny (model X.prog X.w) X.A (f (.int i t) (.int j u)) Q E s) :
    OpR X f (rI0 fun i j => .int (g i j)) := by
  intro pins s σ H x y v u Q I rx ry h
  obtain ⟨i, j, rfl, rfl, q⟩ := h
  obtain ⟨t, rfl⟩ := rx
  obtain ⟨t', rfl⟩ := ry
  exact rule i j t t' s _ _ ⟨.int (g i j), H, I.tok _, ⟨_, rfl⟩, q⟩
theorem opB0 {f : Value → Value → Sem Value} {g : Int → Int → Bool}
    (rule : ∀ (i j : Int) (t u : Tok) (s : Shared) (Q : Value → Shared → Prop) (E : Value → Shared → Prop), Q (.bool (g i j)) s → wpAny (model X.prog X.w) X.A (f (.int i t) (.int j u)) Q E s) :
    OpR X f (rI0 fun i j => .bl (g i j)) := by
  intro pins s σ H x y v u Q I rx ry h
  obtain ⟨i, j, rfl, rfl, q⟩ := h
  obtain ⟨t, rfl⟩ := rx
  obtain ⟨t', rfl⟩ := ry
  exact rule i j t t' s _ _ ⟨.bl (g i j), H, I, rfl, q⟩

def CDiv (i j : Int) : Prop := 0 < j ∧ j < 1073741824
def CPow (i j : Int) : Prop := 0 ≤ j ∧ j ≤ 1000000 ∧ i.natAbs < 2 ^ 64
def CMul (i j : Int) : Prop := (-(2 ^ 64) < i ∧ i < 2 ^ 64) ∨ (-(2 ^ 64) < j ∧ j < 2 ^ 64)
theorem CMul.ok {i j : Int} (h : CMul i j) : IntMulOk i j := by
  rcases h with ⟨h1, h2⟩ | ⟨h1, h2⟩
  · exact .of_left (intBits_le_64 h1 h2)
  · exact .of_right (intBits_le_64 h1 h2)
theorem op_add : OpR X (binaryOp .Add) (rI0 fun i j => .int (i + j)) := opI0 fun _ _ _ _ _ _ _ q => add_int q
theorem op_mul : OpR X (binaryOp .Mult) (rI CMul fun i j => .int (i * j)) := opI fun _ _ _ _ _ _ _ hc q => mul_int q hc.ok
/-- // by a positive divisor -/
theorem op_fdiv : OpR X (binaryOp .FloorDiv) (rI CDiv fun i j => .int (i / j)) := opI fun i j _ _ _ _ _ hc q => by
  have h1 : (0 : Int) < j := hc.1
  have h2 : j < 1073741824 := hc.2
  exact floordiv_int (by omega) (by rw [Int.fdiv_eq_ediv_of_nonneg i (by omega)]; exact q) (.inl (PyProof.noPylong_small (by omega)))
/-- % by a positive divisor of any size -/
theorem op_mod : OpR X (binaryOp .Mod) (rI (fun _ j => 0 < j) fun i j => .int (i % j)) := opI fun i j _ _ _ _ _ hc q => by
  have h1 : (0 : Int) < j := hc
  exact mod_int' (by omega) (by rw [Int.fmod_eq_emod_of_nonneg i (by omega)]; exact q)
theorem op_pow : OpR X (binaryOp .Pow) (rI CPow fun i j => .int (i ^ j.toNat)) := opI fun _ _ _ _ _ _ _ hc q => pow_int_small hc.1 hc.2.1 hc.2.2 q
theorem unI {f : Value → Sem Value} {g : Int → Int}
    (rule : ∀ (i : Int) (t : Tok) (s : Shared) (Q : Value → Shared → Prop) (E : Value → Shared → Prop), Q (.int (g i) s.toks) { s with toks := s.toks + 1 } → wpAny (model X.prog X.w) X.A (f (.int i t)) Q E s) :
    UnR X f (rU fun i => .int (g i)) := by
  intro pins s σ H x v Q I rx h
  obtain ⟨i, rfl, q⟩ := h
  obtain ⟨t, rfl⟩ := rx
  exact rule i t s _ _ ⟨.int (g i), H, I.tok _, ⟨_, rfl⟩, q⟩
theorem un_neg : UnR X (unaryOp .USub) (rU fun i => .int (-i)) := unI fun _ _ _ _ _ q => neg_int q
/-! ### bools among ints: n += (a < b) -/
end

/-! ### comparisons -/
/-- the scalars that == tells apart as data does -/
def scal : V → V → Bool
  | .non, .non => true | .non, .int _ => true | .int _, .non => true | .non, .bl _ => true | .bl _, .non => true | .non, .str _ => true | .str _, .non => true
  | .int _, .int _ => true | .bl _, .bl _ => true | .str _, .str _ => true | .byt _, .byt _ => true
  | .int _, .str _ => true | .str _, .int _ => true | .bl _, .str _ => true | .str _, .bl _ => true
  | _, _ => false
def rEq : R2 := fun x y H Q => scal x y = true ∧ Q (.bl (decide (x = y))) H
def rNe : R2 := fun x y H Q => scal x y = true ∧ Q (.bl (!decide (x = y))) H

theorem dec_int {i j : Int} : decide (V.int i = V.int j) = (i == j) := by
  rw [Bool.eq_iff_iff]
  simp
theorem dec_bl {i j : Bool} : decide (V.bl i = V.bl j) = (i == j) := by
  rw [Bool.eq_iff_iff]
  simp
theorem dec_str {i j : Str} : decide (V.str i = V.str j) = (i == j) := by
  rw [Bool.eq_iff_iff]
  simp
theorem dec_byt {i j : Array UInt8} : decide (V.byt i = V.byt j) = (i.toList == j.toList) := by
  rw [Bool.eq_iff_iff]
  cases i
  cases j
  simp

section
variable {X : Cx} {a b c : Expr} {ta tb tc : TE} {pos : Pos}
theorem fin_bl {pins : List (Addr × Obj)} {σ : St} {H : Hp} {s : Shared} {Q : VK} {k k' : Bool} (I : Inv X pins σ H s) (q : Q (.bl k) H) (e : k = k') : EP X pins σ Q (.bool k') s := by
  subst e
  exact ⟨.bl k, H, I, rfl, q⟩
theorem op_eq : OpR X (compareOp .Eq) rEq := by
  intro pins s σ H x y v u Q I rx ry h
  obtain ⟨hs, q⟩ := h
  cases x with
  | non =>
    cases rx
    cases y with
    | non => cases ry; exact PySem.EqNone.eq_none_none (fin_bl I q (by simp))
    | bl j => cases ry; exact PySem.EqNone.eq_none_bool (fin_bl I q (by simp))
    | int j => obtain ⟨t', rfl⟩ := ry; exact PySem.EqNone.eq_none_int (fin_bl I q (by simp))
    | str j => obtain ⟨t', rfl⟩ := ry; exact PySem.EqNone.eq_none_str (fin_bl I q (by simp))
    | _ => exact absurd (show false = true from hs) Bool.false_ne_true
  | bl i =>
    cases rx
    cases y with
    | non => cases ry; exact PySem.EqNone.eq_bool_none (fin_bl I q (by simp))
    | bl j => cases ry; exact eq_bool (fin_bl I q dec_bl)
    | str j => obtain ⟨t', rfl⟩ := ry; exact PySem.EqMixed.eq_bool_str (fin_bl I q (by simp))
    | _ => exact absurd (show false = true from hs) Bool.false_ne_true
  | int i =>
    obtain ⟨t, rfl⟩ := rx
    cases y with
    | non => cases ry; exact PySem.EqNone.eq_int_none (fin_bl I q (by simp))
    | int j => obtain ⟨t', rfl⟩ := ry; exact eq_int (fin_bl I q dec_int)
    | str j => obtain ⟨t', rfl⟩ := ry; exact PySem.EqMixed.eq_int_str (fin_bl I q (by simp))
    | _ => exact absurd (show false = true from hs) Bool.false_ne_true
  | str i =>
    obtain ⟨t, rfl⟩ := rx
    cases y with
    | non => cases ry; exact PySem.EqNone.eq_str_none (fin_bl I q (by simp))
    | bl j => cases ry; exact PySem.EqMixed.eq_str_bool (fin_bl I q (by simp))
    | int j => obtain ⟨t', rfl⟩ := ry; exact PySem.EqMixed.eq_str_int (fin_bl I q (by simp))
    | str j => obtain ⟨t', rfl⟩ := ry; exact eq_str (fin_bl I q dec_str)
    | _ => exact absurd (show false = true from hs) Bool.false_ne_true
  | byt i =>
    obtain ⟨t, rfl⟩ := rx
    cases y with
    | byt j => obtain ⟨t', rfl⟩ := ry; exact PySem.W.eq_bytes (fin_bl I q dec_byt)
    | _ => exact absurd (show false = true from hs) Bool.false_ne_true
  | _ => cases y <;> exact absurd (show false = true from hs) Bool.false_ne_true
theorem op_ne : OpR X (compareOp .NotEq) rNe := by
  intro pins s σ H x y v u Q I rx ry h
  obtain ⟨hs, q⟩ := h
  cases x with
  | non =>
    cases rx
    cases y with
    | non => cases ry; exact PySem.EqNone.ne_none_none (fin_bl I q (by simp))
    | bl j => cases ry; exact PySem.EqNone.ne_none_bool (fin_bl I q (by simp))
    | int j => obtain ⟨t', rfl⟩ := ry; exact PySem.EqNone.ne_none_int (fin_bl I q (by simp))
    | str j => obtain ⟨t', rfl⟩ := ry; exact PySem.EqNone.ne_none_str (fin_bl I q (by simp))
    | _ => exact absurd (show false = true from hs) Bool.false_ne_true
  | bl i =>
    cases rx
    cases y with
    | non => cases ry; exact PySem.EqNone.ne_bool_none (fin_bl I q (by simp))
    | bl j => cases ry; exact ne_bool (fin_bl I q (congrArg not dec_bl))
    | str j => obtain ⟨t', rfl⟩ := ry; exact PySem.EqMixed.ne_bool_str (fin_bl I q (by simp))
    | _ => exact absurd (show false = true from hs) Bool.false_ne_true
  | int i =>
    obtain ⟨t, rfl⟩ := rx
    cases y with
    | non => cases ry; exact PySem.EqNone.ne_int_none (fin_bl I q (by simp))
    | int j => obtain ⟨t', rfl⟩ := ry; exact ne_int (fin_bl I q (congrArg not dec_int))
    | str j => obtain ⟨t', rfl⟩ := ry; exact PySem.EqMixed.ne_int_str (fin_bl I q (by simp))
    | _ => exact absurd (show false = true from hs) Bool.false_ne_true
  | str i =>
    obtain ⟨t, rfl⟩ := rx
    cases y with
    | non => cases ry; exact PySem.EqNone.ne_str_none (fin_bl I q (by simp))
    | bl j => cases ry; exact PySem.EqMixed.ne_str_bool (fin_bl I q (by simp))
    | int j => obtain ⟨t', rfl⟩ := ry; exact PySem.EqMixed.ne_str_int (fin_bl I q (by simp))
    | str j => obtain ⟨t', rfl⟩ := ry; exact ne_str (fin_bl I q (congrArg not dec_str))
    | _ => exact absurd (show false = true from hs) Bool.false_ne_true
  | byt i =>
    obtain ⟨t, rfl⟩ := rx
    cases y with
    | byt j => obtain ⟨t', rfl⟩ := ry; exact PySem.W.ne_bytes (fin_bl I q (congrArg not dec_byt))
    | _ => exact absurd (show false = true from hs) Bool.false_ne_true
  | _ => cases y <;> exact absurd (show false = true from hs) Bool.false_ne_true

theorem op_lt : OpR X (compareOp .Lt) (rI0 fun i j => .bl (decide (i < j))) := opB0 fun _ _ _ _ _ _ _ q => lt_int q
theorem op_le : OpR X (compareOp .LtE) (rI0 fun i j => .bl (decide (i ≤ j))) := opB0 fun _ _ _ _ _ _ _ q => le_int q
theorem op_gt : OpR X (compareOp .Gt) (rI0 fun i j => .bl (decide (j < i))) := opB0 fun _ _ _ _ _ _ _ q => gt_int q
theorem op_ge : OpR X (compareOp .GtE) (rI0 fun i j => .bl (decide (j ≤ i))) := opB0 fun _ _ _ _ _ _ _ q => ge_int q
/-- is None, is not None: the right side a value none -/
theorem op_isN : OpR X (compareOp .Is) (fun x y H Q => y = .non ∧ Q (.bl (decide (x = .non))) H) := by
  intro pins s σ H x y v u Q I rx ry h
  obtain ⟨rfl, q⟩ := h
  cases ry
  refine is_none_gen (fin_bl I q ?_)
  cases x <;> first
    | (cases rx; rfl)
    | (obtain ⟨t, rfl⟩ := rx; rfl)
/-- two rules for one operation: by cases -/
theorem OpR.or {f : Value → Value → Sem Value} {r r' : R2} (h : OpR X f r) (h' : OpR X f r') : OpR X f (fun x y H Q => r x y H Q ∨ r' x y H Q) := by
  intro pins s σ H x y v u Q I rx ry q
  rcases q with q | q
  · exact h pins s σ H x y v u Q I rx ry q
  · exact h' pins s σ H x y v u Q I rx ry q

theorem nomark (b : Expr) {op : CmpOp} (h : op ≠ .In := by decide) (h2 : op ≠ .NotIn := by decide) : behindInMarks op b = false := by
  have e1 : (op == CmpOp.In) = false := by cases op <;> first | rfl | exact absurd rfl h
  have e2 : (op == CmpOp.NotIn) = false := by cases op <;> first | rfl | exact absurd rfl h2
  cases b <;> simp [behindInMarks, e1, e2]
/-- a comparison as a value; hm: nomark b, or (for in, not in) by with_unfolding_all rfl -/
theorem pe_cmpR {op : CmpOp} {r : R2} (ho : OpR X (compareOp op) r) (ha : PE X a ta) (hb : PE X b tb) (hm : behindInMarks op b = false) : PE X (.Compare a [op] [b] pos) (tOp r ta tb) := by
  intro pins s σ H Q I h
  exact wpAny_Compare1 (binT ha hb I h fun v u s2 x y H2 I2 rx ry q => ho pins s2 σ H2 x y v u Q I2 rx ry q) hm
/-- a reading of a value as a test -/
def tTest (t : TE) : TT := fun σ H Q => t σ H fun x H' => ∃ k, x = .bl k ∧ Q k H'
theorem pt_cmpR {op : CmpOp} {r : R2} (ho : OpR X (compareOp op) r) (ha : PE X a ta) (hb : PE X b tb) (hm : behindInMarks op b = false) : PT X (.Compare a [op] [b] pos) (tTest (tOp r ta tb)) := by
  intro pins s σ H Q I h
  refine wpAny_isTrue_Compare1 (thn (ha pins s σ H _ I h) fun v s1 ⟨x, H1, I1, r1, q1⟩ => thn (hb pins s1 σ H1 _ I1 q1) fun u s2 ⟨y, H2, I2, r2, q2⟩ =>
    thn (ho pins s2 σ H2 x y v u _ I2 r1 r2 q2) fun c s3 ⟨z, H3, I3, r3, k, e, q3⟩ => ?_) hm
  subst e
  cases r3
  exact wpAny_truthy_bool ⟨H3, I3, q3⟩
/-- a op1 b op2 c -/
def tChain (r r' : R2) (ta tb tc : TE) : TE := fun σ H Q => ta σ H fun x H1 => tb σ H1 fun y H2 => r x y H2 fun z H3 => ∃ k, z = .bl k ∧
  (if k = true then tc σ H3 fun w' H4 => r' y w' H4 Q else Q (.bl false) H3)
theorem pe_chain {op op' : CmpOp} {r r' : R2} (ho : OpR X (compareOp op) r) (ho' : OpR X (compareOp op') r') (ha : PE X a ta) (hb : PE X b tb) (hc : PE X c tc)
    (hm : lastMarks [op, op'] [b, c] = false := by with_unfolding_all rfl) : PE X (.Compare a [op, op'] [b, c] pos) (tChain r r' ta tb tc) := by
  intro pins s σ H Q I h
  refine Compare_chain (thn (ha pins s σ H _ I h) fun v s1 ⟨x, H1, I1, r1, q1⟩ => chain_link (thn (hb pins s1 σ H1 _ I1 q1) fun u s2 ⟨y, H2, I2, r2, q2⟩ =>
    thn (ho pins s2 σ H2 x y v u _ I2 r1 r2 q2) fun d s3 ⟨z, H3, I3, r3, k, e, q3⟩ => ?_)) hm
  subst e
  cases r3
  refine wpAny_truthy_bool ?_
  cases k with
  | false => exact ite_ff ⟨.bl false, H3, I3, rfl, q3⟩
  | true => exact ite_tt (chain_last (thn (hc pins s3 σ H3 _ I3 q3) fun w' s4 ⟨z', H4, I4, r4, q4⟩ => ho' pins s4 σ H4 y z' u w' Q I4 r2 r4 q4))
theorem pt_chain {op op' : CmpOp} {r r' : R2} (ho : OpR X (compareOp op) r) (ho' : OpR X (compareOp op') r') (ha : PE X a ta) (hb : PE X b tb) (hc : PE X c tc)
    (hm : lastMarks [op, op'] [b, c] = false := by with_unfolding_all rfl) : PT X (.Compare a [op, op'] [b, c] pos) (tTest (tChain r r' ta tb tc)) := by
  intro pins s σ H Q I h
  refine isTrue_chain (thn (ha pins s σ H _ I h) fun v s1 ⟨x, H1, I1, r1, q1⟩ => test_link (thn (hb pins s1 σ H1 _ I1 q1) fun u s2 ⟨y, H2, I2, r2, q2⟩ =>
    thn (ho pins s2 σ H2 x y v u _ I2 r1 r2 q2) fun d s3 ⟨z, H3, I3, r3, k, e, q3⟩ => ?_)) hm
  subst e
  cases r3
  refine wpAny_truthy_bool ?_
  cases k with
  | false =>
    obtain ⟨k', e', q'⟩ := q3
    cases e'
    exact ite_ff ⟨H3, I3, q'⟩
  | true =>
    refine ite_tt (test_last (thn (hc pins s3 σ H3 _ I3 q3) fun w' s4 ⟨z', H4, I4, r4, q4⟩ => thn (ho' pins s4 σ H4 y z' u w' _ I4 r2 r4 q4) fun d' s5 ⟨z2, H5, I5, r5, k2, e2, q5⟩ => ?_))
    subst e2
    cases r5
    exact wpAny_truthy_bool ⟨H5, I5, q5⟩

/-! ### truth -/
theorem line63 : (sizeLine : Nat) < 2 ^ 63 := by rw [sizeLine_eq]; decide
/-! ### strs and bytes -/
theorem op_add_str : OpR X (binaryOp .Add) (fun x y H Q => ∃ i j, x = .str i ∧ y = .str j ∧ i.length + j.length ≤ sizeLine ∧ Q (.str (i ++ j)) H) := by
  intro pins s σ H x y v u Q I rx ry h
  obtain ⟨i, j, rfl, rfl, hz, q⟩ := h
  obtain ⟨t, rfl⟩ := rx
  obtain ⟨t', rfl⟩ := ry
  exact add_str (fun t' tk => ⟨.str (i ++ j), H, I.tok _, ⟨_, rfl⟩, q⟩) hz
/-! ### scalar builtins, by CallR -/
theorem vals1 {x : V} {us : List Value} (r : Vals [x] us) : ∃ u, us = [u] ∧ RelV x u := by
  cases r with
  | cons r1 r2 => cases r2; exact ⟨_, rfl, r1⟩
theorem call_abs : CallR X (.builtin "abs") (fun xs H Q => ∃ i, xs = [.int i] ∧ Q (.int (if i < 0 then -i else i)) H) := by
  intro pins s σ H xs us Q I r h
  obtain ⟨i, rfl, q⟩ := h
  obtain ⟨u, rfl, t, rfl⟩ := vals1 r
  exact call_abs_int fun u tk => ⟨.int (if i < 0 then -i else i), H, I.tok _, ⟨_, rfl⟩, q⟩
theorem call_int1 : CallR X (.type "int") (fun xs H Q => (∃ i, xs = [.int i] ∧ Q (.int i) H) ∨ ∃ k, xs = [.bl k] ∧ Q (.int (if k then 1 else 0)) H) := by
  intro pins s σ H xs us Q I r h
  rcases h with ⟨i, rfl, q⟩ | ⟨k, rfl, q⟩
  · obtain ⟨u, rfl, t, rfl⟩ := vals1 r
    exact call_int_int ⟨.int i, H, I, ⟨_, rfl⟩, q⟩
  · obtain ⟨u, rfl, r1⟩ := vals1 r
    cases r1
    exact call_int_bool ⟨.int (if k then 1 else 0), H, I.tok _, ⟨_, rfl⟩, q⟩
end
end L2

namespace L2
open PySem PySem.Spec PyProof.Rows

/-! ### an instance, its attributes a map -/
structure ObjM (h : Heap) (x dx C : Addr) (mA : Str → Option Value) : Prop where
  obj : h.get? x = some (PySem.W.instObj C dx)
  ns : h.Ns1 dx mA
  ne : dx ≠ x

theorem lookIn_ns {h : Heap} {dx : Addr} {mA : Str → Option Value} (n : h.Ns1 dx mA) : ∃ od, h.get? dx = some od ∧ ∀ name, PySem.W.lookIn name od = some (mA name) := by
  obtain ⟨o, es, ep, ho, hd, hk, _, hm⟩ := n
  refine ⟨o, ho, fun name => ?_⟩
  have e := hm name
  unfold nsFind findBy at e
  rw [← Array.find?_toList] at e
  unfold PySem.W.lookIn
  rw [hd]
  dsimp only
  split
  · rename_i y q
    rw [q] at e
    exact congrArg some e
  · rename_i q
    rw [q] at e
    have a : es.toList.any (·.refKey) = false := by
      rw [List.any_eq_false]
      intro y hy
      obtain ⟨z, t, hkey⟩ := hk y (Array.mem_toList_iff.mp hy)
      simp [DictEntry.refKey, hkey]
    have a' : ¬ es.toList.any (·.refKey) = true := by rw [a]; exact Bool.false_ne_true
    rw [if_neg a']
    exact congrArg some e

theorem ObjM.look {h : Heap} {x dx C : Addr} {mA : Str → Option Value} (I : ObjM h x dx C mA) : ∃ od, PySem.W.InstAt h x (PySem.W.instObj C dx) C (some od) ∧ ∀ name, PySem.W.lookIn name od = some (mA name) :=
  let ⟨od, ho, hl⟩ := lookIn_ns I.ns
  ⟨od, ⟨I.obj, rfl, rfl, ho⟩, hl⟩

section
variable {prog : Program} {w : World} {A : Around} {E : Value → Shared → Prop} {s : Shared} {K : PySem.W.Frag} {x dx C f : Addr} {mA : Str → Option Value} {name : Str} {v : Value}

end

/-! ### the attributes as a list of pairs -/
section
variable {P : Program} {w : World} {H H' : Hp} {h h' : Heap} {a C dx : Addr} {fs fs' : List (Str × V)}
theorem ins_get (hok : HOk P w H h) (e : H a = some (.ins C dx fs)) : ∃ mA, ObjM h a dx C mA ∧ (∀ f, RelO (fs.lookup f) (mA f)) ∧ PySem.Within mA (fs.map (·.1)) ∧ fs.length ≤ 1000 ∧ H dx = some (.own a) := by
  obtain ⟨d, z, ne, ob, mA, n, r, q⟩ := (show ObjOk P w H h a (.ins C dx fs) from hok a _ e)
  exact ⟨mA, ⟨ob, n, ne⟩, r, q, z, d⟩
end

/-! ### what of the text a class must have -/
structure Cls (K : PySem.W.Frag) (C : Addr) : Prop where
  pg : PySem.W.plainGet K C Str.empty = true
  hd : PySem.W.hasDictIn K C = true
  po : PySem.W.plainOver K C = true
  sa : PySem.W.findIn K (.ref C) "__setattr__" = some (some (.builtin "object.__setattr__"))
theorem Cls.get {K : PySem.W.Frag} {C : Addr} (c : Cls K C) (f : Str) : PySem.W.plainGet K C f = true := c.pg
section
variable {X : Cx} {pins : List (Addr × Obj)} {σ : St} {H : Hp} {s : Shared} {a C dx : Addr} {fs : List (Str × V)} {f : Str} {v : V} {A : Around} {E : Value → Shared → Prop}

/-- a new instance, tracked, without attributes -/
theorem Inv.made (I : Inv X pins σ H s) : Inv X pins σ (upd (upd H s.heap.objs.size (.own (s.heap.objs.size + 1))) (s.heap.objs.size + 1) (.ins C s.heap.objs.size []))
    { s with heap := (s.heap.push PySem.W.emptyDict).push (PySem.W.instObj C s.heap.objs.size) } := by
  have e1 : (s.heap.push PySem.W.emptyDict).get? s.heap.objs.size = some PySem.W.emptyDict := Heap.get?_push_size s.heap rfl
  have e2 : ((s.heap.push PySem.W.emptyDict).push (PySem.W.instObj C s.heap.objs.size)).get? (s.heap.objs.size + 1) = some (PySem.W.instObj C s.heap.objs.size) := by
    have := Heap.get?_push_size (s.heap.push PySem.W.emptyDict) (o := PySem.W.instObj C s.heap.objs.size) rfl
    rwa [Heap.size_push] at this
  have e3 : (s.heap.push PySem.W.emptyDict).Ns s.heap.objs.size (fun _ => none) := ⟨PySem.W.emptyDict, #[], _, e1, rfl, (fun e he => absurd he (by simp)), fun _ => rfl⟩
  have I1 := I.laid (a := s.heap.objs.size) (o := .own (s.heap.objs.size + 1)) (h' := s.heap.push PySem.W.emptyDict) (t' := s.toks) (fun b u q => Heap.get?_push_of_some _ q) (Nat.le_refl _) ⟨_, e1⟩
  refine I1.laid (a := s.heap.objs.size + 1) (o := .ins C s.heap.objs.size []) (t' := s.toks) (fun b u q => Heap.get?_push_of_some _ q) (Nat.le_of_eq (Heap.size_push _ _)) ?_
  have ne : s.heap.objs.size ≠ s.heap.objs.size + 1 := Nat.ne_of_lt (Nat.lt_succ_self _)
  refine ⟨by rw [upd_ne ne, upd_same], Nat.zero_le _, ne, e2, fun _ => none, (Heap.Ns1.of_empty e3).at fun o q => Heap.get?_push_of_some _ q, fun _ => True.intro, fun y hy => absurd rfl hy⟩

end

/-! ### readings and rules -/
section
variable {X : Cx} {o e value : Expr} {f : Str} {pos pos' tpos : Pos} {ta tv : TE}
end

/-! ### isinstance -/
section
variable {X : Cx} {pins : List (Addr × Obj)} {σ : St} {H : Hp} {s : Shared} {A : Around} {E : Value → Shared → Prop} {Q : Value → Shared → Prop} {c : Value} {b : Bool}
/-- the type of a value, as the fragment's deciders take it; for an instance its class -/
inductive TyOf (K : PySem.W.Frag) (H : Hp) : V → Value → Prop where
  | non : TyOf K H .non (.type "NoneType")
  | bl (x : Bool) : TyOf K H (.bl x) (.type "bool")
  | int (i : Int) : TyOf K H (.int i) (.type "int")
  | str (x : Str) : TyOf K H (.str x) (.type "str")
  | flt (x : UInt64) : TyOf K H (.flt x) (.type "float")
  | lst {a : Addr} {xs : List V} (e : H a = some (.lst xs)) : TyOf K H (.ref a) (.type "list")
  | frz {a : Addr} {o : Obj} {xs : List V} (e : H a = some (.frz o (.lst xs))) : TyOf K H (.ref a) (.type "list")
  | tup {a : Addr} {xs : List V} (e : H a = some (.tup xs)) : TyOf K H (.ref a) (.type "tuple")
  | dK {a : Addr} {kvs : List (Key × V)} (e : H a = some (.dK kvs)) : TyOf K H (.ref a) (.type "dict")
  | dT {a : Addr} {kvs : List (List Key × V)} (e : H a = some (.dT kvs)) : TyOf K H (.ref a) (.type "dict")
  | ins {a C dx : Addr} {fs : List (Str × V)} (e : H a = some (.ins C dx fs)) (cl : Cls K C) (ha : PySem.W.findIn K (.ref C) "__class__" = some (some (.builtin "object.__class__")))
      (hn : PySem.W.specialIn K (.builtin "object.__class__") "__get__" = some (some (.builtin "getset_descriptor.__get__"))) (htk : PySem.W.takesIn K (.builtin "object.__class__") = some true)
      (hm : PySem.W.mroIn K C (.type "object") = some true) : TyOf K H (.ref a) (.ref C)
/-- isinstance(x, c) for one class c, a built-in or an own one: kitOne's answer -/
theorem isinst_ok {x : V} {u t : Value} (I : Inv X pins σ H s) (rx : RelV x u) (ty : TyOf X.K H x t) (e : PySem.W.kitOne X.K t c = some b) (h : ∀ tk, Q (.bool b) { s with toks := tk }) :
    wpAny (model X.prog X.w) A (call (.builtin "isinstance") [u, c]) Q E s := by
  cases ty with
  | non => cases (show u = Value.none from rx); exact PySem.W.kia_one PySem.W.kitx_none I.kIn True.intro e (fun z => nomatch z) h
  | bl y => cases (show u = Value.bool y from rx); exact PySem.W.kia_one PySem.W.kitx_bool I.kIn True.intro e (fun z => nomatch z) h
  | int i => obtain ⟨t, q⟩ := (show ∃ t, u = Value.int i t from rx); cases q; exact PySem.W.kia_one PySem.W.kitx_int I.kIn True.intro e (fun z => nomatch z) h
  | str y => obtain ⟨t, q⟩ := (show ∃ t, u = Value.str y t from rx); cases q; exact PySem.W.kia_one PySem.W.kitx_str I.kIn True.intro e (fun z => nomatch z) h
  | flt y => obtain ⟨t, q⟩ := (show ∃ t, u = Value.float y t from rx); cases q; exact PySem.W.kia_one PySem.W.kitx_float I.kIn True.intro e (fun z => nomatch z) h
  | @lst a xs ea =>
    cases (show u = Value.ref a from rx)
    obtain ⟨_, _, n, _, h1⟩ := (show ObjOk X.prog X.w H s.heap a (.lst xs) from I.hok a _ ea)
    exact PySem.W.kia_one PySem.W.kitx_list I.kIn ⟨_, h1, rfl⟩ e (fun z => nomatch z) h
  | @frz a ob xs ea =>
    cases (show u = Value.ref a from rx)
    obtain ⟨_, _, _, n, _, h1⟩ := (show ObjOk X.prog X.w H s.heap a (.frz ob (.lst xs)) from I.hok a _ ea)
    exact PySem.W.kia_one PySem.W.kitx_list I.kIn ⟨_, h1, rfl⟩ e (fun z => nomatch z) h
  | @tup a xs ea =>
    cases (show u = Value.ref a from rx)
    obtain ⟨_, _, _, p⟩ := (show ObjOk X.prog X.w H s.heap a (.tup xs) from I.hok a _ ea)
    obtain ⟨o, h1, h2, _⟩ := p
    exact PySem.W.kia_one PySem.W.kitx_tuple I.kIn ⟨o, h1, h2⟩ e (fun z => nomatch z) h
  | @dK a kvs ea =>
    cases (show u = Value.ref a from rx)
    obtain ⟨_, _, vs, _, p⟩ := (show ObjOk X.prog X.w H s.heap a (.dK kvs) from I.hok a _ ea)
    obtain ⟨o, es, ep, h1, h2, _⟩ := p
    exact PySem.W.kia_one PySem.W.kitx_dict I.kIn ⟨o, h1, h2.1⟩ e (fun z => nomatch z) h
  | @dT a kvs ea =>
    cases (show u = Value.ref a from rx)
    obtain ⟨_, _, xs, _, o, es, ep, h1, h2, _⟩ := (show ObjOk X.prog X.w H s.heap a (.dT kvs) from I.hok a _ ea)
    exact PySem.W.kia_one PySem.W.kitx_dict I.kIn ⟨o, h1, h2.1⟩ e (fun z => nomatch z) h
  | @ins a C dx fs ea cl ha hn htk hm =>
    cases (show u = Value.ref a from rx)
    obtain ⟨mA, O, _⟩ := ins_get I.hok ea
    obtain ⟨od, J, _⟩ := O.look
    exact PySem.W.kia_one (PySem.W.kitx_own (cl.get _) cl.hd ha hn htk hm) I.kIn J e (fun z => nomatch z) h
end
end L2

namespace L2
open PySem PySem.Spec PyProof.Rows

/-! ### room -/
structure Room (k : Nat) (A : Around) : Prop where
  hd : A.handled = none
  dp : A.depth + 3 * k + 5 < recursionLimit
  un : A.units + 16 * k + 200 < cLine
theorem Room.mono {j k : Nat} {A : Around} (r : Room k A) (h : j ≤ k) : Room j A := ⟨r.hd, by have := r.dp; omega, by have := r.un; omega⟩
theorem Room.deeper {k : Nat} {A : Around} (r : Room (k + 1) A) (env : Env) : Room k (A.deeper env) :=
  ⟨r.hd, by have := r.dp; show A.depth + 1 + 3 * k + 5 < _; omega, by have := r.un; show A.units + 3 + 16 * k + 200 < _; omega⟩
theorem Room.in1 {k : Nat} {A : Around} (r : Room (k + 1) A) : Room k A.in1 :=
  ⟨r.hd, by have := r.dp; show A.depth + 3 * k + 5 < _; omega, by have := r.un; show A.units + 1 + 16 * k + 200 < _; omega⟩
theorem Room.depth {k : Nat} {A : Around} (r : Room k A) : A.depth < recursionLimit := by have := r.dp; omega
theorem Room.units {k : Nat} {A : Around} (r : Room k A) : A.units + 64 < cLine := by have := r.un; omega
/-! ### argument lists and displays -/
def tNil : TA := fun _ H Q => Q [] H
def tCons (ta : TE) (tr : TA) : TA := fun σ H Q => ta σ H fun x H1 => tr σ H1 fun xs H2 => Q (x :: xs) H2
section
variable {X : Cx} {e : Expr} {es : List Expr} {te : TE} {t : TA} {pos : Pos}
theorem pa_nil : PA X [] tNil := fun _ _ _ _ H Q I h => Calls.spliced_nil ⟨[], H, I, .nil, h⟩
theorem pa_cons (ha : PE X e te) (hr : PA X es t) (hs : starEach (e :: es) X.env = (false, eval e X.env) :: starEach es X.env := by rfl) : PA X (e :: es) (tCons te t) := by
  intro pos pins s σ H Q I h
  rw [hs]
  show wpAny _ _ (spliced ((false, eval e X.env) :: backTo pos (starEach es X.env))) _ _ s
  refine Calls.spliced_cons (thn (ha pins s σ H _ I h) fun u s1 ⟨x, H1, I1, r1, q1⟩ => ?_)
  exact thn (hr pos pins s1 σ H1 _ I1 q1) fun us s2 ⟨xs, H2, I2, r2, q2⟩ => ⟨x :: xs, H2, I2, .cons r1 r2, q2⟩

/-- a tuple, a list of written items -/
def tTup (t : TA) : TE := fun σ H Q => t σ H fun xs H1 => xs.length ≤ sizeLine ∧ ∀ p, H1 p = none → Q (.ref p) (upd H1 p (.tup xs))
def tLst (t : TA) : TE := fun σ H Q => t σ H fun xs H1 => xs.length ≤ sizeLine ∧ ∀ p, H1 p = none → Q (.ref p) (upd H1 p (.lst xs))
theorem pe_tup {x1} (h : PA X es t) : PE X (.Tuple es x1 pos) (tTup t) := by
  intro pins s σ H Q I hq
  refine wpAny_Tuple_spliced (thn (h pos pins s σ H _ I hq) fun us s1 ⟨xs, H1, I1, r, z, q⟩ => ⟨by rw [← r.length]; exact z, ?_⟩)
  have hf : H1 s1.heap.objs.size = none := I1.hok.fresh (Nat.le_refl _)
  refine ⟨.ref s1.heap.objs.size, upd H1 s1.heap.objs.size (.tup xs), I1.laid (t' := s1.toks) (fun b u e => Heap.get?_push_of_some _ e) (Nat.le_refl _) ?_, rfl, q _ hf⟩
  exact ⟨z, us, r, ⟨_, Heap.get?_push_size _ rfl, rfl, _, rfl, rfl⟩⟩
theorem pe_lst (h : PA X es t) : PE X (.List es pos) (tLst t) := by
  intro pins s σ H Q I hq
  refine wpAny_List_spliced (thn (h pos pins s σ H _ I hq) fun us s1 ⟨xs, H1, I1, r, z, q⟩ => ⟨by rw [← r.length]; exact z, ?_⟩)
  have hf : H1 s1.heap.objs.size = none := I1.hok.fresh (Nat.le_refl _)
  refine ⟨.ref s1.heap.objs.size, upd H1 s1.heap.objs.size (.lst xs), I1.laid (t' := s1.toks) (fun b u e => Heap.get?_push_of_some _ e) (Nat.le_refl _) ?_, rfl, q _ hf⟩
  exact ⟨z, us, 0, r, Heap.get?_push_size _ rfl⟩
end

/-! ### what a def promises -/
/-- a def's promise: the bound arguments in the parameters' order, the heap, the wanted end, the wanted exception -/
abbrev Sp := List V → Hp → VK → XK → Prop
/-- how an exception lies behind a call (file 08 gives it): the callers' frames, abstract heap and state ahead of the call, the wish, the exception, the state -/
abbrev CXT := List Env → Hp → Shared → XK → Value → Shared → Prop

/-- the state at a call -/
structure Env0 (P : Program) (w : World) (K : PySem.W.Frag) (mg : Str → Option Value) (base : Heap) (A : Around) (outer : List Env) (s : Shared) (H : Hp) : Prop where
  frames : A.frames = some outer
  mod : Mod K mg base
  bs : ∀ b o, base.get? b = some o → s.heap.get? b = some o ∧ H b = none
  bsz : base.objs.size ≤ s.heap.objs.size
  funs : s.heap.FunFrames base outer
  frf : ∀ b ∈ frs outer, H b = none
  hok : HOk P w H s.heap
  bare : AllBare s.gens
/-- a call's end -/
def CE (outer : List Env) (P : Program) (w : World) (H : Hp) (s : Shared) (Q : VK) (u : Value) (s' : Shared) : Prop :=
  ∃ v H', s'.os = s.os ∧ AllBare s'.gens ∧ Un (frs outer) [] H H' s.heap s'.heap ∧ HOk P w H' s'.heap ∧ RelV v u ∧ Q v H'
def CR (CX : CXT) (outer : List Env) (P : Program) (w : World) (H : Hp) (s : Shared) (Q : VK) (E : XK) (r : Result) (s' : Shared) : Prop :=
  match r with
  | .ok (.ret u) => CE outer P w H s Q u s'
  | .ok _ => False
  | .error e => CX outer H s E e s'
structure FnOk (P : Program) (w : World) (K : PySem.W.Frag) (mg : Str → Option Value) (base : Heap) (CX : CXT) (k : Nat) (f : Addr) (fd : FuncData) (ps : List Str) (sp : Sp) : Prop where
  len : ∀ vs H Q E, sp vs H Q E → vs.length = ps.length
  run : ∀ (A : Around) (outer : List Env) (s : Shared) (H : Hp) (args : Args) (us : List Value) (vs : List V) (Q : VK) (E : XK), Room k A → Env0 P w K mg base A outer s H → BindsTo s fd args (ps.zip us) → Vals vs us → sp vs H Q E →
    codeAny (model P w) A (.call (.ref f) args) (CR CX outer P w H s Q E) s
theorem FnOk.mono {P : Program} {w : World} {K : PySem.W.Frag} {mg : Str → Option Value} {base : Heap} {CX : CXT} {j k : Nat} {f : Addr} {fd : FuncData} {ps : List Str} {sp : Sp} (F : FnOk P w K mg base CX j f fd ps sp) (h : j ≤ k) :
    FnOk P w K mg base CX k f fd ps sp := ⟨F.len, fun A outer s H args us vs Q E hr => F.run A outer s H args us vs Q E (hr.mono h)⟩
theorem Env0.in1 {P : Program} {w : World} {K : PySem.W.Frag} {mg : Str → Option Value} {base : Heap} {A : Around} {outer : List Env} {s : Shared} {H : Hp} (e : Env0 P w K mg base A outer s H) :
    Env0 P w K mg base A.in1 outer s H := ⟨e.frames, e.mod, e.bs, e.bsz, e.funs, e.frf, e.hok, e.bare⟩

section
variable {X : Cx} {pins : List (Addr × Obj)} {σ : St} {H : Hp} {s s' : Shared}
/-- from a body: what a callee wants -/
theorem Inv.env0 (I : Inv X pins σ H s) : Env0 X.prog X.w X.K X.mg X.base X.A X.stack s H :=
  ⟨I.ok.frames, I.ok.mod, I.bs, Nat.le_trans I.ok.bsz I.sz, I.stack, I.stkFree, I.hok, I.bare⟩
/-- behind a call -/
theorem Inv.after {Q : VK} {u : Value} (I : Inv X pins σ H s) (h : CE X.stack X.prog X.w H s Q u s') : EP X pins σ Q u s' := by
  obtain ⟨v, H', os, bare, un, hok, r, q⟩ := h
  obtain ⟨hh, g, d, t, os'⟩ := s'
  obtain rfl : os' = s.os := os
  exact ⟨v, H', I.call (h' := hh) (g' := g) (d' := d) (t' := t) (ch := []) un hok bare (fun b z => absurd z (by simp)), r, q⟩
end

/-! ### calls -/
/-- f(..): the written arguments, then the defaults dvs; E: what is wanted of an exception -/
def tCall (sp : Sp) (dvs : List V) (E : XK) (t : TA) : TE := fun σ H Q => t σ H fun vs H1 => sp (vs ++ dvs) H1 Q E
/-- how the parameters are bound: us the positional arguments, kw the keywords' values by name, ds the defaults that fill up -/
def Binds (K : PySem.W.Frag) (fd : FuncData) (ps : List Str) (ds : List Value) : Prop :=
  ∀ (s : Shared) (us : List Value), K.In s.heap → (us ++ ds).length = ps.length → BindsTo s fd ⟨us, []⟩ (ps.zip (us ++ ds))
/-- every parameter is given -/
theorem Binds.all {K : PySem.W.Frag} {fd : FuncData} {ps : List Str} (h : ∀ us : List Value, us.length = ps.length → bindArgs fd ⟨us, []⟩ = pure (ps.zip us)) : Binds K fd ps [] := fun s us _ hl => by
  rw [List.append_nil] at hl ⊢
  exact .of_eq (h us hl)

/-- an exception of a callee reaches what this body wants of exceptions -/
def Passes (CX : CXT) (X : Cx) (E : XK) : Prop := ∀ (pins : List (Addr × Obj)) (σ : St) (H : Hp) (s : Shared) (e : Value) (s' : Shared), Inv X pins σ H s → CX X.stack H s E e s' → X.xe e s'

section
variable {X : Cx} {CX : CXT} {k : Nat} {f C : Addr} {fd : FuncData} {ps : List Str} {sp : Sp} {dvs : List V} {ds : List Value} {E : XK} {x m : Str} {p pos apos : Pos} {e o : Expr} {es : List Expr} {ta : TE} {t : TA}

/-- the callee runs -/
theorem run_fn {pins : List (Addr × Obj)} {σ : St} {H : Hp} {s : Shared} {Q : VK} {us : List Value} {vs : List V} (F : FnOk X.prog X.w X.K X.mg X.base CX k f fd ps sp) (hr : Room k X.A) (hb : Binds X.K fd ps ds) (hd : Vals dvs ds) (hx : Passes CX X E)
    (I : Inv X pins σ H s) (r : Vals vs us) (h : sp (vs ++ dvs) H Q E) : wpAny (model X.prog X.w) X.A (call (.ref f) us) (EP X pins σ Q) X.xe s := by
  have r2 : Vals (vs ++ dvs) (us ++ ds) := r.append hd
  have hl : (us ++ ds).length = ps.length := by rw [← r2.length]; exact F.len _ _ _ _ h
  refine wpAny_call (codeAny_mono (F.run X.A X.stack s H ⟨us, []⟩ (us ++ ds) (vs ++ dvs) Q E hr I.env0 (hb s us I.kIn hl) r2 h) fun r s' hq => ?_)
  cases r with
  | error e => exact hx pins σ H s e s' I hq
  | ok fl =>
    cases fl with
    | ret u => exact I.after hq
    | next => exact False.elim hq
    | brk => exact False.elim hq
    | cont => exact False.elim hq

theorem pe_call (F : FnOk X.prog X.w X.K X.mg X.base CX k f fd ps sp) (hr : Room k X.A) (hg : Gl X x) (hm : X.mg x = some (.ref f)) (hk : PySem.W.keepIn X.K (.ref f) = true) (hb : Binds X.K fd ps ds) (hd : Vals dvs ds) (hx : Passes CX X E)
    (ha : PA X (e :: es) t) (hdb : (x == ("__debug__" : Str)) = false := by decide) (he : starEach (e :: es) X.env = (false, eval e X.env) :: starEach es X.env := by rfl) (hpl : (backTo pos (starEach es X.env)).any (·.1) = false := by rfl) :
    PE X (.Call (.Name x p) (e :: es) [] pos) (tCall sp dvs E t) := by
  intro pins s σ H Q I h
  refine wpAny_Call_Name_kw (ld_glob I hg hm ?_ hdb)
  refine PySem.W.callWith_K (h₀ := X.base) I.ok.mod.kin hk (thn (ha pos pins s σ H _ I h) fun us s1 ⟨vs, H1, I1, r, q⟩ => ⟨I1.kIn, ?_⟩) he hpl
  exact run_fn F hr hb hd hx I1 r q
end

/-! ### keywords -/
section
variable {X : Cx} {CX : CXT} {k : Nat} {f C : Addr} {fd : FuncData} {ps ks : List Str} {sp : Sp} {E : XK} {x m : Str} {p pos apos kpos : Pos} {e o : Expr} {es : List Expr} {kws : List Keyword} {te ta : TE} {t tk : TA} {nm : Option Str}
variable {g : List Value → List Value → List Value} {gV : List V → List V → List V}
end

/-! ### a def's body keeps its promise -/
/-- names: the parameters first -/
structure FnScope (N P : List Str) (sc : Scope) : Prop where
  kind : sc.kind = .function
  co : sc.isCoroutine = false
  gen : sc.isGenerator = false
  nd : N.Nodup
  pre : N.take P.length = P
  par : ∀ x ∈ P, sc.names.lookup x = some .local ∨ sc.names.lookup x = some .cell
  nofree : ∀ y ∈ sc.names, y.2 ≠ .free

theorem bindL_out {kindOf : Str → Option NameKind} {x : Str} : ∀ {binds : List (Str × Value)} {m : Str → Option Value}, (∀ v, (x, v) ∉ binds) → bindL kindOf binds m x = m x
  | [], _, _ => rfl
  | (n, v) :: r, m, h => by
    unfold bindL
    rw [bindL_out fun w hw => h w (List.mem_cons_of_mem _ hw)]
    split
    · have : x ≠ n := by rintro rfl; exact h v List.mem_cons_self
      simp [this]
    · rfl
theorem bindC_out {kindOf : Str → Option NameKind} {x : Str} : ∀ {binds : List (Str × Value)} {m : Str → Option Value}, (∀ v, (x, v) ∉ binds) → bindC kindOf binds m x = m x
  | [], _, _ => rfl
  | (n, v) :: r, m, h => by
    unfold bindC
    rw [bindC_out fun w hw => h w (List.mem_cons_of_mem _ hw)]
    split
    · rfl
    · have : x ≠ n := by rintro rfl; exact h v List.mem_cons_self
      simp [this]
theorem bindL_get {kindOf : Str → Option NameKind} {x : Str} {v : Value} : ∀ {P : List Str} {vs : List Value} {i : Nat} {m : Str → Option Value}, P.Nodup → P[i]? = some x → vs[i]? = some v → kindOf x = some .local →
    bindL kindOf (P.zip vs) m x = some v
  | [], _, _, _, _, h, _, _ => by simp at h
  | _ :: _, [], _, _, _, _, h, _ => by simp at h
  | p :: P, w :: vs, 0, m, nd, h1, h2, hk => by
    simp at h1 h2; subst h1; subst h2
    show bindL kindOf ((p, w) :: P.zip vs) m p = _
    unfold bindL
    rw [bindL_out fun v hv => (List.nodup_cons.mp nd).1 (List.of_mem_zip hv).1, if_pos hk]
    simp
  | p :: P, w :: vs, i + 1, m, nd, h1, h2, hk => by
    show bindL kindOf ((p, w) :: P.zip vs) m x = _
    unfold bindL
    exact bindL_get (i := i) (List.nodup_cons.mp nd).2 (by simpa using h1) (by simpa using h2) hk
theorem bindC_get {kindOf : Str → Option NameKind} {x : Str} {v : Value} : ∀ {P : List Str} {vs : List Value} {i : Nat} {m : Str → Option Value}, P.Nodup → P[i]? = some x → vs[i]? = some v → kindOf x ≠ some .local →
    bindC kindOf (P.zip vs) m x = some v
  | [], _, _, _, _, h, _, _ => by simp at h
  | _ :: _, [], _, _, _, _, h, _ => by simp at h
  | p :: P, w :: vs, 0, m, nd, h1, h2, hk => by
    simp at h1 h2; subst h1; subst h2
    show bindC kindOf ((p, w) :: P.zip vs) m p = _
    unfold bindC
    rw [bindC_out fun v hv => (List.nodup_cons.mp nd).1 (List.of_mem_zip hv).1, if_neg hk]
    simp
  | p :: P, w :: vs, i + 1, m, nd, h1, h2, hk => by
    show bindC kindOf ((p, w) :: P.zip vs) m x = _
    unfold bindC
    exact bindC_get (i := i) (List.nodup_cons.mp nd).2 (by simpa using h1) (by simpa using h2) hk

/-- the names' values at the entry -/
def start (N : List Str) (vs : List V) : St := vs.map some ++ List.replicate (N.length - vs.length) none

/-- the context of a def's body, at its entry; an exception leaves the frame, then lies as CX says -/
def cxOf (CX : CXT) (P : Program) (w : World) (K : PySem.W.Frag) (mg : Str → Option Value) (base : Heap) (N : List Str) (qual : Str) (scope : Scope) (f : Addr) (cd : Value) (A : Around) (outer : List Env) (s : Shared) (H : Hp) (E : XK) : Cx where
  prog := P
  w := w
  K := K
  mg := mg
  base := base
  A := A.deeper (envOfC qual scope s.heap.objs.size f cd)
  N := N
  s₀ := s
  H₀ := H
  env := envOfC qual scope s.heap.objs.size f cd
  outer := outer
  stack := envOfC qual scope s.heap.objs.size f cd :: outer
  ex := []
  calm := true
  fn := fun _ => true
  pn := []
  xe := fun e s' => wpAny (model P w) (A.deeper (envOfC qual scope s.heap.objs.size f cd)) (leaving (envOfC qual scope s.heap.objs.size f cd) e) (fun _ s'' => CX outer H s E e s'') (fun e' s'' => CX outer H s E e' s'') s'

theorem cell_has {sc : Scope} {n : Nat} {x : Str} (h : sc.names.lookup x = some .cell) : ∃ c, (cellsFrom n sc.names []).lookup x = some c := by
  have q := PySem.W.cellsFrom_some sc.names n [] (.inl h)
  exact Option.isSome_iff_exists.mp q

theorem inv_start {CX : CXT} {P : Program} {w : World} {K : PySem.W.Frag} {mg : Str → Option Value} {base : Heap} {N ps : List Str} {qual : Str} {scope : Scope} {f : Addr} {cd : Value} {A : Around} {outer : List Env} {s s1 : Shared} {H : Hp} {E : XK} {us : List Value} {vs : List V}
    (S : FnScope N ps scope) (hd : A.handled = none) (e0 : Env0 P w K mg base A outer s H) (hl : vs.length = ps.length) (r : Vals vs us)
    (x : InCallC s s.heap.objs.size (bindL (envOfC qual scope s.heap.objs.size f cd).kindOf (ps.zip us) fun _ => none) (cellsFrom (s.heap.objs.size + 1) scope.names []) (bindC (envOfC qual scope s.heap.objs.size f cd).kindOf (ps.zip us) fun _ => none) s1) :
    Inv (cxOf CX P w K mg base N qual scope f cd A outer s H E) [] (start N vs) H s1 := by
  have hpl : ps.length ≤ N.length := by have := congrArg List.length S.pre; rw [List.length_take] at this; omega
  obtain ⟨h1, tk, rfl, hk⟩ := x.done
  have noA : ∀ b : Addr, b ∉ (cxOf CX P w K mg base N qual scope f cd A outer s H E).ex := fun b z => absurd (show b ∈ ([] : List Addr) from z) (by simp)
  refine ⟨⟨e0.mod, S.kind, rfl, rfl, Nat.le_refl _, fun y z c h1 h2 => ?_, fun y hy => ?_, fun y c _ h => ?_, fun _ => hd, Around.frames_deeper e0.frames, .inr ⟨rfl, rfl⟩, fun b z => absurd z (noA b), e0.bs, e0.bsz, fun b _ _ => noA b, fun b z => absurd z (noA b), e0.funs, e0.frf⟩,
    rfl, e0.bare, Un.kept hk, ⟨_, x.toInCall.ns, fun i y v h1 h2 h3 => ?_⟩, fun y c h => ⟨_, x.cell y c h⟩, e0.hok.fresh (Nat.le_refl _), fun y c h => ?_, fun p hp => absurd (show p ∈ ([] : List (Addr × Obj)) from hp) (by simp), e0.hok.kept hk, ?_⟩
  · exact name_of_addr x.apart (PySem.mem_of_lookup h1) (PySem.mem_of_lookup h2)
  · have hy : scope.names.lookup y = some .cell ∨ scope.names.lookup y = some .free := hy
    rcases hy with hy | hy
    · exact cell_has hy
    · exact absurd rfl (S.nofree _ (PySem.mem_of_lookup hy))
  · exact Nat.le_of_lt (x.above y c (PySem.mem_of_lookup h))
  · have hi : i < vs.length := by
      unfold start at h2
      by_cases hi : i < vs.length
      · exact hi
      · rw [List.getElem?_append_right (by simpa using hi)] at h2
        rw [List.getElem?_replicate] at h2
        split at h2 <;> cases h2
    have ha : vs[i]? = some v := by
      unfold start at h2
      rw [List.getElem?_append_left (by simpa using hi), List.getElem?_map] at h2
      cases e : vs[i]? with
      | none => rw [e] at h2; cases h2
      | some a => rw [e] at h2; cases h2; rfl
    obtain ⟨u, hu, rv⟩ := r.get ha
    have hp : ps[i]? = some y := by
      rw [← S.pre, List.getElem?_take_of_lt (by omega)]; exact h1
    have ndP : ps.Nodup := by rw [← S.pre]; exact S.nd.sublist (List.take_sublist _ _)
    refine ⟨u, rv, ?_⟩
    rcases S.par y (List.mem_of_getElem? hp) with k | k
    · exact .inl ⟨k, bindL_get ndP hp hu k⟩
    · obtain ⟨c, e⟩ := cell_has (n := s.heap.objs.size + 1) k
      refine .inr ⟨.inl k, c, e, ?_⟩
      have q := x.cell y c e
      rw [bindC_get ndP hp hu (by show scope.names.lookup y ≠ _; rw [k]; decide)] at q
      exact q
  · exact e0.hok.fresh (Nat.le_of_lt (x.above y c (PySem.mem_of_lookup h)))
  · unfold start
    show _ = N.length
    rw [List.length_append, List.length_map, List.length_replicate]
    omega

/-- THE RULE: a def (or a method) of the text, by its body. The body's reading t is chosen for each entry; it is run at the parameters' values -/
theorem fn_of {CX : CXT} {P : Program} {w : World} {K : PySem.W.Frag} {mg : Str → Option Value} {base : Heap} {k : Nat} {f : Addr} {name qual : Str} {params : Arguments} {body : List Stmt} {scope : Scope} {dV kV doc pm cdv ct oc : Value} {an od : Option Addr}
    {osl : Array (Option Value)} {N ps : List Str} {sp : Sp} (lk : K.lookup f = some ⟨oc, od, .func (PySem.W.fnOf name qual params body scope dV kV doc pm an cdv ct), osl⟩) (hcd : PySem.W.codeIn K cdv qual = true) (S : FnScope N ps scope)
    (len : ∀ vs H Q E, sp vs H Q E → vs.length = ps.length)
    (hbody : ∀ (A : Around) (outer : List Env) (s : Shared) (H : Hp) (vs : List V) (Q : VK) (E : XK), Room k (A.deeper (envOfC qual scope s.heap.objs.size f cdv)) → sp vs H Q E →
      ∃ t, PSs (cxOf CX P w K mg base N qual scope f cdv A outer s H E) body t ∧ t { nx := fun _ H' => Q .non H', rt := Q } (start N vs) H) :
    FnOk P w K mg base CX (k + 1) f (PySem.W.fnOf name qual params body scope dV kV doc pm an cdv ct) ps sp := by
  refine ⟨len, fun A outer s H args us vs Q E hr e0 hb r hsp => ?_⟩
  have hl := len _ _ _ _ hsp
  have KX : K.In s.heap := e0.mod.kin.keeps fun b o e => (e0.bs b o e).1
  have lim : s.heap.NoLimit := e0.mod.nolimit.keeps fun b o e => (e0.bs b o e).1
  have hkind : ∀ y ∈ ps.zip us, scope.names.lookup y.1 = some .local ∨ (scope.names.lookup y.1 = some .cell ∧ ((cellsFrom (s.heap.objs.size + 1) scope.names []).lookup y.1).isSome = true) := fun ⟨n, v⟩ hy => by
    rcases S.par n (List.of_mem_zip hy).1 with q | q
    · exact .inl q
    · exact .inr ⟨q, PySem.W.cellsFrom_some _ _ _ (.inl q)⟩
  refine codeAny_call_function hr.depth (KX _ _ lk) rfl S.co S.gen rfl (PySem.W.codeRec_of KX hcd) (hb _ _ _ _ ?_)
  refine wpAny_newFunctionEnv_cells S.kind hkind fun env he s1 x => ?_
  subst he
  refine ⟨lim.keeps x.toInCall.keep, codeAny_func ?_⟩
  obtain ⟨t, ht, hq⟩ := hbody A outer s H vs Q E (hr.deeper _) hsp
  have I : Inv (cxOf CX P w K mg base N qual scope f cdv A outer s H E) [] (start N vs) H s1 := inv_start S hr.hd e0 hl r x
  refine wpAny_mono (ht [] s1 (start N vs) H _ I hq) (fun fl s' hs => ?_) fun e s' hs => hs
  have fin : ∀ {σ' : St} {H' : Hp} {v : V} {u : Value}, Inv (cxOf CX P w K mg base N qual scope f cdv A outer s H E) [] σ' H' s' → RelV v u → Q v H' → CE outer P w H s Q u s' :=
    fun {σ' H' v u} J rv q => ⟨v, H', J.os, J.bare, J.base, J.hok, rv, q⟩
  cases fl with
  | ret u =>
    obtain ⟨v, σ', H', J, rv, q⟩ := hs
    exact fin J rv q
  | next =>
    obtain ⟨σ', H', J, q⟩ := hs
    exact fin (v := V.non) (u := Value.none) J rfl q
  | brk =>
    obtain ⟨_, _, _, q⟩ := hs
    exact False.elim q
  | cont =>
    obtain ⟨_, _, _, q⟩ := hs
    exact False.elim q
end L2

namespace L2
open PySem PySem.Spec PyProof.Rows
section
variable {X : Cx} {x : Str} {p pos : Pos} {e : Expr} {es : List Expr} {t : TA} {id T : String} {r : List V → Hp → VK → Prop}

def tCB (r : List V → Hp → VK → Prop) (t : TA) : TE := fun σ H Q => t σ H fun vs H1 => r vs H1 Q
/-- f(e, ..), f a built-in function -/
theorem pe_callB (hc : CallR X (.builtin id) r) (hg : Gl X x) (hm : X.mg x = none) (hv : bootBuiltins x = some (.builtin id)) (ha : PA X (e :: es) t) (hn : x ≠ "__name__" := by decide) (hdb : (x == ("__debug__" : Str)) = false := by decide)
    (he : starEach (e :: es) X.env = (false, eval e X.env) :: starEach es X.env := by rfl) (hpl : (backTo pos (starEach es X.env)).any (·.1) = false := by rfl) : PE X (.Call (.Name x p) (e :: es) [] pos) (tCB r t) := by
  intro pins s σ H Q I h
  refine wpAny_Call_Name_kw (ld_blt I hg hm hv ?_ hn hdb)
  exact PyProof.Rows.callWith_builtin1 (thn (ha pos pins s σ H _ I h) fun us s1 ⟨vs, H1, I1, r1, q1⟩ => hc pins s1 σ H1 vs us Q I1 r1 q1) he hpl
/-- T(e, ..), T a built-in type -/
theorem pe_callTy (hc : CallR X (.type T) r) (hg : Gl X x) (hm : X.mg x = none) (hv : bootBuiltins x = some (.type T)) (ha : PA X (e :: es) t) (hn : x ≠ "__name__" := by decide) (hdb : (x == ("__debug__" : Str)) = false := by decide)
    (he : starEach (e :: es) X.env = (false, eval e X.env) :: starEach es X.env := by rfl) (hpl : (backTo pos (starEach es X.env)).any (·.1) = false := by rfl) : PE X (.Call (.Name x p) (e :: es) [] pos) (tCB r t) := by
  intro pins s σ H Q I h
  refine wpAny_Call_Name_kw (ld_blt I hg hm hv ?_ hn hdb)
  exact PyProof.Rows.callWith_type1 (thn (ha pos pins s σ H _ I h) fun us s1 ⟨vs, H1, I1, r1, q1⟩ => hc pins s1 σ H1 vs us Q I1 r1 q1) he hpl
end
end L2

namespace HT
open PySem PyProof.Rows

section
open PySem.SeqAt
open PySem.AutoSeq1 (wpAny_loadPart')
open PySem.MeetsSeq PySem.MeetsSeq2 PySem.MeetsSeq3

end

section
variable {prog : Program} {w : World} {A : Around} {E : Value → Shared → Prop} {s : Shared}

/-! ### t[a:b], not the whole -/
/-- a slice's bound as a place among n (d where it is left out) -/
def sIx (n d : Nat) : Option Int → Nat
  | none => d
  | some v => if v < 0 then (v + (n : Int)).toNat else min v.toNat n
theorem sIx_none (n d : Nat) : sIx n d none = d := rfl
theorem sIx_nat (n d k : Nat) : sIx n d (some (k : Int)) = min k n := by
  show (if (k : Int) < 0 then ((k : Int) + (n : Int)).toNat else min (k : Int).toNat n) = min k n
  rw [if_neg (by omega), Int.toNat_natCast]
end
end HT

namespace L2
open PySem PySem.Spec PyProof.Rows

/-! ### the parts of a slice -/
abbrev TO := St → Hp → (Option Int → Hp → Prop) → Prop
/-- a slice's part (left out, or an int) -/
def PO (X : Cx) (e : Option Expr) (t : TO) : Prop :=
  ∀ (pins : List (Addr × Obj)) (s : Shared) (σ : St) (H : Hp) (Q : Option Int → Hp → Prop), Inv X pins σ H s → t σ H Q →
    wpAny (model X.prog X.w) X.A (evalPart e X.env) (fun u s' => ∃ o H', Inv X pins σ H' s' ∧ IsPart u o ∧ Q o H') X.xe s
def tNoPart : TO := fun _ H Q => Q none H
def tPart (t : TE) : TO := fun σ H Q => t σ H fun x H1 => ∃ i, x = .int i ∧ Q (some i) H1

theorem intsAre_of {ns : List Int} : ∀ {us : List Value}, Vals (ns.map V.int) us → IntsAre us ns := by
  induction ns with
  | nil => intro us r; rw [List.map_nil] at r; cases r; exact .nil
  | cons n ns ih =>
    intro us r
    rw [List.map_cons] at r
    cases r with
    | cons r1 r2 =>
      obtain ⟨t, e⟩ := r1
      subst e
      exact .cons n t (ih r2)

section
variable {X : Cx} {e : Expr} {te : TE} {lo hi : Option Expr} {tl th : TO} {pos p2 : Pos}

theorem po_none : PO X none tNoPart := by
  intro pins s σ H Q I h
  rw [evalPart_none]
  exact wpAny_pure ⟨none, H, I, .none, h⟩
theorem po_some (h : PE X e te) : PO X (some e) (tPart te) := by
  intro pins s σ H Q I hw
  rw [evalPart_some]
  refine thn (h pins s σ H _ I hw) fun u s1 ⟨x, H1, I1, r1, q1⟩ => ?_
  obtain ⟨i, rfl, q⟩ := q1
  obtain ⟨t, rfl⟩ := r1
  exact ⟨some i, H1, I1, .int i t, q⟩

/-- what a slice of a value is, by values: the slice object stands at sl -/
def SlR (X : Cx) (r : V → Option Int → Option Int → Hp → VK → Prop) : Prop :=
  ∀ (pins : List (Addr × Obj)) (s : Shared) (σ : St) (H : Hp) (x : V) (v vl vu : Value) (lo hi : Option Int) (sl : Addr) (Q : VK), Inv X pins σ H s → RelV x v → s.heap.IsSliceOf sl vl vu .none → IsPart vl lo → IsPart vu hi → r x lo hi H Q →
    ∃ T id, typeLookup (.type T) "__getitem__" = pure (some (.builtin id)) ∧ s.TypeIs v T ∧ wpAny (model X.prog X.w) X.A (getItem v (.ref sl)) (EP X pins σ Q) X.xe s
theorem SlR.or {r r' : V → Option Int → Option Int → Hp → VK → Prop} (h : SlR X r) (h' : SlR X r') : SlR X (fun x lo hi H Q => r x lo hi H Q ∨ r' x lo hi H Q) := by
  intro pins s σ H x v vl vu lo hi sl Q I rx hs pl pu q
  rcases q with q | q
  · exact h pins s σ H x v vl vu lo hi sl Q I rx hs pl pu q
  · exact h' pins s σ H x v vl vu lo hi sl Q I rx hs pl pu q
def tSl (r : V → Option Int → Option Int → Hp → VK → Prop) (te : TE) (tl th : TO) : TE := fun σ H Q => te σ H fun x H1 => tl σ H1 fun l H2 => th σ H2 fun u H3 => r x l u H3 Q
/-- a[lo:hi], any a -/
theorem pe_slice {r : V → Option Int → Option Int → Hp → VK → Prop} (hr : SlR X r) (he : PE X e te) (hl : PO X lo tl) (hu : PO X hi th) : PE X (.Subscript e (.Slice lo hi none p2) pos) (tSl r te tl th) := by
  intro pins s σ H Q I h
  refine Subscript_ (thn (he pins s σ H _ I h) fun v s1 ⟨x, H1, I1, r1, q1⟩ => ?_)
  refine wpAny_Slice (thn (hl pins s1 σ H1 _ I1 q1) fun vl s2 ⟨l, H2, I2, pl, q2⟩ => thn (hu pins s2 σ H2 _ I2 q2) fun vu s3 ⟨u, H3, I3, pu, q3⟩ => ?_)
  rw [evalPart_none]
  refine wpAny_pure ?_
  have I4 : Inv X pins σ H3 { s3 with heap := s3.heap.push { cls := .type "slice", data := .fields #[vl, vu, .none] } } := I3.kept (t' := s3.toks) fun b ob q => Heap.get?_push_of_some _ q
  obtain ⟨T, id, hT, ht, hg⟩ := hr pins { s3 with heap := s3.heap.push { cls := .type "slice", data := .fields #[vl, vu, .none] } } σ H3 x v vl vu l u s3.heap.objs.size Q I4 r1 (Heap.IsSliceOf.new ..) pl pu q3
  show wpAny (model X.prog X.w) X.A (subscriptTail e (.Slice lo hi none p2) v (.ref s3.heap.objs.size)) (EP X pins σ Q) X.xe { s3 with heap := s3.heap.push { cls := .type "slice", data := .fields #[vl, vu, .none] } }
  exact tail_any (ops := [.ref s3.heap.objs.size, v]) ht hT hg (by with_unfolding_all rfl)

/-- the items of xs[lo:hi] -/
def cutV (xs : List V) (lo hi : Option Int) : List V := (xs.drop (HT.sIx xs.length 0 lo)).take (HT.sIx xs.length xs.length hi - HT.sIx xs.length 0 lo)
theorem cutV_length (xs : List V) (lo hi : Option Int) : (cutV xs lo hi).length ≤ xs.length := by
  unfold cutV
  rw [List.length_take, List.length_drop]
  omega
/-- t[lo:hi], not the whole of it (the whole would be t itself) -/
def rSlT (K : PySem.W.Frag) : V → Option Int → Option Int → Hp → VK → Prop := fun x lo hi H Q => ∃ a xs, x = .ref a ∧ SqT K H a xs ∧
  ¬ (HT.sIx xs.length 0 lo = 0 ∧ HT.sIx xs.length xs.length hi = xs.length) ∧ ∀ p, H p = none → Q (.ref p) (upd H p (.tup (cutV xs lo hi)))
/-! ### t < u, t + u -/
end
end L2

namespace L2
open PySem PySem.Spec PyProof.Rows

/-! ### places -/
/-- the place that an index of any sign means -/
def ixN (n : Nat) (i : Int) : Option Nat := if 0 ≤ i then (if i < n then some i.toNat else none) else if -(n : Int) ≤ i then some (i + n).toNat else none
def atI {α : Type} (xs : List α) (i : Int) : Option α := (ixN xs.length i).bind fun j => xs[j]?
theorem ixN_seq {n : Nat} {i : Int} {j : Nat} (h : ixN n i = some j) : seqIndex? i n = some j ∧ j < n ∧ -(n : Int) ≤ i ∧ i < n := by
  unfold ixN at h
  by_cases h0 : 0 ≤ i
  · rw [if_pos h0] at h
    by_cases h1 : i < n
    · rw [if_pos h1] at h
      have e : i.toNat = j := Option.some.inj h
      exact ⟨by rw [seqIndex_of h0 h1, e], by omega, by omega, h1⟩
    · rw [if_neg h1] at h; cases h
  · rw [if_neg h0] at h
    by_cases h1 : -(n : Int) ≤ i
    · rw [if_pos h1] at h
      have e : (i + n).toNat = j := Option.some.inj h
      exact ⟨by rw [seqIndex_neg (by omega) h1, e], by omega, h1, by omega⟩
    · rw [if_neg h1] at h; cases h
theorem atI_get {α : Type} {xs : List α} {i : Int} {v : α} (h : atI xs i = some v) : ∃ j, seqIndex? i xs.length = some j ∧ xs[j]? = some v ∧ j < xs.length ∧ -(xs.length : Int) ≤ i ∧ i < xs.length := by
  unfold atI at h
  cases e : ixN xs.length i with
  | none => rw [e] at h; cases h
  | some j =>
    rw [e] at h
    obtain ⟨h1, h2, h3, h4⟩ := ixN_seq e
    exact ⟨j, h1, h, h2, h3, h4⟩
theorem atI_nat {α : Type} {xs : List α} {j : Nat} {v : α} (h : xs[j]? = some v) : atI xs (j : Int) = some v := by
  have hj : j < xs.length := (List.getElem?_eq_some_iff.mp h).1
  have e : ixN xs.length (j : Int) = some j := by
    unfold ixN
    rw [if_pos (by omega), if_pos (by omega)]; simp
  unfold atI; rw [e]; exact h
/-! ### what may be subscripted -/
/-- what stands as an index of a plain subscript -/
def PlainIx (b : Expr) : Prop := ∀ o i, subscripted b false o i = operate [o, i] (getItem o i)
/-- a subscript by values -/
def IxR (X : Cx) (r : R2) : Prop :=
  ∀ (value slice : Expr) (pins : List (Addr × Obj)) (s : Shared) (σ : St) (H : Hp) (x y : V) (v u : Value) (Q : VK), Inv X pins σ H s → RelV x v → RelV y u → r x y H Q →
    subscripted slice false v u = operate [v, u] (getItem v u) → wpAny (model X.prog X.w) X.A (subscriptTail value slice v u) (EP X pins σ Q) X.xe s
/-- a call of a builtin's method by values: the receiver, the arguments -/
def MtR (X : Cx) (id : String) (r : V → List V → Hp → VK → Prop) : Prop :=
  ∀ (pins : List (Addr × Obj)) (s : Shared) (σ : St) (H : Hp) (x : V) (xs : List V) (v : Value) (us : List Value) (Q : VK), Inv X pins σ H s → RelV x v → Vals xs us → r x xs H Q →
    wpAny (model X.prog X.w) X.A (call (.builtin id) (v :: us)) (EP X pins σ Q) X.xe s
section
variable {X : Cx} {a b : Expr} {ta tb : TE} {pos : Pos}
theorem IxR.or {r r' : R2} (h : IxR X r) (h' : IxR X r') : IxR X (fun x y H Q => r x y H Q ∨ r' x y H Q) := by
  intro value slice pins s σ H x y v u Q I rx ry q hs
  rcases q with q | q
  · exact h value slice pins s σ H x y v u Q I rx ry q hs
  · exact h' value slice pins s σ H x y v u Q I rx ry q hs
theorem MtR.or {id : String} {r r' : V → List V → Hp → VK → Prop} (h : MtR X id r) (h' : MtR X id r') : MtR X id (fun x xs H Q => r x xs H Q ∨ r' x xs H Q) := by
  intro pins s σ H x xs v us Q I rx rs q
  rcases q with q | q
  · exact h pins s σ H x xs v us Q I rx rs q
  · exact h' pins s σ H x xs v us Q I rx rs q
/-- a[b] -/
theorem pe_ix {r : R2} (hr : IxR X r) (ha : PE X a ta) (hb : PE X b tb) (hs : PlainIx b) : PE X (.Subscript a b pos) (tOp r ta tb) := by
  intro pins s σ H Q I h
  exact Subscript_ (binT ha hb I h fun v u s2 x y H2 I2 rx ry q => hr a b pins s2 σ H2 x y v u Q I2 rx ry q (hs _ _))

def rIxL (K : PySem.W.Frag) : R2 := fun x y H Q => ∃ p xs i v, x = .ref p ∧ y = .int i ∧ SqL K H p xs ∧ atI xs i = some v ∧ Q v H
def rIxT (K : PySem.W.Frag) : R2 := fun x y H Q => ∃ p xs i v, x = .ref p ∧ y = .int i ∧ SqT K H p xs ∧ atI xs i = some v ∧ Q v H
def rIxS : R2 := fun x y H Q => ∃ z i c, x = .str z ∧ y = .int i ∧ z.length ≤ sizeLine ∧ atI z.cps.toList i = some c ∧ Q (.str ⟨#[c]⟩) H
theorem ix_list : IxR X (rIxL X.K) := by
  intro value slice pins s σ H x y v u Q I rx ry h hs
  obtain ⟨p, xs, i, z, rfl, rfl, hq, he, q⟩ := h
  cases rx
  obtain ⟨t, rfl⟩ := ry
  obtain ⟨its, r, pl, hz⟩ := I.list hq
  obtain ⟨j, h1, h2, h3, h4, h5⟩ := atI_get he
  obtain ⟨w, ew, rw'⟩ := r.get h2
  have hl := r.length
  have hn := line63
  have fin : EP X pins σ Q w s := ⟨z, H, I, rw', q⟩
  by_cases h0 : 0 ≤ i
  · have hj : i.toNat = j := by
      rw [seqIndex_of h0 h5] at h1
      exact Option.some.inj h1
    exact item_listR pl.isList h0 (by omega) (by rw [hj]; simpa using ew) fin hs
  · have hj : (i + (its.toArray.size : Int)).toNat = j := by
      rw [seqIndex_neg (by omega) h4] at h1
      rw [List.size_toArray, ← hl]
      exact Option.some.inj h1
    exact subscriptTail_builtinR (x := w) pl.isList.typeIs slot_list_getitem.lookup
      (wpAny_getItem_list_neg (Q := fun r s' => r = w ∧ EP X pins σ Q r s') pl.isList (by omega) (by rw [List.size_toArray] <;> omega) (by omega) (by rw [hj]; simpa using ew) ⟨rfl, fin⟩) hs
theorem ix_tup : IxR X (rIxT X.K) := by
  intro value slice pins s σ H x y v u Q I rx ry h hs
  obtain ⟨p, xs, i, z, rfl, rfl, hq, he, q⟩ := h
  cases rx
  obtain ⟨t, rfl⟩ := ry
  obtain ⟨its, r, pl, hz⟩ := I.tuple hq
  obtain ⟨j, h1, h2, h3, h4, h5⟩ := atI_get he
  obtain ⟨w, ew, rw'⟩ := r.get h2
  have hl := r.length
  have hn := line63
  have fin : EP X pins σ Q w s := ⟨z, H, I, rw', q⟩
  exact subscriptTail_builtinR (x := w) pl.typeIs slot_tuple_getitem.lookup
    (getItem_tuple (j := j) (Q := fun r s' => r = w ∧ EP X pins σ Q r s') pl (by omega) (by omega) (by rw [List.size_toArray, ← hl]; exact h1) (by simpa using ew) ⟨rfl, fin⟩) hs
/-! ### xs[i] = v, any sign -/
/-- the list's object behind a store -/
theorem mapSeq_set (its : List Value) (n j : Nat) (u : Value) : Obj.mapSeq (·.setIfInBounds j u) { cls := .type "list", data := .seq its.toArray n } = { cls := .type "list", data := .seq (its.set j u).toArray n } := by
  simp [Obj.mapSeq]
theorem Inv.lst {pins : List (Addr × Obj)} {σ : St} {H : Hp} {s : Shared} {p : Addr} {xs : List V} (I : Inv X pins σ H s) (h : H p = some (.lst xs)) :
    ∃ (its : List Value) (n : Nat), Vals xs its ∧ s.heap.get? p = some { cls := .type "list", data := .seq its.toArray n } ∧ xs.length ≤ sizeLine := by
  obtain ⟨z, its, n, r, e⟩ := I.hok p _ h
  exact ⟨its, n, r, e, z⟩
/-- the list at p is written by an update of its object -/
theorem Inv.lstUpd {pins : List (Addr × Obj)} {σ : St} {H : Hp} {s : Shared} {p : Addr} {xs ys : List V} {its its' : List Value} {n n' : Nat} {f : Obj → Obj} (I : Inv X pins σ H s) (h : H p = some (.lst xs))
    (ho : s.heap.get? p = some { cls := .type "list", data := .seq its.toArray n }) (hf : f { cls := .type "list", data := .seq its.toArray n } = { cls := .type "list", data := .seq its'.toArray n' }) (r : Vals ys its') (hz : ys.length ≤ sizeLine) (t : Nat) :
    Inv X pins σ (upd H p (.lst ys)) { s with heap := s.heap.update p f, toks := t } := by
  have e : (s.heap.update p f).get? p = some { cls := .type "list", data := .seq its'.toArray n' } := by
    rw [Heap.get?_update_self f ho (by rw [hf] <;> rfl), hf]
  refine I.write (x := p) (e := p) (by rw [h]; trivial) (.inl rfl) (fun b u hb q => (Heap.get?_update_other _ _ (Ne.symm hb)).trans q) ⟨_, e⟩ ?_
  exact ⟨hz, its', n', r, e⟩
def rSetL : V → V → V → Hp → (Hp → Prop) → Prop := fun o i v H Q => ∃ p xs k j, o = .ref p ∧ i = .int k ∧ H p = some (.lst xs) ∧ ixN xs.length k = some j ∧ Q (upd H p (.lst (xs.set j v)))
theorem set_list : PSet X rSetL := by
  intro pins s σ H o i v ov iv u Q I ro ri rv h
  obtain ⟨p, xs, k, j, rfl, rfl, hp, hj, q⟩ := h
  cases ro
  obtain ⟨t, rfl⟩ := ri
  obtain ⟨its, n, r, ho, hz⟩ := I.lst hp
  obtain ⟨h1, h2, h3, h4⟩ := ixN_seq hj
  have hl := r.length
  have hn := line63
  have I' : Inv X pins σ (upd H p (.lst (xs.set j v))) { s with heap := s.heap.update p (Obj.mapSeq (·.setIfInBounds j u)) } :=
    I.lstUpd hp ho (mapSeq_set its n j u) (r.set rv j) (by rw [List.length_set]; exact hz) s.toks
  by_cases h0 : 0 ≤ k
  · have hk : k.toNat = j := by
      rw [seqIndex_of h0 h4] at h1
      exact Option.some.inj h1
    exact PySem.W.ki_setAt ho h0 (by omega) (by rw [List.size_toArray, ← hl]; exact h4) (by rw [hk]; exact ⟨_, I', q⟩)
  · have hk : (k + (its.toArray.size : Int)).toNat = j := by
      rw [seqIndex_neg (by omega) h3] at h1
      rw [List.size_toArray, ← hl]
      exact Option.some.inj h1
    exact PySem.W.ki_setBack ho (by omega) (by rw [List.size_toArray, ← hl]; exact h3) (by omega) (by rw [hk]; exact ⟨_, I', q⟩)

/-! ### slices -/
theorem slice_bounds (lo hi : Option Int) (n : Nat) : (sliceBounds lo hi none n).1 = ((HT.sIx n 0 lo : Nat) : Int) ∧ (sliceBounds lo hi none n).2.1 = ((HT.sIx n n hi : Nat) : Int) ∧ (sliceBounds lo hi none n).2.2 = 1 := by
  refine ⟨?_, ?_, rfl⟩
  · cases lo with
    | none => simp [sliceBounds, HT.sIx]
    | some i =>
      simp only [sliceBounds, HT.sIx, Option.getD_none, show (1 : Int) > 0 by decide, if_true]
      by_cases h : i < 0
      · simp only [h, if_true] <;> omega
      · simp only [h, if_false] <;> omega
  · cases hi with
    | none => simp [sliceBounds, HT.sIx]
    | some i =>
      simp only [sliceBounds, HT.sIx, Option.getD_none, show (1 : Int) > 0 by decide, if_true]
      by_cases h : i < 0
      · simp only [h, if_true] <;> omega
      · simp only [h, if_false] <;> omega
theorem slicePick_cut (its : List Value) (lo hi : Option Int) : slicePick its.toArray lo hi none = ((its.drop (HT.sIx its.length 0 lo)).take (HT.sIx its.length its.length hi - HT.sIx its.length 0 lo)).toArray := by
  obtain ⟨h1, h2, h3⟩ := slice_bounds lo hi its.toArray.size
  unfold slicePick
  rw [h1, h2, h3]
  simp only [sliceRange_one, pick_run, List.size_toArray] <;> rfl
/-- xs[lo:hi] of a list: a new list -/
def rSlL (K : PySem.W.Frag) : V → Option Int → Option Int → Hp → VK → Prop := fun x lo hi H Q => ∃ a xs, x = .ref a ∧ SqL K H a xs ∧ ∀ p, H p = none → Q (.ref p) (upd H p (.lst (cutV xs lo hi)))
theorem sl_list : SlR X (rSlL X.K) := by
  intro pins s σ H x v vl vu lo hi sl Q I rx hs pl pu h
  obtain ⟨a, xs, rfl, hx, q⟩ := h
  cases rx
  obtain ⟨its, r, ht, hz⟩ := I.list hx
  have hlen := r.length
  refine ⟨"list", _, slot_list_getitem.lookup, ht.isList.typeIs, ?_⟩
  refine wpAny_getItem_list_slice ht.isList hs pl pu .none (by simp) ?_ (by rw [List.size_toArray] <;> omega)
  rw [slicePick_cut, ← hlen]
  refine ⟨.ref s.heap.objs.size, _, I.laid (t' := s.toks) (o := .lst (cutV xs lo hi)) (fun b ob q => Heap.get?_push_of_some _ q) (Nat.le_refl _) ?_, rfl, q _ (I.hok.fresh (Nat.le_refl _))⟩
  exact ⟨Nat.le_trans (cutV_length xs lo hi) hz, _, 0, (r.drop (HT.sIx xs.length 0 lo)).take (HT.sIx xs.length xs.length hi - HT.sIx xs.length 0 lo), Heap.get?_push_size _ rfl⟩

/-! ### in, not in: flat items -/
def flatV : V → Bool
  | .non => true
  | .bl _ => true
  | .int _ => true
  | .str _ => true
  | _ => false
/-- == of flat values -/
def eqV : V → V → Bool
  | .non, .non => true
  | .bl a, .bl b => a == b
  | .bl a, .int b => (if a then 1 else 0) == b
  | .int a, .bl b => a == (if b then 1 else 0)
  | .int a, .int b => a == b
  | .str a, .str b => a == b
  | _, _ => false
theorem eqAt_V {A : Around} {s : Shared} {y x : V} {u v : Value} (ry : RelV y u) (rx : RelV x v) (fy : flatV y = true) (fx : flatV x = true) : SeqAt.EqAt A s u v (eqV y x) := by
  cases y with
  | non =>
    cases ry
    cases x with
    | non => cases rx; exact SeqAt.EqAt.same _
    | bl b => cases rx; exact SeqAt.EqAt.none_bool b
    | int b => obtain ⟨t, rfl⟩ := rx; exact SeqAt.EqAt.none_int b t
    | str b => obtain ⟨t, rfl⟩ := rx; exact SeqAt.EqAt.none_str b t
    | _ => exact absurd (show false = true from fx) Bool.false_ne_true
  | bl a =>
    cases ry
    cases x with
    | non => cases rx; exact SeqAt.EqAt.bool_none a
    | bl b => cases rx; exact SeqAt.EqAt.bool_bool a b
    | int b => obtain ⟨t, rfl⟩ := rx; exact SeqAt.EqAt.bool_int a b t
    | str b => obtain ⟨t, rfl⟩ := rx; exact SeqAt.EqAt.bool_str a b t
    | _ => exact absurd (show false = true from fx) Bool.false_ne_true
  | int a =>
    obtain ⟨t', rfl⟩ := ry
    cases x with
    | non => cases rx; exact SeqAt.EqAt.int_none a t'
    | bl b => cases rx; exact SeqAt.EqAt.int_bool a t' b
    | int b => obtain ⟨t, rfl⟩ := rx; exact SeqAt.EqAt.int_int a t' b t
    | str b => obtain ⟨t, rfl⟩ := rx; exact SeqAt.EqAt.int_str a t' b t
    | _ => exact absurd (show false = true from fx) Bool.false_ne_true
  | str a =>
    obtain ⟨t', rfl⟩ := ry
    cases x with
    | non => cases rx; exact SeqAt.EqAt.str_none a t'
    | bl b => cases rx; exact SeqAt.EqAt.str_bool a t' b
    | int b => obtain ⟨t, rfl⟩ := rx; exact SeqAt.EqAt.str_int a t' b t
    | str b => obtain ⟨t, rfl⟩ := rx; exact SeqAt.EqAt.str_str a t' b t
    | _ => exact absurd (show false = true from fx) Bool.false_ne_true
  | _ => exact absurd (show false = true from fy) Bool.false_ne_true
/-- the items' answers, read off the values (a value's own answer does not lean on its token) -/
def eqU (x : V) (u : Value) : Bool := match u with
  | .none => eqV .non x
  | .bool b => eqV (.bl b) x
  | .int i _ => eqV (.int i) x
  | .str z _ => eqV (.str z) x
  | _ => false
theorem eqU_of {x y : V} {u : Value} (r : RelV y u) (f : flatV y = true) : eqU x u = eqV y x := by
  cases y with
  | non => cases r; rfl
  | bl b => cases r; rfl
  | int i => obtain ⟨t, rfl⟩ := r; rfl
  | str z => obtain ⟨t, rfl⟩ := r; rfl
  | _ => exact absurd (show false = true from f) Bool.false_ne_true
theorem any_eqU {x : V} : ∀ {xs : List V} {us : List Value}, Vals xs us → xs.all flatV = true → us.any (eqU x) = xs.any fun y => eqV y x
  | _, _, .nil, _ => rfl
  | y :: xs, u :: us, .cons r t, f => by
    rw [List.all_cons, Bool.and_eq_true] at f
    rw [List.any_cons, List.any_cons, eqU_of r f.1, any_eqU t f.2]
theorem mem_eqAt {A : Around} {s : Shared} {x : V} {v : Value} (rx : RelV x v) (fx : flatV x = true) : ∀ {xs : List V} {us : List Value}, Vals xs us → xs.all flatV = true → ∀ u ∈ us, SeqAt.EqAt A s u v (eqU x u)
  | _, _, .nil, _ => fun u hu => by cases hu
  | y :: xs, u :: us, .cons r t, f => fun u' hu => by
    rw [List.all_cons, Bool.and_eq_true] at f
    rcases List.mem_cons.mp hu with rfl | hu
    · rw [eqU_of r f.1]; exact eqAt_V r rx f.1 fx
    · exact mem_eqAt rx fx t f.2 u' hu
def inV (x : V) (xs : List V) : Bool := xs.any fun y => eqV y x
/-- x in a list or tuple of flat items -/
def rIn (K : PySem.W.Frag) (neg : Bool) : R2 := fun x y H Q => ∃ p xs, y = .ref p ∧ (SqL K H p xs ∨ SqT K H p xs) ∧ flatV x = true ∧ xs.all flatV = true ∧ Q (.bl (if neg then !inV x xs else inV x xs)) H
theorem op_notIn_seq : OpR X (compareOp .NotIn) (rIn X.K true) := by
  intro pins s σ H x y v u Q I rx ry h
  obtain ⟨p, xs, rfl, hq, fx, fs, q⟩ := h
  cases ry
  rcases hq with hq | hq
  · obtain ⟨its, r, pl, hz⟩ := I.list hq
    refine SeqAt.notIn_listAt (eqU x) pl.isList (fun w hw => mem_eqAt rx fx r fs w (by simpa using hw)) ⟨.bl _, H, I, rfl, ?_⟩
    rw [show its.toArray.any (eqU x) = its.any (eqU x) by simp, any_eqU r fs]
    exact q
  · obtain ⟨its, r, pl, hz⟩ := I.tuple hq
    refine SeqAt.notIn_tupleAt (eqU x) pl (fun w hw => mem_eqAt rx fx r fs w (by simpa using hw)) ⟨.bl _, H, I, rfl, ?_⟩
    rw [show its.toArray.any (eqU x) = its.any (eqU x) by simp, any_eqU r fs]
    exact q
/-! ### len, list(x), tuple(x) of any list or tuple that is read -/
theorem call_len_seq : CallR X (.builtin "len") (fun xs H Q => ∃ p ys, xs = [.ref p] ∧ (SqL X.K H p ys ∨ SqT X.K H p ys) ∧ Q (.int ys.length) H) := by
  intro pins s σ H xs us Q I r h
  obtain ⟨p, ys, rfl, hq, q⟩ := h
  obtain ⟨u, rfl, rx⟩ := vals1 r
  cases rx
  have hn := line63
  rcases hq with hq | hq
  · obtain ⟨its, r', pl, hz⟩ := I.list hq
    have hlen := r'.length
    exact Calls.call_len_list pl.isList (by simp only [List.size_toArray] <;> omega) ⟨.int ys.length, H, I.tok _, ⟨s.toks + 1, by rw [List.size_toArray, hlen]⟩, q⟩
  · obtain ⟨its, r', pl, hz⟩ := I.tuple hq
    have hlen := r'.length
    exact len_tuple pl (by simp only [List.size_toArray] <;> omega) ⟨.int ys.length, H, I.tok _, ⟨s.toks + 1, by rw [List.size_toArray, hlen]⟩, q⟩
theorem call_len_str : CallR X (.builtin "len") (fun xs H Q => ∃ z, xs = [.str z] ∧ z.length ≤ sizeLine ∧ Q (.int z.length) H) := by
  intro pins s σ H xs us Q I r h
  obtain ⟨z, rfl, hz, q⟩ := h
  obtain ⟨u, rfl, t, rfl⟩ := vals1 r
  have hn := line63
  exact len_str (by omega) ⟨.int z.length, H, I.tok _, ⟨_, rfl⟩, q⟩
theorem CallR.or {f : Value} {r r' : List V → Hp → VK → Prop} (h : CallR X f r) (h' : CallR X f r') : CallR X f (fun xs H Q => r xs H Q ∨ r' xs H Q) := by
  intro pins s σ H xs us Q I rs q
  rcases q with q | q
  · exact h pins s σ H xs us Q I rs q
  · exact h' pins s σ H xs us Q I rs q
theorem call_tuple_of : CallR X (.type "tuple") (fun xs H Q => ∃ p ys, xs = [.ref p] ∧ ((SqL X.K H p ys ∧ ∀ l, H l = none → Q (.ref l) (upd H l (.tup ys))) ∨ (SqT X.K H p ys ∧ Q (.ref p) H))) := by
  intro pins s σ H xs us Q I r h
  obtain ⟨p, ys, rfl, h⟩ := h
  obtain ⟨u, rfl, rx⟩ := vals1 r
  cases rx
  rcases h with ⟨hq, q⟩ | ⟨hq, q⟩
  · obtain ⟨its, r', pl, hz⟩ := I.list hq
    have hlen := r'.length
    refine call_tuple_list pl.isList (fun h' kp => ?_) (by simp only [List.size_toArray] <;> omega)
    have I1 : Inv X pins σ H { s with heap := h' } := I.kept (t' := s.toks) kp
    have I2 : Inv X pins σ (upd H h'.objs.size (.tup ys)) { s with heap := h'.push { cls := .type "tuple", data := .seq its.toArray } } :=
      I1.laid (t' := s.toks) (fun b o e => Heap.get?_push_of_some _ e) (Nat.le_refl _) (show ObjOk X.prog X.w _ _ _ (.tup ys) from ⟨hz, its, r', IsTupD.new _ _⟩)
    exact ⟨.ref h'.objs.size, _, I2, rfl, q _ (I1.hok.fresh (Nat.le_refl _))⟩
  · obtain ⟨its, r', pl, hz⟩ := I.tuple hq
    exact call_tuple_same pl ⟨.ref p, H, I, rfl, q⟩

/-! ### the call of a builtin's method: o.m(..) -/
/-- the value is of that builtin type -/
def tyV (K : PySem.W.Frag) (T : String) (x : V) (H : Hp) : Prop := match x with
  | .str _ => T = "str"
  | .int _ => T = "int"
  | .ref p => (T = "list" ∧ ∃ xs, SqL K H p xs) ∨ (T = "tuple" ∧ ∃ o, K.lookup p = some o ∧ o.cls = .type "tuple" ∧ o.dict = none) ∨
      (T = "dict" ∧ ((∃ kvs, H p = some (.dK kvs)) ∨ ∃ kvs, H p = some (.dT kvs))) ∨ (T = "set" ∧ ∃ S n, H p = some (.set S n))
  | _ => False
theorem tyV_is {pins : List (Addr × Obj)} {σ : St} {H : Hp} {s : Shared} {T : String} {x : V} {v : Value} (I : Inv X pins σ H s) (r : RelV x v) (ty : tyV X.K T x H) :
    s.TypeIs v T ∧ ∀ a, v = .ref a → ∃ ob, s.heap.get? a = some ob ∧ ob.dict = none := by
  cases x with
  | str z =>
    obtain ⟨t, rfl⟩ := r
    cases (show T = "str" from ty)
    exact ⟨typeIs_str s z t, fun _ e => nomatch e⟩
  | int i =>
    obtain ⟨t, rfl⟩ := r
    cases (show T = "int" from ty)
    exact ⟨typeIs_int s i t, fun _ e => nomatch e⟩
  | ref p =>
    cases r
    rcases ty with ⟨rfl, xs, hq⟩ | ⟨rfl, o, hk, hc, hd⟩ | ⟨rfl, hk⟩ | ⟨rfl, S, n, hk⟩
    · obtain ⟨its, _, pl, _⟩ := I.list hq
      refine ⟨pl.isList.typeIs, fun a e => ?_⟩
      cases e
      obtain ⟨o, n, e, c, hd, _⟩ := pl
      exact ⟨o, e, hd⟩
    · refine ⟨⟨o, I.kIn p o hk, hc⟩, fun a e => ?_⟩
      cases e
      exact ⟨o, I.kIn _ o hk, hd⟩
    · have z : ∃ o, s.heap.get? p = some o ∧ o.ExactDict := by
        rcases hk with ⟨kvs, hk⟩ | ⟨kvs, hk⟩
        · obtain ⟨_, _, _, _, o, _, _, e, ex, _⟩ := I.hok p _ hk
          exact ⟨o, e, ex⟩
        · obtain ⟨_, _, _, _, o, _, _, e, ex, _⟩ := I.hok p _ hk
          exact ⟨o, e, ex⟩
      obtain ⟨o, e, ex⟩ := z
      refine ⟨⟨o, e, ex.1⟩, fun a e2 => ?_⟩
      cases e2
      exact ⟨o, e, ex.2.1⟩
    · obtain ⟨o, _, _, _, e, ex, _⟩ := I.hok p _ hk
      refine ⟨⟨o, e, ex.1⟩, fun a e2 => ?_⟩
      cases e2
      exact ⟨o, e, ex.2.1⟩
  | _ => exact False.elim ty
def tBM0 (K : PySem.W.Frag) (T : String) (r : V → List V → Hp → VK → Prop) (to : TE) : TE := fun σ H Q => to σ H fun x H1 => tyV K T x H1 ∧ r x [] H1 Q
def tBM (K : PySem.W.Frag) (T : String) (r : V → List V → Hp → VK → Prop) (to : TE) (t : TA) : TE := fun σ H Q => to σ H fun x H1 => tyV K T x H1 ∧ t σ H1 fun xs H2 => r x xs H2 Q
variable {o e : Expr} {es : List Expr} {to : TE} {t : TA} {name : Str} {apos cpos : Pos} {T id : String} {r : V → List V → Hp → VK → Prop}
theorem pe_bm (pa : PlainAttrs T) (slot : Slot T name id) (hty : typeOf (.builtin id) = pure (.type "method_descriptor")) (hm : MtR X id r) (ho : PE X o to) (ha : PA X (e :: es) t)
    (hbase : attributeBase o name X.env (eval o X.env) = eval o X.env := by rfl)
    (hfew : ((backTo cpos (starEach (e :: es) X.env)).all (fun x => !x.1) && (backToKw cpos (keywordEach [] X.env)).all (fun x => x.1.isSome)
      && decide ((e :: es).length + ([] : List Keyword).length + (if ([] : List Keyword).isEmpty then 0 else 1) < 30)) = true := by rfl)
    (hline : (apos.endLine == cpos.line) = true := by rfl) (hs : starEach (e :: es) X.env = (false, eval e X.env) :: starEach es X.env := by rfl) (hplain : (backTo cpos (starEach es X.env)).any (·.1) = false := by rfl) :
    PE X (.Call (.Attribute o name apos) (e :: es) [] cpos) (tBM X.K T r to t) := by
  intro pins s σ H Q I h
  refine wpAny_Call_method_late hbase hfew hline rfl (thn (ho pins s σ H _ I h) fun v s1 ⟨x, H1, I1, r1, ty, q1⟩ => ?_)
  obtain ⟨h1, h2⟩ := tyV_is I1 r1 ty
  refine ⟨T, id, pa, slot, hty, h1, h2, ?_⟩
  have hA := ha cpos pins s1 σ H1 _ I1 q1
  rw [hs] at hA ⊢
  refine Calls.callWith_builtin (by show (false || (backTo cpos (starEach es X.env)).any (·.1)) = false; rw [hplain] <;> rfl) (Calls.evalArgs_plain ?_)
  exact thn hA fun us s2 ⟨vs, H2, I2, r2, q2⟩ => hm pins s2 σ H2 x vs v us Q I2 r1 r2 q2
/- xs.append(e), list.index on a module's tuple .. are MtR facts of 06m -/
end
end L2

namespace L2
open PySem PySem.Spec PyProof.Rows

def MtM (X : Cx) (id : String) (r : V → List V → Hp → VK → Prop) : Prop :=
  ∀ (pins : List (Addr × Obj)) (s : Shared) (σ : St) (H : Hp) (x : V) (xs : List V) (v : Value) (us : List Value) (Q : VK), Inv X pins σ H s → RelV x v → Vals xs us → r x xs H Q →
    wpAny (model X.prog X.w) X.A (call (.builtin id) (v :: us)) (EP X pins σ Q) X.xe s

/-! ### lists of values -/
theorem Vals.one : ∀ {x : V} {us : List Value}, Vals [x] us → ∃ u, us = [u] ∧ RelV x u
  | _, _, .cons r .nil => ⟨_, rfl, r⟩
theorem Vals.two : ∀ {x y : V} {us : List Value}, Vals [x, y] us → ∃ u v, us = [u, v] ∧ RelV x u ∧ RelV y v
  | _, _, _, .cons r (.cons q .nil) => ⟨_, _, rfl, r, q⟩
theorem Vals.zero : ∀ {us : List Value}, Vals [] us → us = []
  | _, .nil => rfl
theorem Vals.dropLast {xs : List V} {us : List Value} (h : Vals xs us) : Vals xs.dropLast us.dropLast := by
  induction h with
  | nil => exact .nil
  | cons r t ih =>
    cases t with
    | nil => exact .nil
    | cons q t' => exact .cons r ih
theorem Vals.eraseIdx : ∀ {xs : List V} {us : List Value} (i : Nat), Vals xs us → Vals (xs.eraseIdx i) (us.eraseIdx i)
  | _, _, _, .nil => .nil
  | _, _, 0, .cons _ t => t
  | _, _, i + 1, .cons r t => .cons r (Vals.eraseIdx i t)
theorem Vals.reverse {xs : List V} {us : List Value} (h : Vals xs us) : Vals xs.reverse us.reverse := by
  induction h with
  | nil => exact .nil
  | cons r t ih => rw [List.reverse_cons, List.reverse_cons]; exact Vals.append ih (.cons r .nil)
section
variable {X : Cx} {pins : List (Addr × Obj)} {σ : St} {H : Hp} {s : Shared} {l b : Addr} {xs ys zs : List V}

/-! ### the two steps: a tracked list is rewritten, a new list is laid -/
theorem Inv.lnew {its : List Value} {t' : Nat} (I : Inv X pins σ H s) (hv : Vals ys its) (hz : ys.length ≤ sizeLine) :
    Inv X pins σ (upd H s.heap.objs.size (.lst ys)) { s with heap := s.heap.push { cls := .type "list", data := .seq its.toArray }, toks := t' } :=
  I.laid (fun _ _ q => Heap.get?_push_of_some _ q) (Nat.le_refl _) ⟨hz, its, 0, hv, Heap.get?_push_size _ rfl⟩
theorem Inv.fresh (I : Inv X pins σ H s) : H s.heap.objs.size = none := I.hok.fresh (Nat.le_refl _)
theorem Inv.lstM (I : Inv X pins σ H s) (hH : H l = some (.lst xs)) : xs.length ≤ sizeLine ∧ ∃ (its : List Value) (n : Nat), Vals xs its ∧ xs.length = its.length ∧ s.heap.get? l = some { cls := .type "list", data := .seq its.toArray n } := by
  obtain ⟨z, its, n, r, e⟩ := I.hok l _ hH
  exact ⟨z, its, n, r, r.length, e⟩

end

section
variable {X : Cx}

/-! ### methods -/
def rAppend : V → List V → Hp → VK → Prop := fun x vs H Q => ∃ l xs y, x = .ref l ∧ vs = [y] ∧ H l = some (.lst xs) ∧ xs.length < sizeLine ∧ Q .non (upd H l (.lst (xs ++ [y])))
def rExtend : V → List V → Hp → VK → Prop := fun x vs H Q => ∃ l b xs zs, x = .ref l ∧ vs = [.ref b] ∧ H l = some (.lst xs) ∧ H b = some (.lst zs) ∧ xs.length + zs.length ≤ sizeLine ∧ Q .non (upd H l (.lst (xs ++ zs)))
def rPop : V → List V → Hp → VK → Prop := fun x vs H Q => ∃ l xs y, x = .ref l ∧ vs = [] ∧ H l = some (.lst xs) ∧ xs[xs.length - 1]? = some y ∧ Q y (upd H l (.lst xs.dropLast))
def rPopAt : V → List V → Hp → VK → Prop := fun x vs H Q => ∃ l xs i k y, x = .ref l ∧ vs = [.int i] ∧ H l = some (.lst xs) ∧ -(2 ^ 63) ≤ i ∧ i < 2 ^ 63 ∧ seqIndex? i xs.length = some k ∧ xs[k]? = some y ∧ Q y (upd H l (.lst (xs.eraseIdx k)))
def rReverse : V → List V → Hp → VK → Prop := fun x vs H Q => ∃ l xs, x = .ref l ∧ vs = [] ∧ H l = some (.lst xs) ∧ Q .non (upd H l (.lst xs.reverse))
def rClear : V → List V → Hp → VK → Prop := fun x vs H Q => ∃ l xs, x = .ref l ∧ vs = [] ∧ H l = some (.lst xs) ∧ Q .non (upd H l (.lst []))
/-! ### list + list, list += list, list * int -/
def rCat : R2 := fun x y H Q => ∃ l b xs zs, x = .ref l ∧ y = .ref b ∧ H l = some (.lst xs) ∧ H b = some (.lst zs) ∧ xs.length + zs.length ≤ sizeLine ∧ ∀ p, H p = none → Q (.ref p) (upd H p (.lst (xs ++ zs)))
theorem op_cat : OpR X (binaryOp .Add) rCat := by
  intro pins s σ H x y v u Q I rx ry h
  obtain ⟨l, b, xs, zs, rfl, rfl, hH, hB, hz, q⟩ := h
  cases rx
  cases ry
  obtain ⟨z, its, n, r, hl, e⟩ := I.lstM hH
  obtain ⟨z2, its2, n2, r2, hl2, e2⟩ := I.lstM hB
  refine PySem.P.add_list e e2 ?_ (by rw [List.size_toArray, List.size_toArray]; omega)
  have ea : its.toArray ++ its2.toArray = (its ++ its2).toArray := by simp
  rw [ea]
  exact ⟨.ref _, _, I.lnew (t' := s.toks) (r.append r2) (by rw [List.length_append]; omega), rfl, q _ I.fresh⟩
/-- a list times an int (a negative one is nothing) -/
def rRep : R2 := fun x y H Q => ∃ l k xs, x = .ref l ∧ y = .int k ∧ H l = some (.lst xs) ∧ -(2 ^ 63) ≤ k ∧ k < 2 ^ 63 ∧ xs.length * k.toNat ≤ sizeLine ∧
  ∀ p, H p = none → Q (.ref p) (upd H p (.lst (List.replicate k.toNat xs).flatten))
/-! ### del xs[i] -/
end

/-! ### xs[a:b] = ys -/
section
variable {prog : Program} {w : World} {A : Around} {E : Value → Shared → Prop} {s : Shared}
set_option maxRecDepth 100000 in
end

section
variable {X : Cx}
end
end L2

namespace Att
open PySem PySem.W PySem.Calls PyProof.Rows

/-! ### the script -/
theorem ints_of_wellAll {P : Params} {h : Heap} : ∀ (ns : List Int) (vs : List Value), WellAll P h vs (ns.map WData.int) → IntsAre vs ns := by
  intro ns
  induction ns with
  | nil =>
    intro vs w
    rw [List.map_nil] at w
    cases w
    exact .nil
  | cons n ns ih =>
    intro vs w
    rw [List.map_cons] at w
    cases w with
    | cons a b =>
      cases a
      exact .cons _ _ (ih _ b)

theorem script_of {l : OpenLaw} {n : Nat} (hn : l.most = some n) {P : Params} {h : Heap} {args : List WData} {vals : List Value}
    (hpre : l.row.toRowW.claim.pre args = true) (hwl : WellAll P h vals args) :
    ∃ a vs ns, vals = [Value.ref a] ∧ args = [WData.list (ns.map WData.int)] ∧ h.get? a = some { cls := .type "list", data := .seq vs.toArray } ∧ IntsAre vs ns ∧ ns.length ≤ n := by
  have hsh : WShape.hasAll [] args [.list .int] = true := (pre_splitW hpre).1
  have hc : l.pre.holds [] { args := args } = true := (pre_splitW hpre).2
  obtain ⟨d, r, rfl, h1, h2⟩ := hasAllW_cons hsh
  obtain rfl := hasAllW_nil h2
  obtain ⟨xs, rfl, h3⟩ := hasW_list h1
  obtain ⟨ns, rfl⟩ := items_int h3
  have hlen : ns.length ≤ n := by
    unfold OpenLaw.pre at hc
    have h4 : (WTm.not (.lt (.lit (.int (n : Int))) (.len (.arg 0)))).holds [] { args := [.list (ns.map .int)] } = true := by
      have h4 := (holds_andW hc).1
      rw [hn] at h4
      exact h4
    have h5 := condW_of h4 (w_not (w_lt w_lit (w_len_list (w_arg rfl))))
    rw [List.length_map] at h5
    refine Nat.le_of_not_lt fun q => ?_
    have q' : (n : Int) < ((ns.length : Nat) : Int) := by omega
    first
      | (rw [decide_eq_true q'] at h5; exact absurd h5 (by decide))
      | (simp at h5; omega)
  cases hwl with
  | cons w1 w2 =>
    cases w2
    cases w1 with
    | list ho hall => exact ⟨_, _, ns, rfl, rfl, ho, ints_of_wellAll ns _ hall, hlen⟩

theorem post_true (l : OpenLaw) (args : List WData) : l.row.toRowW.claim.post args (.bool true) args = true :=
  postW_of (r := l.row.toRowW) (X := (true == true))
    (show WShape.has [] (.bool true) .bool = true by first | rfl | decide | simp [WShape.has, WShape.arms, WShape.armsAll])
    (show (WTm.eq .res (.lit (.bool true))).value [] { args := args, res := some (.bool true), after := args } = some (.bool (true == true)) from w_eq_bool (w_res rfl) w_lit) rfl

/-! ### the attachment: holds_open's last premise (the goal 'hc' behind k_head) from a wpAny of the law's body -/
/-- the same from a codeAny of the CALL (for a layer whose function contracts speak of calls) -/
theorem attach_call {l : OpenLaw} {n : Nat} {q : Program} {loose : List Str} {XP : (Str → Option Value) → Heap → Prop} {YP : World → Heap → Prop} {d : DefRec}
    (hn : l.most = some n) (hdf : d.params.defaults = [])
    (call : ∀ (w : World) (s₀ s₁ : Shared) (mg mb : Str → Option Value) (fa : Addr) (o : Obj) (pm cd doc : Value) (a : Addr) (vs : List Value) (ns : List Int),
      Ground q loose [] XP w s₀ mg mb s₁.heap → YP w s₁.heap →
      s₁.heap.get? fa = some o → o.data = .func (docDef d.name d.params d.body d.scope pm cd doc) → s₁.heap.CodeRec cd d.name → mg d.name = some (.ref fa) →
      s₁.heap.get? a = some { cls := .type "list", data := .seq vs.toArray } → IntsAre vs ns → ns.length ≤ n → s₁.gens = #[] →
      codeAny (model l.prog w) callerA (.call (.ref fa) ⟨[.ref a], []⟩) (fun r s' => r = .ok (.ret (.bool true)) ∧ OldK s₁.heap s'.heap ∧ s'.os = s₁.os ∧ AllBare s'.gens) s₁) :
    WalkO q loose XP YP l.row.toRowW d [] (fun f vs => PySem.call f vs) := by
  intro w s₀ s₁ mg mb G Y fa o pm cd doc dV kV ho hd hcd hD hmg hg args vals as hpre hlay hrd hwl hlo
  obtain rfl : dV = .none := Dflts.none hD hdf
  obtain rfl : kV = .none := Dflts.noKw hD
  obtain ⟨a, vs, ns, rfl, rfl, hobj, hints, hlen⟩ := script_of hn hpre hwl
  refine enter_call (codeAny_mono (call w s₀ s₁ mg mb fa o pm cd doc a vs ns G Y ho (fd_plain hd) hcd hmg hobj hints hlen hg) fun r s' hq => ?_)
  obtain ⟨rfl, h2, h3, h4⟩ := hq
  exact ⟨.inl ⟨.bool true, .bool true, [], rfl, fun _ => rfl, .bool true, post_true l _, fun _ => ⟨List.Pairwise.nil, fun _ hm => (nomatch hm)⟩⟩, h2, h3, h4⟩

/-! ### rules over ANY heap (no ledger) from facts about the written part K: the library's own take a ledger (News) for what they write -/
section
variable {prog : Program} {w : World} {A : Around} {E : Value → Shared → Prop} {s : Shared} {K : Frag}

/-! the whole heap as the ledger: makes every rule that writes through a ledger a rule over any heap -/
def ledger (h : Heap) (L d : Addr) : List (Addr × Obj) := (List.range h.objs.size).filterMap fun a => if a = L ∨ a = d then none else (h.get? a).map fun o => (a, o)
end
end Att

namespace L2
open PySem PySem.Spec PyProof.Rows

theorem vals_ints : ∀ {vs : List Value} {ns : List Int}, IntsAre vs ns → Vals (ns.map V.int) vs
  | _, _, .nil => .nil
  | _, _, .cons n t h => .cons ⟨t, rfl⟩ (vals_ints h)

/-- nothing is tracked but the script, known to the object (or it is an object of the module) -/
def Only (H : Hp) : Prop := ∀ b, H b = none ∨ ∃ o xs, H b = some (.frz o (.lst xs))

/-- THE HEAD: the law's promise, at the heap behind the top. F, the promise of the law's def, may use that base is part of the heap (so K.In base, base.Ns mainGlobals mg stand in Mod) -/
theorem law_call {P : Program} {w : World} {K : PySem.W.Frag} {mg mb : Str → Option Value} {CX : CXT} {k : Nat} {fa a : Addr} {fd : FuncData} {x : Str} {sp : Sp} {s₁ : Shared} {vs : List Value} {ns : List Int}
    (KX : K.In s₁.heap) (hns : s₁.heap.Ns mainGlobals mg) (hb : s₁.heap.Ns builtinsNs mb) (hbb : ∀ x : Str, x ≠ "__name__" → mb x = bootBuiltins x) (hlim : s₁.heap.NoLimit) (hg : s₁.gens = #[])
    (ha : s₁.heap.get? a = some { cls := .type "list", data := .seq vs.toArray }) (hi : IntsAre vs ns) (hl : ns.length ≤ sizeLine) (hr : Room k callerA)
    (F : ∀ base : Heap, K.In base → base.Ns mainGlobals mg → FnOk P w K mg base CX k fa fd [x] sp) (hbind : ∀ (s : Shared) (u : Value), BindsTo s fd ⟨[u], []⟩ [(x, u)])
    (hsp : ∀ H : Hp, Only H → SqL K H a (ns.map V.int) → sp [.ref a] H (fun v _ => v = .bl true) fun _ _ _ => False)
    (hCX : ∀ H e s', CX [] H s₁ (fun _ _ _ => False) e s' → False) :
    codeAny (model P w) callerA (.call (.ref fa) ⟨[.ref a], []⟩) (fun r s' => r = .ok (.ret (.bool true)) ∧ OldK s₁.heap s'.heap ∧ s'.os = s₁.os ∧ AllBare s'.gens) s₁ := by
  have rv := vals_ints hi
  have lenV := hi.length
  -- from an abstract heap in which nothing but the script may be tracked
  have core : ∀ H : Hp, Only H → SqL K H a (ns.map V.int) → HOk P w H s₁.heap → (∀ b, H b ≠ none → b = a) → (H a ≠ none → K.lookup a = none) →
      codeAny (model P w) callerA (.call (.ref fa) ⟨[.ref a], []⟩) (fun r s' => r = .ok (.ret (.bool true)) ∧ OldK s₁.heap s'.heap ∧ s'.os = s₁.os ∧ AllBare s'.gens) s₁ := by
    intro H hO hS hok hA hK
    have base_of : ∀ {b : Addr} {o : Obj}, s₁.heap.get? b = some o → H b = none → (hidT s₁.heap H).get? b = some o := fun e n => hidT_get e n
    have noA : ∀ {b : Addr} {o : Obj} {es : Array DictEntry} {ep : Nat}, s₁.heap.get? b = some o → o.data = .dict es ep → H b = none := fun {b o es ep} e d => by
      cases q : H b with
      | none => rfl
      | some u =>
        have e' : b = a := hA b (by rw [q]; simp)
        subst e'
        rw [ha] at e; cases e
        have d' : Data.seq vs.toArray _ = Data.dict es ep := d
        cases d'
    have nsK : ∀ {b : Addr} {m : Str → Option Value}, s₁.heap.Ns b m → (hidT s₁.heap H).Ns b m := fun {b m} ⟨o, es, ep, e, d, r⟩ => ⟨o, es, ep, base_of e (noA e d), d, r⟩
    have hKb : K.In (hidT s₁.heap H) := fun b o e => base_of (KX b o e) (by
      cases q : H b with
      | none => rfl
      | some u =>
        have e' : b = a := hA b (by rw [q]; simp)
        subst e'
        rw [hK (by rw [q]; simp)] at e; cases e)
    have hM : Mod K mg (hidT s₁.heap H) := ⟨hKb, nsK hns, ⟨mb, nsK hb, hbb⟩, let ⟨mc, h1, h2⟩ := hlim; ⟨mc, nsK h1, h2⟩⟩
    have e0 : Env0 P w K mg (hidT s₁.heap H) callerA [] s₁ H := ⟨rfl, hM, fun b o e => of_hidT e, Nat.le_of_eq (hidT_size _ _), trivial, fun b hb => absurd (show b ∈ ([] : List Addr) from hb) (by simp), hok, .of_eq hg⟩
    refine codeAny_mono ((F _ hKb (nsK hns)).run callerA [] s₁ H ⟨[.ref a], []⟩ [.ref a] [.ref a] _ _ hr e0 (hbind s₁ (.ref a)) (.cons rfl .nil) (hsp H hO hS)) fun r s' h => ?_
    cases r with
    | error e => exact (hCX H e s' h).elim
    | ok fl =>
      cases fl with
      | next => exact False.elim h
      | brk => exact False.elim h
      | cont => exact False.elim h
      | ret u =>
        obtain ⟨v, H', os, bare, un, hok', r', q⟩ := h
        have q' : v = .bl true := q
        subst q'
        obtain rfl : u = Value.bool true := r'
        refine ⟨rfl, OldK.of_keep fun b o e => ?_, os, bare⟩
        cases q : H b with
        | none => exact un.keep b o e q (by intro z; exact absurd (show b ∈ ([] : List Addr) from z) (by simp)) (by simp)
        | some u =>
          rcases hO b with z | ⟨ob, xs, z⟩
          · rw [q] at z; cases z
          · have z2 := un.frzs b ob _ z
            obtain ⟨e1, _⟩ := hok b _ z
            obtain ⟨e2, _⟩ := hok' b _ z2
            rw [e] at e1; cases e1
            exact e2
  cases hk : K.lookup a with
  | some o =>
    -- the script is one of the module's own objects
    have e := KX a o hk
    rw [ha] at e
    cases e
    refine core (fun _ => none) (fun _ => .inl rfl) (.inr ⟨_, vs.toArray, _, hk, rfl, rfl, rfl, by rw [List.size_toArray, lenV]; exact hl, by simpa using rv⟩) (fun b u z => by have z' : (none : Option HO) = some u := z; cases z') (fun b z => absurd rfl z) fun z => absurd rfl z
  | none =>
    refine core (fun b => if b = a then some (.frz { cls := .type "list", data := .seq vs.toArray } (.lst (ns.map V.int))) else none) (fun b => ?_) (.inl (.inr ⟨{ cls := .type "list", data := .seq vs.toArray }, if_pos rfl⟩)) (fun b u z => ?_) (fun b z => ?_) fun _ => hk
    · by_cases hb : b = a
      · exact .inr ⟨_, _, if_pos hb⟩
      · exact .inl (if_neg hb)
    · by_cases hb : b = a
      · have z' := (if_pos hb).symm.trans z
        cases z'
        subst hb
        exact ⟨ha, by rw [List.length_map]; exact hl, vs, _, rv, ha⟩
      · have z' := (if_neg hb).symm.trans z
        cases z'
    · by_cases hb : b = a
      · exact hb
      · exact absurd (if_neg hb) z
end L2

namespace L2
open PySem PySem.Spec PyProof.Rows

abbrev KOf {K : PySem.W.Frag} {h : Heap} (_ : K.In h) : PySem.W.Frag := K

/-- the goal that k_head leaves (case hc), from the law's promise. F gives the function object fd (K's own) once, then the promise over every base -/
theorem walk_of {l : PySem.W.OpenLaw} {n k : Nat} {q : Program} {loose : List Str} {XP : (Str → Option Value) → Heap → Prop} {YP : World → Heap → Prop} {d : DefRec} {K : Params → PySem.W.Frag} {CX : World → CXT} {sp : World → Sp} {x : Str}
    (hn : l.most = some n) (hn2 : n ≤ sizeLine) (hdf : d.params.defaults = []) (hr : Room k callerA)
    (hY : ∀ (w : World) (h : Heap), YP w h → (K w.params).In h)
    (F : ∀ (w : World) (mg : Str → Option Value) (fa : Addr) (h : Heap), (K w.params).In h → h.Ns mainGlobals mg → mg d.name = some (.ref fa) →
      ∃ fd : FuncData, (∀ (s : Shared) (u : Value), BindsTo s fd ⟨[u], []⟩ [(x, u)]) ∧
        ∀ base : Heap, (K w.params).In base → base.Ns mainGlobals mg → FnOk l.prog w (K w.params) mg base (CX w) k fa fd [x] (sp w))
    (hsp : ∀ (w : World) (H : Hp) (a : Addr) (ns : List Int), ns.length ≤ n → Only H → SqL (K w.params) H a (ns.map V.int) → sp w [.ref a] H (fun v _ => v = .bl true) fun _ _ _ => False)
    (hCX : ∀ (w : World) (H : Hp) (s : Shared) (e : Value) (s' : Shared), CX w [] H s (fun _ _ _ => False) e s' → False) :
    PySem.W.WalkO q loose XP YP l.row.toRowW d [] (fun f vs => PySem.call f vs) := by
  refine Att.attach_call hn hdf fun w s₀ s₁ mg mb fa o pm cd doc a vs ns G Y ho hd hcd hmg hobj hints hlen hg => ?_
  have KX := hY w _ Y
  obtain ⟨fd, hb, hF⟩ := F w mg fa _ KX G.T.g hmg
  exact law_call KX G.T.g G.T.b G.T.builtins G.T.nolimit hg hobj hints (Nat.le_trans hlen hn2) hr hF hb (fun H hO hS => hsp w H a ns hlen hO hS) fun H e s' => hCX w H s₁ e s'
/-- the same where the promise hangs on the written part alone: (sp := My.sp_law), no hole under a binder -/
theorem walk_ofK {l : PySem.W.OpenLaw} {n k : Nat} {q : Program} {loose : List Str} {XP : (Str → Option Value) → Heap → Prop} {YP : World → Heap → Prop} {d : DefRec} {K : Params → PySem.W.Frag} {CX : CXT} {sp : PySem.W.Frag → Sp} {x : Str}
    (hn : l.most = some n) (hn2 : n ≤ sizeLine) (hdf : d.params.defaults = []) (hr : Room k callerA)
    (hY : ∀ (w : World) (h : Heap), YP w h → (K w.params).In h)
    (F : ∀ (w : World) (mg : Str → Option Value) (fa : Addr) (h : Heap), (K w.params).In h → h.Ns mainGlobals mg → mg d.name = some (.ref fa) →
      ∃ fd : FuncData, (∀ (s : Shared) (u : Value), BindsTo s fd ⟨[u], []⟩ [(x, u)]) ∧
        ∀ base : Heap, (K w.params).In base → base.Ns mainGlobals mg → FnOk l.prog w (K w.params) mg base CX k fa fd [x] (sp (K w.params)))
    (hsp : ∀ (K : PySem.W.Frag) (H : Hp) (a : Addr) (ns : List Int), ns.length ≤ n → Only H → SqL K H a (ns.map V.int) → sp K [.ref a] H (fun v _ => v = .bl true) fun _ _ _ => False)
    (hCX : ∀ (H : Hp) (s : Shared) (e : Value) (s' : Shared), CX [] H s (fun _ _ _ => False) e s' → False) :
    PySem.W.WalkO q loose XP YP l.row.toRowW d [] (fun f vs => PySem.call f vs) :=
  walk_of (K := K) (CX := fun _ => CX) (sp := fun w => sp (K w.params)) hn hn2 hdf hr hY F (fun w H a ns h1 h2 h3 => hsp (K w.params) H a ns h1 h2 h3) fun _ H s e s' => hCX H s e s'
end L2

/- THE LAST THEOREM (shape; LID, My.* are yours):
   My.Adr: a structure of the addresses that your layer names (classes, functions); My.Txt K t: a structure (Prop) of the equations over K;
   My.txt_mk : {K} {implicit addresses ..} (e1 : nsIn K mainGlobals "law" = some (some (.ref f))) (e2 : K.lookup f = some ⟨oc, od, .func (fnOf "law" "law" params body scope dV kV doc pm an cdv ct), sl⟩) (e3 : codeIn K cdv "law" = true) .. : ∃ t, My.Txt K t

set_option maxRecDepth 100000 in
set_option maxHeartbeats 0 in
theorem PySem.Challenge.cw_LID_holds : PySem.Challenge.rw_LID.Holds := by
  w_on; o_law; k_head; (case hw => w_witness2)
  k_fill
  refine L2.walk_of (l := PySem.Challenge.rw_LID) (n := 63) (k := 40) (x := "script") (CX := fun w => ..) (sp := fun _ => My.sp_law) rfl (by decide) rfl ⟨rfl, by decide, by decide⟩ (fun w h Y => PySem.W.kIn_of Y) ?F ?S ?C
  case F =>
    intro w mg fa h KX G hmg
    have T : ∃ t, My.Txt (L2.KOf KX) t := by
      dsimp only [L2.KOf]                          -- K must stand as «<heap const> w.params» for k_is
      refine' My.txt_mk ?e1 ?e2 ?e3 ..
      (case e1 => PySem.W.k_is)                    -- in the order: a name -> its address -> its object -> its parts
      (case e2 => PySem.W.k_is)
      ..
    obtain ⟨t, T⟩ := T
    have e0 := hmg.symm.trans (PySem.W.mg_of KX G T.law)
    cases e0                                       -- fa is the law's own address
    exact ⟨_, fun s u => .of_eq rfl, fun base kb nb => My.law_fn T kb nb⟩     -- if «.of_eq rfl» comes too early: refine' ⟨_, ?b, fun base kb nb => My.law_fn T kb nb⟩; exact fun s u => .of_eq rfl
  case S => exact fun w H a ns hl hO hS => ..
  case C => exact ..
(the tactic k_is has no namespace: write k_is) -/

/-! SHORT WORDS over the layer: a def of the text, its body, what a loop and a test want. -/
namespace L2
open PySem PySem.Spec PyProof.Rows

/-! ### the text by places -/
def defArgs (s : Stmt) : Arguments := match s with
  | .FunctionDef _ a _ _ _ _ _ _ _ _ => a
  | _ => { posonlyargs := [], args := [], vararg := none, kwonlyargs := [], kw_defaults := [], kwarg := none, defaults := [] }
def defBody (s : Stmt) : List Stmt := match s with
  | .FunctionDef _ _ b _ _ _ _ _ _ _ => b
  | _ => []
def defScope (s : Stmt) : Scope := match s with
  | .FunctionDef _ _ _ _ _ _ sc _ _ _ => sc
  | _ => { kind := .function, names := [], isGenerator := false, isCoroutine := false }

/-! ### no exception leaves a def -/
abbrev CX0 : CXT := fun _ _ _ _ _ _ => False
abbrev E0 : XK := fun _ _ _ => False
theorem pass0 {X : Cx} : Passes CX0 X E0 := fun _ _ _ _ _ _ _ h => h.elim

/-! ### a def (or method) of the text as it stands behind the top -/
structure Fun (K : PySem.W.Frag) (x qual : Str) (st : Stmt) (f : Addr) (fd : FuncData) : Prop where
  ex : ∃ (oc : Value) (od : Option Addr) (kV doc pm : Value) (an : Option Addr) (cdv ct : Value) (osl : Array (Option Value)),
    fd = PySem.W.fnOf x qual (defArgs st) (defBody st) (defScope st) .none kV doc pm an cdv ct ∧ K.lookup f = some ⟨oc, od, .func fd, osl⟩ ∧ PySem.W.codeIn K cdv qual = true
  kp : PySem.W.keepIn K (.ref f) = true
section
variable {P : Program} {w : World} {K : PySem.W.Frag} {mg : Str → Option Value} {base : Heap}
/-- THE RULE for a def: its body as a term of rules, and the reading of that term -/
theorem Fun.ok {x qual : Str} {st : Stmt} {f : Addr} {fd : FuncData} {N ps : List Str} {k : Nat} {sp : Sp} (F : Fun K x qual st f fd) (S : FnScope N ps (defScope st)) (len : ∀ vs H Q E, sp vs H Q E → vs.length = ps.length)
    (hbody : ∀ (cdv : Value) (A : Around) (outer : List Env) (s : Shared) (H : Hp) (vs : List V) (Q : VK) (E : XK), Room k (A.deeper (envOfC qual (defScope st) s.heap.objs.size f cdv)) → sp vs H Q E →
      ∃ t, PSs (cxOf CX0 P w K mg base N qual (defScope st) f cdv A outer s H E).nox (defBody st) t ∧ t { nx := fun _ H' => Q .non H', rt := Q } (start N vs) H) : FnOk P w K mg base CX0 (k + 1) f fd ps sp := by
  obtain ⟨oc, od, kV, doc, pm, an, cdv, ct, osl, rfl, lk, hcd⟩ := F.ex
  refine fn_of lk hcd S len fun A outer s H vs Q E hr hsp => ?_
  obtain ⟨t, h, q⟩ := hbody cdv A outer s H vs Q E hr hsp
  exact ⟨t, h.nox, q⟩
/-- how its arguments bind (no defaults): h is «fun _ _ _ _ _ _ us hl => match us, hl with | [_, _], _ => rfl», one _ a parameter -/
theorem Fun.binds {x qual : Str} {st : Stmt} {f : Addr} {fd : FuncData} {ps : List Str} (F : Fun K x qual st f fd)
    (h : ∀ (kV doc pm : Value) (an : Option Addr) (cdv ct : Value) (us : List Value), us.length = ps.length → bindArgs (PySem.W.fnOf x qual (defArgs st) (defBody st) (defScope st) .none kV doc pm an cdv ct) ⟨us, []⟩ = pure (ps.zip us)) : Binds K fd ps [] := by
  obtain ⟨oc, od, kV, doc, pm, an, cdv, ct, osl, rfl, lk, hcd⟩ := F.ex
  exact .all (h kV doc pm an cdv ct)
theorem fun_mk {x qual : Str} {st : Stmt} {f : Addr} {oc : Value} {od an : Option Addr} {osl : Array (Option Value)} {kV doc pm cdv ct : Value} (l : K.lookup f = some ⟨oc, od, .func (PySem.W.fnOf x qual (defArgs st) (defBody st) (defScope st) .none kV doc pm an cdv ct), osl⟩)
    (c : PySem.W.codeIn K cdv qual = true) (k : PySem.W.keepIn K (.ref f) = true) : Fun K x qual st f (PySem.W.fnOf x qual (defArgs st) (defBody st) (defScope st) .none kV doc pm an cdv ct) := ⟨⟨oc, od, kV, doc, pm, an, cdv, ct, osl, rfl, l, c⟩, k⟩
end
theorem hu_of {A : Around} {k : Nat} (hr : Room k A) : A.units + 1 < cLine := Nat.lt_of_le_of_lt (Nat.add_le_add_left (by decide : 1 ≤ 64) _) hr.units
/-! ### expressions in short: the name that stands in the i-th slot -/
section
variable {X : Cx}
theorem pv (i : Nat) {x : Str} {pos : Pos} (hN : X.N[i]? = some x := by rfl) (hv : Vis X.env.scope x := by first | exact Or.inl rfl | exact Or.inr (Or.inl rfl) | exact Or.inr (Or.inr rfl)) (hd : (x == ("__debug__" : Str)) = false := by decide)
    (hcd : (x == ("__classdict__" : Str)) = false := by decide) : PE X (.Name x pos) (tVar i) := pe_var hN hv hd hcd
end

/-! ### tests -/
theorem iteF {A B : Prop} (h : B) : if false = true then A else B := by
  rw [if_neg Bool.false_ne_true]
  exact h
theorem iteT {A B : Prop} (h : A) : if true = true then A else B := by
  rw [if_pos rfl]
  exact h
theorem ite2 {c A B : Prop} [Decidable c] (h1 : c → A) (h2 : ¬ c → B) : if c then A else B := by
  by_cases h : c
  · rw [if_pos h]
    exact h1 h
  · rw [if_neg h]
    exact h2 h
theorem iteNS {c A B : Prop} [Decidable c] (hc : c) (h : B) : if (!decide c) = true then A else B := by
  rw [decide_eq_true hc]
  exact iteF h

/-! ### heaps -/
/-- all that was tracked is as it was -/
def Same (H H' : Hp) : Prop := ∀ b o, H b = some o → H' b = some o
theorem Same.refl (H : Hp) : Same H H := fun _ _ h => h
theorem Same.trans {H H1 H2 : Hp} (a : Same H H1) (b : Same H1 H2) : Same H H2 := fun c o h => b c o (a c o h)
theorem Same.free {H H' : Hp} (e : Same H H') {l : Addr} (h : H' l = Option.none) : H l = Option.none := by
  cases q : H l with
  | none => rfl
  | some o =>
    rw [e l o q] at h
    cases h
theorem Same.seq {K : PySem.W.Frag} {H H' : Hp} {a : Addr} {xs : List V} (e : Same H H') (h : SqL K H a xs) : SqL K H' a xs := by
  rcases h with (h | ⟨o, h⟩) | h
  · exact .inl (.inl (e _ _ h))
  · exact .inl (.inr ⟨o, e _ _ h⟩)
  · exact .inr h

end L2

set_option Elab.async false
set_option maxRecDepth 100000
namespace L2
open PySem PySem.Spec PyProof.Rows

/-! ### lists of pairs as tables -/
section
variable {κ : Type} [DecidableEq κ]
def valV (kvs : List (κ × V)) (k : κ) : Option V := (kvs.find? fun kv => decide (kv.1 = k)).map (·.2)
/-- in its place, or at the end -/
def putK (kvs : List (κ × V)) (k : κ) (v : V) : List (κ × V) :=
  if (kvs.any fun kv => decide (kv.1 = k)) = true then kvs.map (fun kv => if kv.1 = k then (kv.1, v) else kv) else kvs ++ [(k, v)]
def dropK (kvs : List (κ × V)) (k : κ) : List (κ × V) := kvs.filter fun kv => decide (kv.1 ≠ k)

theorem valV_pos {p : κ × V} {r : List (κ × V)} {k : κ} (e : p.1 = k) : valV (p :: r) k = some p.2 := by simp [valV, List.find?_cons, e]
theorem valV_neg {p : κ × V} {r : List (κ × V)} {k : κ} (e : ¬ p.1 = k) : valV (p :: r) k = valV r k := by simp [valV, List.find?_cons, e]
theorem valV_any (k : κ) : ∀ kvs : List (κ × V), (kvs.any fun kv => decide (kv.1 = k)) = (valV kvs k).isSome
  | [] => rfl
  | p :: r => by
    rw [List.any_cons]
    by_cases e : p.1 = k
    · simp only [valV_pos e, decide_eq_true e, Bool.true_or, Option.isSome_some]
    · rw [valV_neg e, decide_eq_false e, Bool.false_or]; exact valV_any k r
theorem RelO.isSome_eq {o : Option V} {u : Option Value} (r : RelO o u) : o.isSome = u.isSome := by
  cases o with
  | none => cases u with
    | none => rfl
    | some _ => exact (show False from r).elim
  | some _ => cases u with
    | none => exact (show False from r).elim
    | some _ => rfl
theorem RelO.getD {o : Option V} {u : Option Value} {d : V} {d' : Value} (r : RelO o u) (rd : RelV d d') : RelV (o.getD d) (u.getD d') := by
  cases o with
  | none => cases u with
    | none => exact rd
    | some _ => exact (show False from r).elim
  | some _ => cases u with
    | none => exact (show False from r).elim
    | some _ => exact r

/-- raw tables of the same keys -/
theorem KV.val {kvs : List (κ × V)} {vs : List (κ × Value)} (r : KV kvs vs) (k : κ) : RelO (valV kvs k) (valueAt vs k) := by
  unfold KV at r
  induction r with
  | nil => exact True.intro
  | @cons p q ps qs h t ih =>
    obtain ⟨h1, h2⟩ := h
    by_cases e : p.1 = k
    · have e' : q.1 = k := h1.symm.trans e
      have b : valueAt (q :: qs) k = some q.2 := by simp [valueAt, List.find?_cons, e']
      rw [valV_pos e, b]; exact h2
    · have e' : ¬ q.1 = k := fun z => e (h1.trans z)
      have b : valueAt (q :: qs) k = valueAt qs k := by simp [valueAt, List.find?_cons, e']
      rw [valV_neg e, b]; exact ih
theorem KV.any {kvs : List (κ × V)} {vs : List (κ × Value)} (r : KV kvs vs) (k : κ) : (kvs.any fun kv => decide (kv.1 = k)) = vs.any fun kv => decide (kv.1 = k) := by
  unfold KV at r
  induction r with
  | nil => rfl
  | cons h t ih => rw [List.any_cons, List.any_cons, ih, h.1]
theorem KV.repl {kvs : List (κ × V)} {vs : List (κ × Value)} (r : KV kvs vs) (k : κ) {y : V} {u : Value} (ry : RelV y u) :
    KV (kvs.map fun kv => if kv.1 = k then (kv.1, y) else kv) (vs.map fun kv => if kv.1 = k then (kv.1, u) else kv) := by
  unfold KV at r ⊢
  induction r with
  | nil => exact .nil
  | @cons p q ps qs h t ih =>
    rw [List.map_cons, List.map_cons]
    refine .cons ?_ ih
    obtain ⟨h1, h2⟩ := h
    by_cases e : p.1 = k
    · rw [if_pos e, if_pos (h1.symm.trans e)]; exact ⟨h1, ry⟩
    · rw [if_neg e, if_neg (fun z => e (h1.trans z))]; exact ⟨h1, h2⟩
theorem KV.put {kvs : List (κ × V)} {vs : List (κ × Value)} (r : KV kvs vs) (k : κ) {y : V} {u : Value} (ry : RelV y u) : KV (putK kvs k y) (stored vs k u) := by
  unfold putK stored
  rw [r.any k]
  by_cases e : (vs.any fun kv => decide (kv.1 = k)) = true
  · rw [if_pos e, if_pos e]; exact r.repl k ry
  · rw [if_neg e, if_neg e]; exact Paired.snoc r ⟨rfl, ry⟩
theorem KV.drop {kvs : List (κ × V)} {vs : List (κ × Value)} (r : KV kvs vs) (k : κ) : KV (dropK kvs k) (without vs k) := by
  unfold KV at r ⊢
  unfold dropK without
  induction r with
  | nil => exact .nil
  | @cons p q ps qs h t ih =>
    obtain ⟨h1, h2⟩ := h
    rw [List.filter_cons, List.filter_cons]
    by_cases e : p.1 = k
    · have a : ¬ decide (p.1 ≠ k) = true := by simp [e]
      have b : ¬ decide (q.1 ≠ k) = true := by simp [h1.symm.trans e]
      rw [if_neg a, if_neg b]; exact ih
    · have e' : ¬ q.1 = k := fun z => e (h1.trans z)
      have a : decide (p.1 ≠ k) = true := by simp [e]
      have b : decide (q.1 ≠ k) = true := by simp [e']
      rw [if_pos a, if_pos b]; exact .cons ⟨h1, h2⟩ ih
theorem KV.keys {kvs : List (κ × V)} {vs : List (κ × Value)} (r : KV kvs vs) : kvs.map (·.1) = vs.map (·.1) := by
  unfold KV at r
  induction r with
  | nil => rfl
  | cons h t ih => rw [List.map_cons, List.map_cons, ih, h.1]
theorem KV.length {kvs : List (κ × V)} {vs : List (κ × Value)} (r : KV kvs vs) : kvs.length = vs.length := Paired.length r
end


/-! ### a tracked dict, its keys ints and texts or tuples of these -/
/-- raw entries of a dict with tuple keys -/
abbrev KT (H : Hp) : List (List Key × V) → List (List Key × Addr × Value) → Prop := Paired fun p q => p.1 = q.1 ∧ H q.2.1 = some (.tup (p.1.map kV)) ∧ RelV p.2 q.2.2
theorem KT.val {H : Hp} {kvs : List (List Key × V)} {xs : List (List Key × Addr × Value)} (r : KT H kvs xs) (k : List Key) : RelO (valV kvs k) ((atKey xs k).map (·.2)) := by
  induction r with
  | nil => exact True.intro
  | @cons p q ps qs h t ih =>
    obtain ⟨h1, _, h2⟩ := h
    by_cases e : p.1 = k
    · have e' : q.1 = k := h1.symm.trans e
      have b : atKey (q :: qs) k = some q.2 := by simp [atKey, List.find?_cons, e']
      rw [valV_pos e, b]; exact h2
    · have e' : ¬ q.1 = k := fun z => e (h1.trans z)
      have b : atKey (q :: qs) k = atKey qs k := by simp [atKey, List.find?_cons, e']
      rw [valV_neg e, b]; exact ih
theorem KT.repl {H : Hp} {kvs : List (List Key × V)} {xs : List (List Key × Addr × Value)} (r : KT H kvs xs) (k : List Key) {y : V} {u : Value} (ry : RelV y u) :
    KT H (kvs.map fun kv => if kv.1 = k then (kv.1, y) else kv) (xs.map (putAt k u)) := by
  induction r with
  | nil => exact .nil
  | @cons p q ps qs h t ih =>
    rw [List.map_cons, List.map_cons]
    refine .cons ?_ ih
    obtain ⟨h1, h2, h3⟩ := h
    unfold putAt
    by_cases e : p.1 = k
    · rw [if_pos e, if_pos (h1.symm.trans e)]; exact ⟨h1, h2, ry⟩
    · rw [if_neg e, if_neg (fun z => e (h1.trans z))]; exact ⟨h1, h2, h3⟩
theorem KT.put {H : Hp} {kvs : List (List Key × V)} {xs : List (List Key × Addr × Value)} (r : KT H kvs xs) (k : List Key) {b : Addr} {y : V} {u : Value} (hb : H b = some (.tup (k.map kV))) (ry : RelV y u) :
    KT H (putK kvs k y) (storedH xs k b u) := by
  have e : (kvs.any fun kv => decide (kv.1 = k)) = (atKey xs k).isSome := by
    rw [valV_any, (r.val k).isSome_eq, Option.isSome_map]
  unfold putK storedH
  rw [e]
  by_cases q : (atKey xs k).isSome = true
  · rw [if_pos q, if_pos q]; exact r.repl k ry
  · rw [if_neg q, if_neg q]; exact Paired.snoc r ⟨rfl, hb, ry⟩
theorem KT.keeps {H H' : Hp} {kvs : List (List Key × V)} {xs : List (List Key × Addr × Value)} (r : KT H kvs xs) (ht : ∀ b ys, H b = some (.tup ys) → H' b = some (.tup ys)) : KT H' kvs xs :=
  Paired.mapP r fun _ _ z => ⟨z.1, ht _ _ z.2.1, z.2.2⟩

section
variable {P : Program} {w : World} {H : Hp} {h : Heap} {a : Addr}
end

/-- what the dict at a holds at the key y -/
def DGet (H : Hp) (a : Addr) (y : V) (r : Option V) : Prop :=
  (∃ kvs k, Rd H a (.dK kvs) ∧ y = kV k ∧ r = valV kvs k) ∨ ∃ kvs k b, Rd H a (.dT kvs) ∧ y = .ref b ∧ H b = some (.tup (k.map kV)) ∧ r = valV kvs k
/-- the heap behind a[y] = v -/
def DPut (H : Hp) (a : Addr) (y v : V) (H' : Hp) : Prop :=
  (∃ kvs k, H a = some (.dK kvs) ∧ y = kV k ∧ kvs.length < sizeLine ∧ H' = upd H a (.dK (putK kvs k v))) ∨
  ∃ kvs k b, H a = some (.dT kvs) ∧ y = .ref b ∧ H b = some (.tup (k.map kV)) ∧ kvs.length < sizeLine ∧ H' = upd H a (.dT (putK kvs k v))
theorem DGet.k {H : Hp} {a : Addr} {kvs : List (Key × V)} {k : Key} (e : H a = some (.dK kvs)) : DGet H a (kV k) (valV kvs k) := .inl ⟨kvs, k, .inl e, rfl, rfl⟩
theorem DGet.t {H : Hp} {a b : Addr} {kvs : List (List Key × V)} {k : List Key} (e : H a = some (.dT kvs)) (eb : H b = some (.tup (k.map kV))) : DGet H a (.ref b) (valV kvs k) := .inr ⟨kvs, k, b, .inl e, rfl, eb, rfl⟩
theorem DPut.k {H : Hp} {a : Addr} {kvs : List (Key × V)} {k : Key} {v : V} (e : H a = some (.dK kvs)) (hl : kvs.length < sizeLine) : DPut H a (kV k) v (upd H a (.dK (putK kvs k v))) := .inl ⟨kvs, k, e, rfl, hl, rfl⟩
theorem DPut.t {H : Hp} {a b : Addr} {kvs : List (List Key × V)} {k : List Key} {v : V} (e : H a = some (.dT kvs)) (eb : H b = some (.tup (k.map kV))) (hl : kvs.length < sizeLine) :
    DPut H a (.ref b) v (upd H a (.dT (putK kvs k v))) := .inr ⟨kvs, k, b, e, rfl, eb, hl, rfl⟩


section
variable {X : Cx} {pins : List (Addr × Obj)} {σ : St} {H : Hp} {s : Shared} {a : Addr} {y v : V} {u r : Value} {o : Option V} {A : Around} {E : Value → Shared → Prop}

end

section
variable {X : Cx} {pins : List (Addr × Obj)} {σ : St} {H : Hp} {s : Shared} {a : Addr} {kvs : List (Key × V)} {k : Key} {u : Value} {A : Around} {E : Value → Shared → Prop}
end


/-! ### readings and rules -/
/-- d[y] -/
def tDGet (td ty : TE) : TE := fun σ H Q => td σ H fun x H1 => ty σ H1 fun y H2 => ∃ a v, x = .ref a ∧ DGet H2 a y (some v) ∧ Q v H2
section
variable {X : Cx} {o i e value : Expr} {pos pos' tpos : Pos} {td ty tv : TE}
end


/-! ### displays -/
/-- {}, to be a dict of the kind that is wanted -/
def tDNewK : TE := fun _ H Q => ∀ p, H p = none → Q (.ref p) (upd H p (.dK []))
def tDNewT : TE := fun _ H Q => ∀ p, H p = none → Q (.ref p) (upd H p (.dT []))
section
variable {X : Cx} {pos : Pos}
end

/-- the pairs of a display, from the left -/
def tPairs : List (TE × TE) → St → Hp → (List (V × V) → Hp → Prop) → Prop
  | [], _, H, Q => Q [] H
  | (tk, tv) :: r, σ, H, Q => tk σ H fun x H1 => tv σ H1 fun y H2 => tPairs r σ H2 fun ps H3 => Q ((x, y) :: ps) H3
def mergeK (kvs more : List (Key × V)) : List (Key × V) := more.foldl (fun acc kv => putK acc kv.1 kv.2) kvs
/-- {k: v, ..} with keys ints and texts; the new dict stands empty while the pairs are made -/
def tDisp (trs : List (TE × TE)) : TE := fun σ H Q => ∀ p, H p = none → tPairs trs σ (upd H p (.dK [])) fun ps H2 => H2 p = some (.dK []) ∧ ∃ kvs : List (Key × V), ps = kvs.map (fun kv => (kV kv.1, kv.2)) ∧ kvs.length ≤ 15 ∧ Q (.ref p) (upd H2 p (.dK (mergeK [] kvs)))
/-! ### methods -/
/-- a is a dict, whatever its keys -/
def IsD (H : Hp) (a : Addr) : Prop := (∃ kvs, Rd H a (.dK kvs)) ∨ ∃ kvs, Rd H a (.dT kvs)
section
variable {X : Cx} {pins : List (Addr × Obj)} {σ : St} {H : Hp} {s : Shared} {a : Addr} {y d : V} {u r : Value} {o : Option V} {A : Around} {E : Value → Shared → Prop}
end

def tDGet1 (td ty : TE) : TE := fun σ H Q => td σ H fun x H1 => ∃ a, x = .ref a ∧ IsD H1 a ∧ ty σ H1 fun y H2 => ∃ o, DGet H2 a y o ∧ Q (o.getD .non) H2
def tDGet2 (td ty tx : TE) : TE := fun σ H Q => td σ H fun x H1 => ∃ a, x = .ref a ∧ IsD H1 a ∧ ty σ H1 fun y H2 => tx σ H2 fun z H3 => ∃ o, DGet H3 a y o ∧ Q (o.getD z) H3
section
variable {X : Cx} {o e f : Expr} {apos cpos : Pos} {td ty tx : TE}
end

/-! ### dict(d): a copy -/
section
variable {X : Cx} {pins : List (Addr × Obj)} {σ : St} {H : Hp} {s : Shared} {a : Addr} {kvs : List (Key × V)} {A : Around} {E : Value → Shared → Prop}
end


section
variable {X : Cx} {pins : List (Addr × Obj)} {σ : St} {H : Hp} {s : Shared} {a : Addr} {y : V} {u : Value} {A : Around} {E : Value → Shared → Prop}
end
end L2

namespace L2
open PySem PySem.Spec PyProof.Rows
section
variable {X : Cx}
end
/-! ### a dict's pairs: keys that differ -/
section
variable {κ : Type} [DecidableEq κ]
end
end L2


set_option Elab.async false
set_option maxRecDepth 100000
/-! A LIST COMPREHENSION with one clause, over the hand layer: its block is a context of its own, the list that grows is pinned. -/
namespace L2
open PySem PySem.Spec PyProof.Rows

/-! ### names of the block -/
def okOut (ns : List (Str × NameKind)) (y n : Str) : Bool := match ns.lookup y with
  | some .free => y == n
  | some .local => false
  | some .cell => false
  | _ => true
def okOuts (ns : List (Str × NameKind)) : List Str → List Str → Bool
  | [], [] => true
  | y :: ys, n :: ms => okOut ns y n && okOuts ns ys ms
  | _, _ => false
def okFree (ns : List (Str × NameKind)) (env : Env) : Bool := ns.all fun y => !(y.2 == .free) || (env.kindOf y.1 == some .cell || env.kindOf y.1 == some .free)
def okOwn (ns : List (Str × NameKind)) : Bool := ns.all fun y => !(y.2 == .cell) && (!(y.2 == .local) || ns.lookup y.1 == some .local)

theorem okOuts_get {ns : List (Str × NameKind)} : ∀ {N2 N : List Str} {i : Nat} {y : Str}, okOuts ns N2 N = true → N2[i]? = some y → okOut ns y y = true ∧ (ns.lookup y = some .free → N[i]? = some y)
  | [], [], _, _, _, e => by simp at e
  | y' :: ys, n :: ms, 0, y, h, e => by
    simp at e; subst e
    unfold okOuts at h
    rw [Bool.and_eq_true] at h
    refine ⟨?_, fun hf => ?_⟩
    · have h1 := h.1
      unfold okOut at h1 ⊢
      split at h1 <;> first | rfl | (exact absurd h1 Bool.false_ne_true) | (exact beq_self_eq_true _)
    · have h1 := h.1
      unfold okOut at h1
      rw [hf] at h1
      have e : y' = n := eq_of_beq h1
      simp [e]
  | y' :: ys, n :: ms, i + 1, y, h, e => by
    unfold okOuts at h
    rw [Bool.and_eq_true] at h
    obtain ⟨h1, h2⟩ := okOuts_get (i := i) (y := y) h.2 (by simpa using e)
    exact ⟨h1, fun hf => by simpa using h2 hf⟩
  | [], _ :: _, _, _, h, _ => by cases h
  | _ :: _, [], _, _, h, _ => by cases h

theorem okFree_has {ns : List (Str × NameKind)} {env : Env} (h : okFree ns env = true) {y : Str × NameKind} (hy : y ∈ ns) (hf : y.2 = .free) : env.kindOf y.1 = some .cell ∨ env.kindOf y.1 = some .free := by
  have q := List.all_eq_true.mp h y hy
  rw [hf] at q
  simpa using q
theorem okOwn_cell {ns : List (Str × NameKind)} (h : okOwn ns = true) : ∀ y ∈ ns, y.2 ≠ .cell := fun y hy e => by
  have q := List.all_eq_true.mp h y hy
  rw [e] at q
  simp at q
theorem okOwn_local {ns : List (Str × NameKind)} (h : okOwn ns = true) : ∀ y ∈ ns, y.2 = .local → ns.lookup y.1 = some .local := fun y hy e => by
  have q := List.all_eq_true.mp h y hy
  rw [e] at q
  simpa using q

theorem lookup_relabel {env : Env} {x : Str} : ∀ {ns : List (Str × NameKind)}, (ns.map fun (n, k) => if (k == NameKind.free && env.scope.kind == .function && env.kindOf n == some .cell) then (n, NameKind.cell) else (n, k)).lookup x =
    (ns.lookup x).map fun k => if (k == NameKind.free && env.scope.kind == .function && env.kindOf x == some .cell) then NameKind.cell else k
  | [] => rfl
  | (n, k) :: r => by
    have ih := @lookup_relabel env x r
    show List.lookup x ((if (k == NameKind.free && env.scope.kind == .function && env.kindOf n == some .cell) = true then (n, NameKind.cell) else (n, k)) :: _) = _
    cases hx : x == n with
    | true =>
      have e : x = n := eq_of_beq hx
      subst e
      simp only [List.lookup_cons, beq_self_eq_true]
      by_cases hc : (k == NameKind.free && env.scope.kind == .function && env.kindOf x == some .cell) = true
      · rw [if_pos hc]; simp only [List.lookup_cons, beq_self_eq_true, Option.map_some]; rw [if_pos hc]
      · rw [if_neg hc]; simp only [List.lookup_cons, beq_self_eq_true, Option.map_some]; rw [if_neg hc]
    | false =>
      simp only [List.lookup_cons, hx]
      by_cases hc : (k == NameKind.free && env.scope.kind == .function && env.kindOf n == some .cell) = true
      · rw [if_pos hc]; simp only [List.lookup_cons, hx]; exact ih
      · rw [if_neg hc]; simp only [List.lookup_cons, hx]; exact ih

/-! ### the closure -/
theorem closure_of {scope : Scope} {env : Env} (h : ∀ y ∈ scope.names, y.2 = .free → ∃ c, env.cells.lookup y.1 = some c) :
    ∃ cl, closureFor scope env = pure cl ∧ (∀ x c, cl.lookup x = some c → env.cells.lookup x = some c) ∧ (∀ y ∈ scope.names, y.2 = .free → ∃ c, cl.lookup y.1 = some c) := by
  have all : ∀ (ns : List (Str × NameKind)) (cs : List (Str × Addr)), (∀ y ∈ ns, y.2 = .free → ∃ c, env.cells.lookup y.1 = some c) → (∀ x c, cs.lookup x = some c → env.cells.lookup x = some c) →
      ∃ cl, (forIn ns cs fun x r => (if (x.2 == NameKind.free) = true then do let a ← cellOf env x.1; pure (ForInStep.yield ((x.1, a) :: r)) else pure (ForInStep.yield r) : Sem (ForInStep (List (Str × Addr))))) = pure cl ∧
        (∀ x c, cl.lookup x = some c → env.cells.lookup x = some c) ∧ (∀ x, (cs.lookup x).isSome = true → (cl.lookup x).isSome = true) ∧ (∀ y ∈ ns, y.2 = .free → ∃ c, cl.lookup y.1 = some c) := by
    intro ns
    induction ns with
    | nil => intro cs _ hc; exact ⟨cs, rfl, hc, fun _ z => z, fun _ z => nomatch z⟩
    | cons y r ih =>
      intro cs hh hc
      have hr : ∀ z ∈ r, z.2 = .free → ∃ c, env.cells.lookup z.1 = some c := fun z hz => hh z (List.mem_cons_of_mem _ hz)
      by_cases hf : y.2 = .free
      · obtain ⟨c, ec⟩ := hh y List.mem_cons_self hf
        have hc' : ∀ x d, ((y.1, c) :: cs).lookup x = some d → env.cells.lookup x = some d := fun x d e => by
          rw [List.lookup_cons] at e
          cases hx : x == y.1 with
          | true =>
            rw [hx] at e
            have e2 : x = y.1 := eq_of_beq hx
            cases e
            rw [e2]; exact ec
          | false =>
            rw [hx] at e
            exact hc x d e
        obtain ⟨cl, e1, e2, e3, e4⟩ := ih ((y.1, c) :: cs) hr hc'
        refine ⟨cl, ?_, e2, fun x hx => e3 x ?_, fun z hz hzf => ?_⟩
        · rw [List.forIn_cons]
          have ek : (y.2 == NameKind.free) = true := by rw [hf]; rfl
          simp only [ek, if_true, cellOf, ec, pure_bind]
          exact e1
        · rw [List.lookup_cons]; split <;> first | rfl | exact hx
        · rcases List.mem_cons.mp hz with rfl | hz
          · have := e3 z.1 (by rw [List.lookup_cons, beq_self_eq_true]; rfl)
            exact Option.isSome_iff_exists.mp this
          · exact e4 z hz hzf
      · obtain ⟨cl, e1, e2, e3, e4⟩ := ih cs hr hc
        refine ⟨cl, ?_, e2, e3, fun z hz hzf => ?_⟩
        · rw [List.forIn_cons]
          have ek : (y.2 == NameKind.free) = false := by simpa using hf
          simp only [ek, Bool.false_eq_true, if_false, pure_bind]
          exact e1
        · rcases List.mem_cons.mp hz with rfl | hz
          · exact absurd hzf hf
          · exact e4 z hz hzf
  obtain ⟨cl, e1, e2, _, e4⟩ := all scope.names [] h (fun _ _ z => by cases z)
  refine ⟨cl, ?_, e2, e4⟩
  unfold closureFor
  first
    | (rw [show (forIn scope.names ([] : List (Str × Addr)) _ : Sem (List (Str × Addr))) = pure cl from e1]; rfl)
    | (simp only [bind_pure]; exact e1)
    | (show (forIn scope.names [] _ >>= _) = _; exact (congrArg (fun t => t >>= fun cs => pure cs) e1))

/-! ### the block's context -/
/-- what of it is known only when it runs -/
structure Dyn where
  cl : List (Str × Addr)
  C : Addr
  s₀ : Shared
  H₀ : Hp
  fp : List Addr
abbrev compCx (X : Cx) (scope : Scope) (N' : List Str) (d : Dyn) : Cx where
  prog := X.prog
  w := X.w
  K := X.K
  mg := X.mg
  base := X.base
  A := X.A
  N := N'
  s₀ := d.s₀
  H₀ := d.H₀
  env := compEnvC scope d.cl d.C X.env
  outer := X.stack
  stack := X.stack
  ex := d.fp
  fn := fun _ => false
  calm := true
  pn := []
  xe := fun _ _ => False

/-- a turn of the loop, the step ahead of the store kept -/
theorem compLoop_go {prog : Program} {w : World} {A : Around} {R : Result → Shared → Prop} {s : Shared} {elt target iter : Expr} {ifs : List Expr} {scope : Scope} {pos : Pos} {it acc : Value} {env : Env} (I : Nat → Shared → Prop)
    (turn : ∀ n s, I n s → wpAny (model prog w) A (pyNext it) (fun r s₁ => match r with
      | none => R (.ok .next) s₁
      | some v => wpAny (model prog w) A (letOwnedTupleGo target it v) (fun _ s₁' => wpAny (model prog w) A (assign target env v) (fun _ s₂ =>
          wpAny (model prog w) A (forIn ifs true fun c r => if r = true then do let ok ← isTrue c env (eval c env); pure (ForInStep.yield ok) else pure (ForInStep.yield r)) (fun ok s₃ =>
            if ok = true then wpAny (model prog w) A (eval elt env) (fun x s₄ =>
              wpAny (model prog w) A (call (.builtin "list.append") [acc, x]) (fun _ s₅ => ∃ m, m < n ∧ I m s₅) (fun _ _ => False) s₄) (fun _ _ => False) s₃
            else ∃ m, m < n ∧ I m s₃) (fun _ _ => False) s₂) (fun _ _ => False) s₁') (fun _ _ => False) s₁) (fun _ _ => False) s)
    (n : Nat) (h : I n s) :
    codeAny (model prog w) A (.compLoop (.ListComp elt [⟨target, iter, ifs, 0⟩] scope pos) 0 it acc env) R s := by
  refine codeAny_loop rfl I (fun n s hI => ?_) n h
  show wpAny _ A ((compTurn (.ListComp elt [⟨target, iter, ifs, 0⟩] scope pos) 0 it acc env).onRaise (fun x => do noteFrame x env; theTreesLotGoes x)) _ _ s
  refine wpAny_noted ?_
  rw [compTurn_list]
  refine wpAny_bind (wpAny_standAt (wpAny_bind (wpAny_mono (turn n s hI) (fun r s₁ h₁ => ?_) fun _ _ f => f.elim)))
  cases r with
  | none => exact wpAny_pure h₁
  | some v =>
    refine wpAny_bind (wpAny_mono h₁ (fun _ s₁' h₁' => ?_) fun _ _ f => f.elim)
    refine wpAny_bind (wpAny_mono h₁' (fun _ s₂ h₂ => wpAny_bind (wpAny_mono h₂ (fun ok s₃ h₃ => ?_) fun _ _ f => f.elim)) fun _ _ f => f.elim)
    cases ok with
    | false => exact wpAny_pure ⟨rfl, h₃⟩
    | true =>
      exact wpAny_bind (wpAny_bind (wpAny_mono h₃ (fun x s₄ h₄ => wpAny_bind (wpAny_mono h₄ (fun _ s₅ h₅ => wpAny_pure (wpAny_pure ⟨rfl, h₅⟩)) fun _ _ f => f.elim)) fun _ _ f => f.elim))

/-! ### tests -/
def PTs (X : Cx) (ifs : List Expr) (t : TT) : Prop :=
  ∀ (pins : List (Addr × Obj)) (s : Shared) (σ : St) (H : Hp) (Q : Bool → Hp → Prop), Inv X pins σ H s → t σ H Q →
    wpAny (model X.prog X.w) X.A (forIn ifs true fun c r => if r = true then do let ok ← isTrue c X.env (eval c X.env); pure (ForInStep.yield ok) else pure (ForInStep.yield r)) (TP X pins σ Q) X.xe s
def tAll : TT := fun _ H Q => Q true H
theorem pts_nil {X : Cx} : PTs X [] tAll := fun _ _ _ H _ I h => wpAny_tests_nil ⟨H, I, h⟩
theorem pts_one {X : Cx} {c : Expr} {t : TT} (h : PT X c t) : PTs X [c] t := fun pins s σ H Q I q => wpAny_tests_one (h pins s σ H Q I q)

/-- the walk of a comprehension, by a word W of the turn, a measure, what stands in the list, the heap -/
def CompW (J : It) (σ : St) (k : Nat) (g : TG) (tt : TT) (te : TE) (H1 : Hp) (Fin : List V → Hp → Prop) : Prop :=
  ∃ W : Nat → Nat → List V → Hp → Prop, (∃ m, W 0 m [] H1) ∧ ∀ i m ys H, W i m ys H → ys.length ≤ sizeLine ∧
    ((J.stop i H ∧ Fin ys H) ∨ (J.go i H ∧ ∃ N : List V → Hp → Prop, (∀ ys' H', N ys' H' → ∃ m', m' < m ∧ W (i + 1) m' ys' H') ∧ ∀ x H', J.yld i H x H' → g x (List.replicate k none ++ σ) H' fun σ2 H2 => σ2.drop k = σ ∧
      tt σ2 H2 fun b H3 => if b = true then te σ2 H3 fun v H4 => N (ys ++ [v]) H4 else N ys H3))

abbrev lobj (its : List Value) : Obj := { cls := .type "list", data := .seq its.toArray its.length }

section
variable {X : Cx} {pins : List (Addr × Obj)} {σ : St} {H2 : Hp} {s₂ : Shared} {scope : Scope} {ts N2 : List Str} {cl : List (Str × Addr)} {C D : Addr} {fp : List Addr}

/-- the block's context is a good one -/
theorem comp_ok (I2 : Inv X pins σ H2 s₂) (hc : X.calm = true) (f2 : ∀ b ∈ fp, FpOk X pins H2 b ∧ b < s₂.heap.objs.size) (hkind : scope.kind = .function) (hown : okOwn scope.names = true) (hfree : okFree scope.names X.env = true)
    (hcl1 : ∀ x c, cl.lookup x = some c → X.env.cells.lookup x = some c) (hcl2 : ∀ y ∈ scope.names, y.2 = .free → ∃ c, cl.lookup y.1 = some c) (hC : s₂.heap.objs.size ≤ C) :
    (compCx X scope (ts ++ N2) ⟨cl, C, s₂, H2, fp⟩).Ok := by
  refine ⟨I2.ok.mod, hkind, I2.ok.glob, I2.ok.blt, hC, fun x y c e1 e2 => I2.ok.inj x y c (hcl1 _ _ e1) (hcl1 _ _ e2), fun x hx => ?_, fun x c z _ => absurd (show false = true from z) Bool.false_ne_true, fun _ => I2.ok.hd hc, I2.ok.frames, .inl rfl, fun b hb => ?_, I2.bs, Nat.le_trans I2.ok.bsz I2.sz, fun b o e hb => ?_, fun b hb hfs => ?_, I2.stack, I2.stkFree⟩
  · have hx' : (relabel scope X.env).names.lookup x = some .cell ∨ (relabel scope X.env).names.lookup x = some .free := hx
    have e0 : (relabel scope X.env).names.lookup x = _ := lookup_relabel (env := X.env) (x := x) (ns := scope.names)
    rw [e0] at hx'
    cases q : scope.names.lookup x with
    | none => rw [q] at hx'; simp at hx'
    | some k =>
      rw [q] at hx'
      simp only [Option.map_some, Option.some.injEq] at hx'
      have hm : (x, k) ∈ scope.names := PySem.mem_of_lookup q
      have hk : k = .free := by
        have nc := okOwn_cell hown _ hm
        split at hx'
        · rename_i hcond
          simp only [Bool.and_eq_true] at hcond
          exact eq_of_beq hcond.1.1
        · rcases hx' with z | z
          · exact absurd z nc
          · exact z
      exact hcl2 _ hm hk
  · obtain ⟨⟨f0, f1, f3, f4, f5, f6⟩, hlt⟩ := f2 b hb
    exact ⟨Nat.ne_of_lt (Nat.lt_of_lt_of_le hlt hC), fun x c e => f5 x c (hcl1 x c e)⟩
  · obtain ⟨⟨f0, f1, f3, f4, f5, f6⟩, hlt⟩ := f2 b hb
    rcases f4 with z | z
    · exact I2.ok.noex b o e z
    · exact absurd (Nat.lt_of_lt_of_le (Heap.lt_size e) (Nat.le_trans I2.ok.bsz z)) (Nat.lt_irrefl _)
  · obtain ⟨⟨f0, f1, f3, f4, f5, f6⟩, hlt⟩ := f2 b hb
    rcases List.mem_cons.mp (I2.stkSub b hfs) with z | z
    · exact f1 z
    · exact f3 z

/-- the entry -/
theorem comp_start (I2 : Inv X pins σ H2 s₂) (hc : X.calm = true) (f2 : ∀ b ∈ fp, FpOk X pins H2 b ∧ b < s₂.heap.objs.size) (hkind : scope.kind = .function) (hown : okOwn scope.names = true) (hfree : okFree scope.names X.env = true) (hout : okOuts scope.names N2 X.N = true)
    (hcl1 : ∀ x c, cl.lookup x = some c → X.env.cells.lookup x = some c) (hcl2 : ∀ y ∈ scope.names, y.2 = .free → ∃ c, cl.lookup y.1 = some c) (hC : s₂.heap.objs.size ≤ C) (hDC : D ≠ C) (hD : s₂.heap.objs.size ≤ D)
    {h₁ : Heap} {tk : Nat} {m : Str → Option Value} (hn : h₁.Ns C m) (old : ∀ b o, s₂.heap.get? b = some o → h₁.get? b = some o) (hacc : h₁.get? D = some (lobj [])) :
    Inv (compCx X scope (ts ++ N2) ⟨cl, C, s₂, H2, fp⟩) [(D, lobj [])] (List.replicate ts.length none ++ σ) H2 { s₂ with heap := h₁, toks := tk } := by
  have ok := comp_ok (ts := ts) (N2 := N2) I2 hc f2 hkind hown hfree hcl1 hcl2 hC
  have hlN : ∀ {a b : List Str}, okOuts scope.names a b = true → a.length = b.length := by
    intro a
    induction a with
    | nil => intro b h; cases b with | nil => rfl | cons _ _ => cases h
    | cons y ys ih =>
      intro b h
      cases b with
      | nil => cases h
      | cons n ms =>
        unfold okOuts at h
        rw [Bool.and_eq_true] at h
        rw [List.length_cons, List.length_cons, ih h.2]
  refine ⟨ok, rfl, I2.bare, Un.kept old, ⟨m, hn, fun i x v e1 e2 e3 => ?_⟩, fun x c e => ?_, ?_, fun x c e => I2.freeC x c (hcl1 x c e), fun p hp => ?_, I2.hok.kept old, ?_⟩
  · by_cases hi : i < ts.length
    · rw [List.getElem?_append_left (by simpa using hi), List.getElem?_replicate] at e2
      split at e2 <;> cases e2
    · have hi' : ts.length ≤ i := Nat.not_lt.mp hi
      rw [List.getElem?_append_right (by simpa using hi')] at e2
      rw [List.length_replicate] at e2
      have e1' : (ts ++ N2)[i]? = some x := e1
      rw [List.getElem?_append_right hi'] at e1'
      obtain ⟨k1, k2⟩ := okOuts_get hout e1'
      have e0 : (relabel scope X.env).names.lookup x = _ := lookup_relabel (env := X.env) (x := x) (ns := scope.names)
      have e3' : (relabel scope X.env).names.lookup x = some .local ∨ (relabel scope X.env).names.lookup x = some .cell ∨ (relabel scope X.env).names.lookup x = some .free := e3
      rw [e0] at e3'
      cases q : scope.names.lookup x with
      | none => rw [q] at e3'; simp at e3'
      | some k =>
        have hm : (x, k) ∈ scope.names := PySem.mem_of_lookup q
        have hk : k = .free := by
          unfold okOut at k1
          rw [q] at k1 e3'
          cases k with
          | free => rfl
          | «local» => cases k1
          | cell => cases k1
          | _ => exfalso; revert e3'; simp
        subst hk
        obtain ⟨mo, hmo, hl⟩ := I2.loc
        have hkv := okFree_has hfree hm rfl
        have vis : Vis X.env.scope x := hkv.elim (fun z => .inr (.inl z)) fun z => .inr (.inr z)
        obtain ⟨u, r, l⟩ := hl _ x v (k2 q) e2 vis
        refine ⟨u, r, .inr ⟨?_, ?_⟩⟩
        · show (relabel scope X.env).names.lookup x = some .cell ∨ (relabel scope X.env).names.lookup x = some .free
          rw [e0, q]
          simp only [Option.map_some, Option.some.injEq]
          split
          · exact .inl rfl
          · exact .inr rfl
        · rcases l with ⟨kl, _⟩ | ⟨_, c, ec, z⟩
          · exfalso
            rcases hkv with z | z <;> (rw [kl] at z; cases z)
          · obtain ⟨c', ec'⟩ := hcl2 _ hm rfl
            have := hcl1 _ _ ec'
            rw [ec] at this
            cases this
            obtain ⟨o, ho, hd⟩ := z
            exact ⟨c, ec', o, old _ _ ho, hd⟩
  · obtain ⟨v, o, ho, hd⟩ := I2.cell x c (hcl1 x c e)
    exact ⟨v, o, old _ _ ho, hd⟩
  · exact I2.hok.fresh hC
  · have e : p = (D, lobj []) := by simpa using hp
    subst e
    refine ⟨hacc, I2.hok.fresh hD, hDC, fun z => ?_, fun v z => by cases z⟩
    rcases List.mem_cons.mp (I2.stkSub D z) with z | z
    · exact absurd (Nat.lt_of_lt_of_le I2.lt (by rw [← z]; exact hD)) (Nat.lt_irrefl _)
    · exact I2.nofs hD z
  · show (List.replicate ts.length none ++ σ).length = (ts ++ N2).length
    rw [List.length_append, List.length_append, List.length_replicate, I2.len, hlN hout]

/-- the end: the list is tracked, the block's context goes -/
theorem comp_end (I2 : Inv X pins σ H2 s₂) (f2 : ∀ b ∈ fp, FpOk X pins H2 b) (hD : s₂.heap.objs.size ≤ D) {σ' : St} {H' : Hp} {s' : Shared} {its : List Value} {ys : List V} {pl : List (Addr × Obj)}
    (J : Inv (compCx X scope (ts ++ N2) ⟨cl, C, s₂, H2, fp⟩) pl σ' H' s') (hp : s'.heap.get? D = some (lobj its)) (hn : H' D = none) (hv : Vals ys its) (hz : ys.length ≤ sizeLine) : Inv X pins σ (upd H' D (.lst ys)) s' := by
  have neD : ∀ b o, s₂.heap.get? b = some o → b ≠ D := fun b o e => Nat.ne_of_lt (Nat.lt_of_lt_of_le (Heap.lt_size e) hD)
  have neH : ∀ b o, H2 b = some o → b ≠ D := fun b o e => Nat.ne_of_lt (Nat.lt_of_lt_of_le (I2.hok.lt e) hD)
  have u := J.base
  have un : Un (frs X.stack) fp H2 (upd H' D (.lst ys)) s₂.heap s'.heap :=
    ⟨u.keep, u.slot, fun b o e n hx => by rw [upd_ne (neD b o e)]; exact u.free b o e n hx, u.there, fun b xs e => by rw [upd_ne (neH b _ e)]; exact u.tups b xs e, fun b o v e => by rw [upd_ne (neH b _ e)]; exact u.frzs b o v e,
      fun b ps e => by rw [upd_ne (neH b _ e)]; exact u.tbls b ps e⟩
  have hok : HOk X.prog X.w (upd H' D (.lst ys)) s'.heap := fun b o e => by
    by_cases hb : b = D
    · subst hb
      rw [upd_same] at e
      cases e
      exact ⟨hz, its, its.length, hv, hp⟩
    · rw [upd_ne hb] at e
      exact (J.hok b o e).stay (fun c v _ q => q) (fun c q => by rw [upd_ne (ne_of_none q hn)]; exact q) fun c xs q => by rw [upd_ne (ne_of_none q hn)]; exact q
  exact I2.call' (ch := fp) J.os un hok J.bare fun b hb => by
    obtain ⟨f0, f1, f3, f4, f5, f6⟩ := f2 b hb
    exact ⟨f4, f1, f5, f6⟩

/-- the whole block -/
theorem comp_block {E : Value → Shared → Prop} {tg elt iter : Expr} {ifs : List Expr} {pos : Pos} {it : Addr} {tn : Nat → Heap → Prop} {J : It} {g : Dyn → TG} {tt : Dyn → TT} {te : Dyn → TE} {RR : Value → Addr → Result → Shared → Prop} {Fin : List V → Hp → Prop}
    (I2 : Inv X pins σ H2 s₂) (hc : X.calm = true) (T : Turn X.prog X.w X.K tg J fp it tn) (st : tn 0 s₂.heap) (f2 : ∀ b ∈ fp, FpOk X pins H2 b) (hkind : scope.kind = .function) (hown : okOwn scope.names = true) (hfree : okFree scope.names X.env = true) (hout : okOuts scope.names N2 X.N = true)
    (hcl1 : ∀ x c, cl.lookup x = some c → X.env.cells.lookup x = some c) (hcl2 : ∀ y ∈ scope.names, y.2 = .free → ∃ c, cl.lookup y.1 = some c)
    (hg : ∀ d, PG (compCx X scope (ts ++ N2) d) tg (g d)) (ht : ∀ d, PTs (compCx X scope (ts ++ N2) d) ifs (tt d)) (he : ∀ d, PE (compCx X scope (ts ++ N2) d) elt (te d))
    (hW : ∀ d, CompW J σ ts.length (g d) (tt d) (te d) H2 Fin)
    (hRR : ∀ D C s' H' ys, s₂.heap.objs.size ≤ C → C ≠ D → Inv X pins σ (upd H' D (.lst ys)) s' → H' D = none → H' C = none → (∃ m, s'.heap.Ns C m) → ys.length ≤ sizeLine → Fin ys H' → RR (.ref D) C (.ok .next) s') :
    wpAny (model X.prog X.w) X.A (newList []) (fun acc s₃ => wpAny (model X.prog X.w) X.A (newFunctionEnv scope X.env.globals cl [] X.env.qual none .none (some X.env)) (fun cenv s₄ =>
      codeAny (model X.prog X.w) X.A (.compStart (.ListComp elt [⟨tg, iter, ifs, 0⟩] scope pos) 0 (.ref it) acc { cenv with scope := relabel scope X.env }) (RR acc cenv.locals) s₄) E s₃) E s₂ := by
  refine wpAny_newObj_type (wpAny_newFunctionEnv (okOwn_cell hown) (by intro y hy; simp at hy) (fun h₁ hns₁ hsb₁ => ?_) hkind)
  dsimp only at hns₁ hsb₁ ⊢
  generalize hH2 : s₂.heap.push { cls := .type "list", dict := none, data := .seq ([] : List Value).toArray } = HP at hns₁ hsb₁ ⊢
  have hC : HP.objs.size = s₂.heap.objs.size + 1 := by rw [← hH2, Heap.size_push]
  have hDC : s₂.heap.objs.size ≠ HP.objs.size := by rw [hC]; exact Nat.ne_of_lt (Nat.lt_succ_self _)
  have hCle : s₂.heap.objs.size ≤ HP.objs.size := by rw [hC]; exact Nat.le_succ _
  have below : ∀ b, b < s₂.heap.objs.size → b ≠ HP.objs.size ∧ b ≠ s₂.heap.objs.size := fun b hb => ⟨by rw [hC]; exact Nat.ne_of_lt (Nat.lt_succ_of_lt hb), Nat.ne_of_lt hb⟩
  have old : ∀ b o, s₂.heap.get? b = some o → h₁.get? b = some o := fun b o e => hsb₁.extBut b o (below b (Heap.lt_size e)).1 (Heap.get?_push_of_some _ (hH2 ▸ Heap.get?_push_of_some _ e))
  have hacc : h₁.get? s₂.heap.objs.size = some (lobj []) := hsb₁.extBut _ _ hDC (Heap.get?_push_of_some _ (hH2 ▸ Heap.get?_push_size _ rfl))
  have flt : ∀ b ∈ fp, b < s₂.heap.objs.size := fun b hb => by
    obtain ⟨o, e, _⟩ := T.obj _ _ st b hb
    exact Heap.lt_size e
  generalize hDD : s₂.heap.objs.size = D at *
  generalize hCC : HP.objs.size = C at *
  have hDle : s₂.heap.objs.size ≤ D := Nat.le_of_eq hDD
  have I4 := fun (tk : Nat) => comp_start (ts := ts) (D := D) (C := C) (tk := tk) I2 hc (fun b hb => ⟨f2 b hb, by rw [hDD]; exact flt b hb⟩) hkind hown hfree hout hcl1 hcl2 (by rw [hDD]; exact hCle) hDC hDle hns₁ old hacc
  generalize hd : (⟨cl, C, s₂, H2, fp⟩ : Dyn) = d at *
  obtain ⟨W, ⟨m0, w0⟩, turn⟩ := hW d
  have Xs : ∀ {pl : List (Addr × Obj)} {H' : Hp}, (∀ b ∈ fp, H' b = none) → (∀ p ∈ pl, p.1 = D) → ∀ b ∈ fp, FpOk (compCx X scope (ts ++ N2) d) pl H' b := fun {pl H'} hn hp b hb => by
    subst hd
    obtain ⟨f0, f1, f3, f4, f5, f6⟩ := f2 b hb
    refine ⟨hn b hb, (below b (flt b hb)).1, fun z => ?_, .inl hb, fun x c e => f5 x c (hcl1 x c e), fun p hp' => ?_⟩
    · rcases List.mem_cons.mp (I2.stkSub b z) with z | z
      · exact f1 z
      · exact f3 z
    · rw [hp p (by simpa using hp')]
      exact Ne.symm (below b (flt b hb)).2
  have loop : ∀ s₃ : Shared, s₃ = { s₂ with heap := h₁, toks := s₂.toks + ([] : List (Str × Value)).length } →
      codeAny (model X.prog X.w) X.A (.compLoop (.ListComp elt [⟨tg, iter, ifs, 0⟩] scope pos) 0 (.ref it) (.ref D) (compEnvC scope cl C X.env)) (RR (.ref D) C) s₃ := by
    rintro s₃ rfl
    refine compLoop_go (fun n s' => ∃ i ys H' its, Inv (compCx X scope (ts ++ N2) d) [(D, lobj its)] (List.replicate ts.length none ++ σ) H' s' ∧ tn i s'.heap ∧ (∀ b ∈ fp, H' b = none) ∧ Vals ys its ∧ W i n ys H') ?_ m0
      ⟨0, [], H2, [], I4 _, T.keep _ _ _ st fun b _ o e => old b o e, fun b hb => (f2 b hb).1, .nil, w0⟩
    rintro n s3 ⟨i, ys, H3, its, I3, st3, fr3, hv3, w3⟩
    obtain ⟨hlen, tr⟩ := turn i n ys H3 w3
    have one : ∀ p ∈ [(D, lobj its)], p.1 = D := fun p hp => by
      have e : p = (D, lobj its) := by simpa using hp
      rw [e]
    have eenv : (compCx X scope (ts ++ N2) d).env = compEnvC scope cl C X.env := by subst hd; rfl
    rcases tr with ⟨stop, fin⟩ | ⟨go, N, hN, step⟩
    · refine thn (T.done (compCx X scope (ts ++ N2) d) rfl rfl rfl rfl i _ s3 _ H3 (fun _ _ => False) I3 (Xs fr3 one) st3 stop) fun r s4 ⟨hr, J4⟩ => ?_
      subst hr
      show RR (.ref D) C (.ok .next) s4
      obtain ⟨pe, pn, _⟩ := J4.pin (D, lobj its) (by simp)
      have fC : H3 C = none := by have := J4.free; rw [eenv] at this; exact this
      have nC : ∃ m, s4.heap.Ns C m := by
        obtain ⟨m, z, _⟩ := J4.loc
        rw [eenv] at z
        exact ⟨m, z⟩
      subst hd
      exact hRR D C s4 H3 ys hCle (Ne.symm hDC) (comp_end I2 f2 hDle J4 pe pn hv3 hlen) pn fC nC hlen fin
    · refine thn (T.item (compCx X scope (ts ++ N2) d) rfl rfl rfl rfl i _ s3 _ H3 (fun _ _ => False) I3 (Xs fr3 one) st3 go) fun r s4 ⟨u, hr, h4⟩ => ?_
      subst hr
      refine thn h4 fun _ s5 ⟨x, H5, I5, r5, y5, st5, fr5⟩ => ?_
      have I5' := I5.pinned (Xs fr5 one) (T.obj _ _ st5)
      rw [← eenv]
      refine thn (hg d _ s5 _ H5 x u _ I5' r5 (step x H5 y5)) fun _ s6 ⟨σ6, H6, I6, hdrop, q6⟩ => ?_
      have back : ∀ {ys' : List V} {its' : List Value} {H' : Hp} {s' : Shared} {pl : List (Addr × Obj)}, Inv (compCx X scope (ts ++ N2) d) ([(D, lobj its')] ++ pl) σ6 H' s' → Inv (compCx X scope (ts ++ N2) d) [(D, lobj its')] (List.replicate ts.length none ++ σ) H' s' := fun {ys' its' H' s' pl} I' => by
        have hl : σ6.length = (ts ++ N2).length := I'.len
        refine (I'.pins_of (pins' := [(D, lobj its')]) fun p hp => I'.pin p (List.mem_append_right _ (List.mem_append_left _ hp))).weak ?_ ?_
        · rw [hl]; exact I3.len
        · intro j v e
          by_cases hj : j < ts.length
          · rw [List.getElem?_append_left (by simpa using hj), List.getElem?_replicate] at e
            split at e <;> cases e
          · have hj' : ts.length ≤ j := Nat.not_lt.mp hj
            rw [List.getElem?_append_right (by simpa using hj'), List.length_replicate, ← hdrop, List.getElem?_drop] at e
            rw [show ts.length + (j - ts.length) = j by omega] at e
            exact e
      refine thn (ht d _ s6 σ6 H6 _ I6 q6) fun b s7 ⟨H7, I7, q7⟩ => ?_
      have pinsOf : ∀ {its' : List Value} {H' : Hp} {s' : Shared}, Inv (compCx X scope (ts ++ N2) d) ([(D, lobj its')] ++ pinsAt fp s5.heap) σ6 H' s' → (∀ b ∈ fp, ∀ o, s5.heap.get? b = some o → s'.heap.get? b = some o) ∧ ∀ b ∈ fp, H' b = none := fun {its' H' s'} I' => by
        refine ⟨fun b hb o e => (I'.pin (b, o) (List.mem_append_right _ (List.mem_append_right _ (mem_pinsAt hb e)))).1, fun b hb => ?_⟩
        obtain ⟨o, e, _⟩ := T.obj _ _ st5 b hb
        exact (I'.pin (b, o) (List.mem_append_right _ (List.mem_append_right _ (mem_pinsAt hb e)))).2.1
      cases b with
      | false =>
        have q7' : N ys H7 := by simpa using q7
        obtain ⟨m', hm, w7⟩ := hN _ _ q7'
        obtain ⟨k1, k2⟩ := pinsOf I7
        show ∃ m, m < n ∧ _
        exact ⟨m', hm, i + 1, ys, H7, its, back (ys' := ys) I7, T.keep _ _ _ st5 k1, k2, hv3, w7⟩
      | true =>
        have q7' : te d σ6 H7 fun v H4 => N (ys ++ [v]) H4 := by simpa using q7
        show wpAny _ _ _ _ _ _
        refine thn (he d _ s7 σ6 H7 _ I7 q7') fun y s8 ⟨v, H8, I8, r8, n8⟩ => ?_
        obtain ⟨m', hm, w8⟩ := hN _ _ n8
        obtain ⟨k1, k2⟩ := pinsOf I8
        obtain ⟨pe, pn, pC, pf, pd⟩ := I8.pin (D, lobj its) (by simp)
        have hsz : its.toArray.size ≤ sizeLine := by rw [List.size_toArray, ← hv3.length]; exact hlen
        refine append_at (hsz := hsz) pe fun h9 sb9 e9 => ?_
        have J8 : Inv (compCx X scope (ts ++ N2) d) [] σ6 H8 s8 := I8.pins_of fun p hp => nomatch hp
        have hDs : (compCx X scope (ts ++ N2) d).s₀.heap.objs.size ≤ D := by subst hd; exact hDle
        have J9 : Inv (compCx X scope (ts ++ N2) d) [] σ6 H8 { s8 with heap := h9 } := J8.turned (t' := s8.toks) (it := D) (fun b o hb e => sb9.extBut b o hb e) pn pC (.inr hDs)
          (fun x c e => by
            obtain ⟨v', z⟩ := I3.cell x c e
            subst hd
            obtain ⟨v2, z2⟩ := I2.cell x c (hcl1 x c e)
            exact Nat.ne_of_lt (Nat.lt_of_lt_of_le z2.lt hDle)) (fun p hp => nomatch hp)
        have e9' : h9.get? D = some (lobj (its ++ [y])) := by
          rw [e9]
          show some ({ cls := .type "list", data := .seq (its.toArray.push y) (its.length + 1) } : Obj) = some { cls := .type "list", data := .seq (its ++ [y]).toArray (its ++ [y]).length }
          rw [List.length_append, List.length_singleton, List.push_toArray]
        have J9' : Inv (compCx X scope (ts ++ N2) d) ([(D, lobj (its ++ [y]))] ++ []) σ6 H8 { s8 with heap := h9 } := J9.pins_of fun p hp => by
          have e : p = (D, lobj (its ++ [y])) := by simpa using hp
          subst e
          exact ⟨e9', pn, pC, pf, fun v z => by cases z⟩
        refine ⟨m', hm, i + 1, ys ++ [v], H8, its ++ [y], back (ys' := ys) J9', ?_, k2, hv3.append (.cons r8 .nil), w8⟩
        exact T.keep _ _ _ st5 fun b hb o e => sb9.extBut b o (below b (flt b hb)).2 (k1 b hb o e)
  exact codeAny_compStart_list (loop _ rfl) (T.self _ 0 _ _ _ (T.keep _ _ _ st fun b _ o e => old b o e) (loop _ rfl))
end

/-! ### the two rules -/
def tComp (k : Nat) (wi : TI) (g : Dyn → TG) (tt : Dyn → TT) (te : Dyn → TE) : TE := fun σ H Q => wi σ H fun J H1 => ∀ d : Dyn, CompW J σ k (g d) (tt d) (te d) H1 fun ys H' => ∀ l, H' l = none → Q (.ref l) (upd H' l (.lst ys))

theorem pe_comp {X : Cx} {tg elt iter : Expr} {ifs : List Expr} {scope : Scope} {pos : Pos} (ts N2 : List Str) {wi : TI} {g : Dyn → TG} {tt : Dyn → TT} {te : Dyn → TE} (hc : X.calm = true) (hi : PI X tg iter wi)
    (hg : ∀ d, PG (compCx X scope (ts ++ N2) d) tg (g d)) (ht : ∀ d, PTs (compCx X scope (ts ++ N2) d) ifs (tt d)) (he : ∀ d, PE (compCx X scope (ts ++ N2) d) elt (te d))
    (hkind : scope.kind = .function) (hown : okOwn scope.names = true) (hfree : okFree scope.names X.env = true) (hout : okOuts scope.names N2 X.N = true)
    (hs : ∀ x, foldedSetIterable iter X.env x = pure x := by intro _; rfl) : PE X (.ListComp elt [⟨tg, iter, ifs, 0⟩] scope pos) (tComp ts.length wi g tt te) := by
  intro pins s σ H Q I h
  obtain ⟨cl, hclos, hcl1, hcl2⟩ := closure_of (scope := scope) (env := X.env) fun y hy hf => I.ok.has y.1 (okFree_has hfree hy hf)
  rw [eval_ListComp]
  refine wpAny_comprehension_free (use := none) rfl hs hclos hkind (okOwn_local hown) (thn (hi pins s σ H _ I h) fun v s1 h1 => thn h1 fun itv s2 h2 => ?_)
  obtain ⟨it, fp, tn, J, H2, e, I2, T, st2, f2, hW⟩ := h2
  subst e
  refine comp_block (RR := fun acc C => compPost (model X.prog X.w) X.A X.xe none (EP X pins σ Q) acc C) I2 hc T st2 f2 hkind hown hfree hout hcl1 hcl2 hg ht he hW ?_
  intro D C s' H' ys hC hCD I' hD hCn hNs hl fin
  obtain ⟨m, hm⟩ := hNs
  refine ⟨m, hm, fun h' sb => ?_⟩
  have I'' : Inv X pins σ (upd H' D (.lst ys)) { s' with heap := h' } := by
    refine I'.turned (t' := s'.toks) (it := C) (fun b o hb e => sb.extBut b o hb e) (by rw [upd_ne hCD]; exact hCn) (Nat.ne_of_gt (Nat.lt_of_lt_of_le I2.lt hC)) (.inr (Nat.le_trans I2.sz hC)) (fun x c e => ?_) fun p hp => ?_
    · obtain ⟨v, q⟩ := I2.cell x c e
      exact Nat.ne_of_lt (Nat.lt_of_lt_of_le q.lt hC)
    · exact Nat.ne_of_lt (Nat.lt_of_lt_of_le (Heap.lt_size (I2.pin p hp).1) hC)
  exact ⟨.ref D, _, I'', rfl, fin D hD⟩

def tSetC (i : Nat) (te : TE) : TS := fun D σ H => te σ H fun x H1 => D.nx (σ.set i (some x)) H1
/-- y = [.. for ..], y a local: the name is stored ahead of the block's end -/
theorem ps_setC {X : Cx} {tg elt iter : Expr} {ifs : List Expr} {scope : Scope} {pos spos py : Pos} {i : Nat} {y : Str} (ts N2 : List Str) {wi : TI} {g : Dyn → TG} {tt : Dyn → TT} {te : Dyn → TE} (hN : X.N.Nodup) (hi' : X.N[i]? = some y) (hy : X.env.scope.names.lookup y = some .local) (hc : X.calm = true) (hi : PI X tg iter wi)
    (hg : ∀ d, PG (compCx X scope (ts ++ N2) d) tg (g d)) (ht : ∀ d, PTs (compCx X scope (ts ++ N2) d) ifs (tt d)) (he : ∀ d, PE (compCx X scope (ts ++ N2) d) elt (te d))
    (hkind : scope.kind = .function) (hown : okOwn scope.names = true) (hfree : okFree scope.names X.env = true) (hout : okOuts scope.names N2 X.N = true)
    (hsw : swapsWith (.ListComp elt [⟨tg, iter, ifs, 0⟩] scope pos) (some (.Name y py)) spos.line X.env = pure true)
    (hs : ∀ x, foldedSetIterable iter X.env x = pure x := by intro _; rfl) : PS X (.Assign [.Name y py] (.ListComp elt [⟨tg, iter, ifs, 0⟩] scope pos) spos) (tSetC i (tComp ts.length wi g tt te)) := by
  intro pins s σ H D0 I h
  obtain ⟨cl, hclos, hcl1, hcl2⟩ := closure_of (scope := scope) (env := X.env) fun z hz hf => I.ok.has z.1 (okFree_has hfree hz hf)
  rw [exec_Assign_Name_used _ _ _ _ hsw]
  refine wpAny_bind (wpAny_standAt (wpAny_bind ?_))
  show wpAny _ X.A (do let _ ← comprehension (.ListComp elt [⟨tg, iter, ifs, 0⟩] scope pos) scope X.env _ (newList []) false (eval iter X.env) (some (assign (.Name y py) X.env))) _ _ s
  refine wpAny_bind (wpAny_mono (wpAny_comprehension_free (use := some (assign (.Name y py) X.env)) (Q := fun _ s' => SP X pins D0 .next s') rfl hs hclos hkind (okOwn_local hown)
    (thn (hi pins s σ H _ I h) fun v s1 h1 => thn h1 fun itv s2 h2 => ?_)) (fun _ s' hq => wpAny_pure (wpAny_pure hq)) fun _ _ e => e)
  obtain ⟨it, fp, tn, J, H2, e, I2, T, st2, f2, hW⟩ := h2
  subst e
  refine comp_block (RR := fun acc C => compPost (model X.prog X.w) X.A X.xe (some (assign (.Name y py) X.env)) (fun _ s' => SP X pins D0 .next s') acc C) I2 hc T st2 f2 hkind hown hfree hout hcl1 hcl2 hg ht he hW ?_
  intro D C s' H' ys hC hCD I' hD hCn hNs hl fin
  obtain ⟨m, hm⟩ := hNs
  show wpAny _ _ _ _ _ _
  have hcl : C ≠ X.env.locals := Nat.ne_of_gt (Nat.lt_of_lt_of_le I2.lt hC)
  have hcc : ∀ x c, X.env.cells.lookup x = some c → c ≠ C := fun x c e => by
    obtain ⟨v, q⟩ := I2.cell x c e
    exact Nat.ne_of_lt (Nat.lt_of_lt_of_le q.lt hC)
  refine wpAny_assign_Name (store_ok2 I' hN hi' (.inl hy) (v := .ref D) (u := .ref D) rfl (fun s'' I'' ⟨a, sb, ha⟩ => ?_) (.inr hy))
  have haC : C ≠ a := by
    rcases ha with z | z
    · rw [z]; exact hcl
    · exact Ne.symm (hcc y a z)
  refine ⟨m, hm.sameBut sb haC, fun h' sb' => ?_⟩
  have I3 : Inv X pins (σ.set i (some (.ref D))) (upd H' D (.lst ys)) { s'' with heap := h' } := by
    refine I''.turned (t' := s''.toks) (it := C) (fun b o hb e => sb'.extBut b o hb e) (by rw [upd_ne hCD]; exact hCn) hcl (.inr (Nat.le_trans I2.sz hC)) hcc fun p hp => ?_
    exact Nat.ne_of_lt (Nat.lt_of_lt_of_le (Heap.lt_size (I2.pin p hp).1) hC)
  exact ⟨_, _, I3, fin D hD⟩

/-! ### the forms one uses -/
section
variable {σ : St} {k : Nat} {g : TG} {tt : TT} {te : TE} {H1 : Hp} {Fin : List V → Hp → Prop}
theorem comp_range {lo : Int} {n : Nat} (Pv : Nat → List V → Hp → Prop) (h0 : Pv 0 [] H1) (hz : ∀ i ys H, i ≤ n → Pv i ys H → ys.length ≤ sizeLine)
    (hs : ∀ i ys H, i < n → Pv i ys H → g (.int (lo + i)) (List.replicate k none ++ σ) H fun σ2 H2 => σ2.drop k = σ ∧ tt σ2 H2 fun b H3 => if b = true then te σ2 H3 fun v H4 => Pv (i + 1) (ys ++ [v]) H4 else Pv (i + 1) ys H3)
    (hd : ∀ ys H, Pv n ys H → Fin ys H) : CompW (Itr lo n) σ k g tt te H1 Fin := by
  refine ⟨fun i m ys H => m = n - i ∧ i ≤ n ∧ Pv i ys H, ⟨n, by simp, Nat.zero_le _, h0⟩, ?_⟩
  rintro i m ys H ⟨rfl, hi, p⟩
  refine ⟨hz i ys H hi p, ?_⟩
  by_cases hlt : i < n
  · refine .inr ⟨hlt, Pv (i + 1), fun ys' H' p' => ⟨n - (i + 1), by omega, rfl, hlt, p'⟩, fun x H' y => ?_⟩
    obtain ⟨e, y⟩ := y
    subst e y
    exact hs i ys _ hlt p
  · have e : i = n := by omega
    subst e
    exact .inl ⟨Nat.le_refl _, hd ys H p⟩
theorem comp_list {K : PySem.W.Frag} {a : Addr} {xs : List V} (Pv : Nat → List V → Hp → Prop) (h0 : Pv 0 [] H1) (hz : ∀ i ys H, i ≤ xs.length → Pv i ys H → ys.length ≤ sizeLine ∧ SqL K H a xs)
    (hs : ∀ i x ys H, xs[i]? = some x → Pv i ys H → g x (List.replicate k none ++ σ) H fun σ2 H2 => σ2.drop k = σ ∧ tt σ2 H2 fun b H3 => if b = true then te σ2 H3 fun v H4 => Pv (i + 1) (ys ++ [v]) H4 else Pv (i + 1) ys H3)
    (hd : ∀ ys H, Pv xs.length ys H → Fin ys H) : CompW (Itl K a) σ k g tt te H1 Fin := by
  refine ⟨fun i m ys H => m = xs.length - i ∧ i ≤ xs.length ∧ Pv i ys H, ⟨xs.length, by simp, Nat.zero_le _, h0⟩, ?_⟩
  rintro i m ys H ⟨rfl, hi, p⟩
  have q := (hz i ys H hi p).2
  refine ⟨(hz i ys H hi p).1, ?_⟩
  by_cases hlt : i < xs.length
  · refine .inr ⟨⟨xs, xs[i], q, by simp [hlt]⟩, Pv (i + 1), fun ys' H' p' => ⟨xs.length - (i + 1), by omega, rfl, hlt, p'⟩, fun x H' y => ?_⟩
    obtain ⟨e, y⟩ := y
    subst e
    exact hs i x ys _ (y xs q) p
  · have e : i = xs.length := by omega
    subst e
    exact .inl ⟨⟨xs, q, Nat.le_refl _⟩, hd ys H p⟩
end
end L2

set_option Elab.async false
set_option maxRecDepth 100000
/-! More rules over the hand layer: == and != of lists of ints and of lists of such lists, isinstance, o[i] op= e on lists, own defs by name; the readings as equations. -/
namespace L2
open PySem PySem.Spec PyProof.Rows

/-! ### == -/
theorem vals_get {xs : List V} {us : List Value} (r : Vals xs us) {j : Nat} (h : j < us.length) : ∃ x, xs[j]? = some x ∧ RelV x us[j] := by
  have hl := r.length
  have hj : j < xs.length := by omega
  obtain ⟨u, hu, rx⟩ := r.get (i := j) (x := xs[j]) (by simp [hj])
  refine ⟨xs[j], by simp [hj], ?_⟩
  have : us[j]? = some us[j] := by simp [h]
  rw [this] at hu
  cases hu
  exact rx
section
variable {X : Cx} {pins : List (Addr × Obj)} {σ : St} {H : Hp} {s : Shared} {A : Around} {a b : Addr}
end

/-- a grid: a list of lists of ints -/
def GridL (K : PySem.W.Frag) (H : Hp) (a : Addr) (as : List Addr) (rows : List (List Int)) : Prop := SqL K H a (as.map V.ref) ∧ as.length = rows.length ∧ ∀ (i : Nat) (r : Addr) (ns : List Int), as[i]? = some r → rows[i]? = some ns → SqL K H r (ns.map V.int)
section
variable {X : Cx} {pins : List (Addr × Obj)} {σ : St} {H : Hp} {s : Shared} {A : Around} {a b : Addr}
end

/-! ### isinstance -/
def kit0 (T1 T2 : String) : Option Bool := if (Value.type T1 == Value.type T2) = true then some true else if PySem.W.kitMeta T2 = true then (fastBuiltinMro T1).map (·.contains (Value.type T2)) else none
theorem kit0_one (K : PySem.W.Frag) (T1 T2 : String) : PySem.W.kitOne K (.type T1) (.type T2) = kit0 T1 T2 := rfl
section
variable {X : Cx}
theorem call_isinst : CallR X (.builtin "isinstance") (fun xs H Q => ∃ x T T1 b, xs = [x, .ty T] ∧ TyOf X.K H x (.type T1) ∧ kit0 T1 T = some b ∧ Q (.bl b) H) := by
  intro pins s σ H xs us Q I r h
  obtain ⟨x, T, T1, b, rfl, ty, e, q⟩ := h
  obtain ⟨u, v, rfl, rx, ry⟩ := Vals.two r
  cases ry
  exact isinst_ok I rx ty ((kit0_one X.K T1 T).trans e) fun tk => ⟨.bl b, H, I.tok _, rfl, q⟩
theorem pe_ty {x : Str} {T : String} {pos : Pos} (hg : Gl X x) (hm : X.mg x = none) (hv : bootBuiltins x = some (.type T)) (hn : x ≠ "__name__" := by decide) (hd : (x == ("__debug__" : Str)) = false := by decide) : PE X (.Name x pos) (tC (.ty T)) :=
  pe_bltn hg hm hv rfl hn hd
end

/-! ### built-in names -/
theorem bt_len : bootBuiltins "len" = some (.builtin "len") := by decide +kernel
theorem bt_isinstance : bootBuiltins "isinstance" = some (.builtin "isinstance") := by decide +kernel
theorem bt_max : bootBuiltins "max" = some (.builtin "max") := by decide +kernel
theorem bt_all : bootBuiltins "all" = some (.builtin "all") := by decide +kernel
theorem bt_abs : bootBuiltins "abs" = some (.builtin "abs") := by decide +kernel
theorem bt_int : bootBuiltins "int" = some (.type "int") := by decide +kernel
theorem bt_bool : bootBuiltins "bool" = some (.type "bool") := by decide +kernel
theorem bt_list : bootBuiltins "list" = some (.type "list") := by decide +kernel
theorem bt_tuple : bootBuiltins "tuple" = some (.type "tuple") := by decide +kernel
theorem bt_str : bootBuiltins "str" = some (.type "str") := by decide +kernel
theorem bt_set : bootBuiltins "set" = some (.type "set") := by decide +kernel
/-! ### own defs by their names -/
structure DefIn (K : PySem.W.Frag) (mg : Str → Option Value) (name : Str) (st : Stmt) (ps : List Str) : Prop where
  ex : ∃ f fd, mg name = some (.ref f) ∧ Fun K name name st f fd ∧ Binds K fd ps []
structure FnAt (P : Program) (w : World) (K : PySem.W.Frag) (mg : Str → Option Value) (base : Heap) (name : Str) (k : Nat) (ps : List Str) (sp : Sp) : Prop where
  ex : ∃ f fd, mg name = some (.ref f) ∧ PySem.W.keepIn K (.ref f) = true ∧ Binds K fd ps [] ∧ FnOk P w K mg base CX0 k f fd ps sp
theorem FnAt.of {P : Program} {w : World} {K : PySem.W.Frag} {mg : Str → Option Value} {base : Heap} {name : Str} {st : Stmt} {N ps : List Str} {k : Nat} {sp : Sp} (D : DefIn K mg name st ps) (S : FnScope N ps (defScope st)) (len : ∀ vs H Q E, sp vs H Q E → vs.length = ps.length)
    (hbody : ∀ (f : Addr) (cdv : Value) (A : Around) (outer : List Env) (s : Shared) (H : Hp) (vs : List V) (Q : VK) (E : XK), Room k (A.deeper (envOfC name (defScope st) s.heap.objs.size f cdv)) → sp vs H Q E →
      ∃ t, PSs (cxOf CX0 P w K mg base N name (defScope st) f cdv A outer s H E).nox (defBody st) t ∧ t { nx := fun _ H' => Q .non H', rt := Q } (start N vs) H) : FnAt P w K mg base name (k + 1) ps sp := by
  obtain ⟨f, fd, hm, F, hb⟩ := D.ex
  exact ⟨f, fd, hm, F.kp, hb, F.ok S len (hbody f)⟩
theorem def_mk {K : PySem.W.Frag} {h : Heap} {mg : Str → Option Value} (X : K.In h) (G : h.Ns mainGlobals mg) {name : Str} {st : Stmt} {f : Addr} {oc : Value} {od an : Option Addr} {osl : Array (Option Value)} {kV doc pm cdv ct : Value} {ps : List Str}
    (a : PySem.W.nsIn K mainGlobals name = some (some (.ref f))) (l : K.lookup f = some ⟨oc, od, .func (PySem.W.fnOf name name (defArgs st) (defBody st) (defScope st) .none kV doc pm an cdv ct), osl⟩)
    (c : PySem.W.codeIn K cdv name = true) (k : PySem.W.keepIn K (.ref f) = true)
    (hb : ∀ (kV doc pm : Value) (an : Option Addr) (cdv ct : Value) (us : List Value), us.length = ps.length → bindArgs (PySem.W.fnOf name name (defArgs st) (defBody st) (defScope st) .none kV doc pm an cdv ct) ⟨us, []⟩ = pure (ps.zip us)) : DefIn K mg name st ps :=
  ⟨f, _, PySem.W.mg_of X G a, fun_mk l c k, (fun_mk (st := st) l c k).binds hb⟩
section
variable {X : Cx} {x : Str} {k : Nat} {ps : List Str} {sp : Sp} {p pos : Pos} {e : Expr} {es : List Expr} {t : TA}
theorem pe_callA (F : FnAt X.prog X.w X.K X.mg X.base x k ps sp) (hr : Room k X.A) (hg : Gl X x) (ha : PA X (e :: es) t) (hdb : (x == ("__debug__" : Str)) = false := by decide) (he : starEach (e :: es) X.env = (false, eval e X.env) :: starEach es X.env := by rfl)
    (hpl : (backTo pos (starEach es X.env)).any (·.1) = false := by rfl) : PE X (.Call (.Name x p) (e :: es) [] pos) (tCall sp [] E0 t) := by
  obtain ⟨f, fd, hm, hk, hb, G⟩ := F.ex
  exact pe_call G hr hg hm hk hb .nil pass0 ha hdb he hpl
end

theorem cxK {CX : CXT} {P : Program} {w : World} {K : PySem.W.Frag} {mg : Str → Option Value} {base : Heap} {N : List Str} {qual : Str} {scope : Scope} {f : Addr} {cd : Value} {A : Around} {outer : List Env} {s : Shared} {H : Hp} {E : XK} : (cxOf CX P w K mg base N qual scope f cd A outer s H E).K = K := rfl
/-! ### the readings as equations, whole applications alone -/
section
variable {D : Ends} {σ : St} {H : Hp} {Q : VK} {QT : Bool → Hp → Prop} {QA : List V → Hp → Prop} {QS : St → Hp → Prop} {R : It → Hp → Prop} {a b c : TE} {s t : TS} {tt uu : TT} {ta tr : TA} {g : TG} {i : Nat} {v x y z : V} {r r' : R2} {wi : TI}
theorem e_var : tVar i σ H Q = ∃ v, σ[i]? = some (some v) ∧ Q v H := rfl
theorem e_C : tC v σ H Q = Q v H := rfl
theorem e_op : tOp r a b σ H Q = a σ H fun x H1 => b σ H1 fun y H2 => r x y H2 Q := rfl
theorem e_un {u : V → Hp → VK → Prop} : tUn u a σ H Q = a σ H fun x H1 => u x H1 Q := rfl
theorem e_rI {C : Int → Int → Prop} {f : Int → Int → V} : rI C f x y H Q = ∃ i j, x = .int i ∧ y = .int j ∧ C i j ∧ Q (f i j) H := rfl
theorem e_rI0 {f : Int → Int → V} : rI0 f x y H Q = ∃ i j, x = .int i ∧ y = .int j ∧ Q (f i j) H := rfl
theorem e_rU {f : Int → V} : rU f x H Q = ∃ i, x = .int i ∧ Q (f i) H := rfl
theorem e_rEq : rEq x y H Q = (scal x y = true ∧ Q (.bl (decide (x = y))) H) := rfl
theorem e_rNe : rNe x y H Q = (scal x y = true ∧ Q (.bl (!decide (x = y))) H) := rfl
theorem e_ixL {K : PySem.W.Frag} : rIxL K x y H Q = ∃ p xs i v, x = .ref p ∧ y = .int i ∧ SqL K H p xs ∧ atI xs i = some v ∧ Q v H := rfl
theorem e_ixT {K : PySem.W.Frag} : rIxT K x y H Q = ∃ p xs i v, x = .ref p ∧ y = .int i ∧ SqT K H p xs ∧ atI xs i = some v ∧ Q v H := rfl
theorem e_set {o i v : V} {Q : Hp → Prop} : rSetL o i v H Q = ∃ p xs k j, o = .ref p ∧ i = .int k ∧ H p = some (.lst xs) ∧ ixN xs.length k = some j ∧ Q (upd H p (.lst (xs.set j v))) := rfl
theorem e_cat : rCat x y H Q = ∃ l b xs zs, x = .ref l ∧ y = .ref b ∧ H l = some (.lst xs) ∧ H b = some (.lst zs) ∧ xs.length + zs.length ≤ sizeLine ∧ ∀ p, H p = none → Q (.ref p) (upd H p (.lst (xs ++ zs))) := rfl
theorem e_test : tTest a σ H QT = a σ H fun x H' => ∃ k, x = .bl k ∧ QT k H' := rfl
theorem e_B : tB a σ H QT = a σ H fun x H1 => ∃ c, x = .bl c ∧ QT c H1 := rfl
theorem e_and : tAnd tt uu σ H QT = tt σ H fun c H1 => if c = true then uu σ H1 QT else QT false H1 := rfl
theorem e_or : tOr tt uu σ H QT = tt σ H fun c H1 => if c = true then QT true H1 else uu σ H1 QT := rfl
theorem e_not : tNot tt σ H QT = tt σ H fun c H1 => QT (!c) H1 := rfl
theorem e_andV : tAndV a b σ H Q = a σ H fun x H1 => ∃ c, x = .bl c ∧ if c = true then b σ H1 Q else Q (.bl false) H1 := rfl
theorem e_orV : tOrV a b σ H Q = a σ H fun x H1 => ∃ c, x = .bl c ∧ if c = true then Q (.bl true) H1 else b σ H1 Q := rfl
theorem e_notV : tNotV a σ H Q = a σ H fun x H1 => ∃ c, x = .bl c ∧ Q (.bl (!c)) H1 := rfl
theorem e_ifE : tIf tt a b σ H Q = tt σ H fun c H1 => if c = true then a σ H1 Q else b σ H1 Q := rfl
theorem e_all : tAll σ H QT = QT true H := rfl
theorem e_next : tNext D σ H = D.nx σ H := rfl
theorem e_seq : tSeq s t D σ H = s { D with nx := t D } σ H := rfl
theorem e_brk : tBreak D σ H = D.bk σ H := rfl
theorem e_cnt : tCont D σ H = D.ct σ H := rfl
theorem e_drop : tDrop a D σ H = a σ H fun _ H1 => D.nx σ H1 := rfl
theorem e_ret : tRet a D σ H = a σ H D.rt := rfl
theorem e_retN : tRetN D σ H = D.rt .non H := rfl
theorem e_ifS : tIfS tt s t D σ H = tt σ H fun b H1 => if b = true then s D σ H1 else t D σ H1 := rfl
theorem e_asg : tAsg a g D σ H = a σ H fun x H1 => g x σ H1 D.nx := rfl
theorem e_gName : gName i v σ H QS = QS (σ.set i (some v)) H := rfl
theorem e_setC : tSetC i a D σ H = a σ H fun x H1 => D.nx (σ.set i (some x)) H1 := rfl
theorem e_augS {tget : V → V → Hp → VK → Prop} {tip : TIp} {tset : TSet} : tAugS a b c tget tip tset D σ H = a σ H fun o H1 => b σ H1 fun i H2 => tget o i H2 fun x H3 => c σ H3 fun y H4 => tip x y H4 fun z H5 => tset o i z H5 fun H6 => D.nx σ H6 := rfl
theorem e_ipI {f : Int → Int → Int} : ipI f x y H Q = ∃ i j, x = .int i ∧ y = .int j ∧ Q (.int (f i j)) H := rfl
theorem e_nil : tNil σ H QA = QA [] H := rfl
theorem e_cons : tCons a ta σ H QA = a σ H fun x H1 => ta σ H1 fun xs H2 => QA (x :: xs) H2 := rfl
theorem e_tup : tTup ta σ H Q = ta σ H fun xs H1 => xs.length ≤ sizeLine ∧ ∀ p, H1 p = none → Q (.ref p) (upd H1 p (.tup xs)) := rfl
theorem e_lst : tLst ta σ H Q = ta σ H fun xs H1 => xs.length ≤ sizeLine ∧ ∀ p, H1 p = none → Q (.ref p) (upd H1 p (.lst xs)) := rfl
theorem e_call {sp : Sp} {E : XK} : tCall sp [] E ta σ H Q = ta σ H fun vs H1 => sp (vs ++ []) H1 Q E := rfl
theorem e_CB {u : List V → Hp → VK → Prop} : tCB u ta σ H Q = ta σ H fun vs H1 => u vs H1 Q := rfl
theorem e_BM {K : PySem.W.Frag} {T : String} {u : V → List V → Hp → VK → Prop} : tBM K T u a ta σ H Q = a σ H fun x H1 => tyV K T x H1 ∧ ta σ H1 fun xs H2 => u x xs H2 Q := rfl
theorem e_app {vs : List V} : rAppend x vs H Q = ∃ l xs y, x = .ref l ∧ vs = [y] ∧ H l = some (.lst xs) ∧ xs.length < sizeLine ∧ Q .non (upd H l (.lst (xs ++ [y]))) := rfl
theorem e_rng1 : iRng1 ta σ H R = ta σ H fun vs H1 => ∃ j : Int, vs = [.int j] ∧ -(2 ^ 62) ≤ j ∧ j < 2 ^ 62 ∧ R (Itr 0 j.toNat) H1 := rfl
theorem e_rng2 : iRng2 ta σ H R = ta σ H fun vs H1 => ∃ i j : Int, vs = [.int i, .int j] ∧ (-(2 ^ 62) ≤ i ∧ i < 2 ^ 62 ∧ -(2 ^ 62) ≤ j ∧ j < 2 ^ 62) ∧ R (Itr i (j - i).toNat) H1 := rfl
theorem e_iL {K : PySem.W.Frag} : iList K a σ H R = a σ H fun x H1 => ∃ p, x = .ref p ∧ (∃ xs, SqL K H1 p xs) ∧ R (Itl K p) H1 := rfl
/-- a loop's walk -/
def ForW (J : It) (g : TG) (tb : TS) (D : Ends) (σ : St) (H1 : Hp) : Prop := ∃ W : Nat → Nat → St → Hp → Prop, (∃ m, W 0 m σ H1) ∧ ∀ i m σ H, W i m σ H →
  (J.stop i H ∧ D.nx σ H) ∨ (J.go i H ∧ ∃ N : St → Hp → Prop, (∀ σ' H', N σ' H' → ∃ m', m' < m ∧ W (i + 1) m' σ' H') ∧ ∀ x H', J.yld i H x H' → g x σ H' fun σ2 H2 => tb { D with nx := N, ct := N, bk := D.nx } σ2 H2)
theorem e_for : tFor wi g t D σ H = wi σ H fun J H1 => ForW J g t D σ H1 := rfl
theorem e_comp {k : Nat} {g : Dyn → TG} {tt : Dyn → TT} {te : Dyn → TE} : tComp k wi g tt te σ H Q = wi σ H fun J H1 => ∀ d : Dyn, CompW J σ k (g d) (tt d) (te d) H1 fun ys H' => ∀ l, H' l = none → Q (.ref l) (upd H' l (.lst ys)) := rfl
end
end L2

set_option Elab.async false
set_option maxRecDepth 100000
/-! sum, all of a list; zip of two lists, walked with a tuple of names. -/
namespace L2
open PySem PySem.Spec PyProof.Rows
section
variable {X : Cx}
theorem call_allL (hc : X.calm = true) : CallR X (.builtin "all") (fun xs H Q => ∃ (p : Addr) (bs : List Bool), xs = [.ref p] ∧ SqL X.K H p (bs.map V.bl) ∧ Q (.bl (bs.all id)) H) := by
  intro pins s σ H xs us Q I r h
  obtain ⟨p, bs, rfl, hq, q⟩ := h
  obtain ⟨u, rfl, rx⟩ := Vals.one r
  cases rx
  obtain ⟨its, rv, pl, hz⟩ := I.list hq
  have hlt : p < s.heap.objs.size := by obtain ⟨_, e, _⟩ := pl.isList; exact Heap.lt_size e
  have hlen : its.length = bs.length := by have := rv.length; rw [List.length_map] at this; exact this.symm
  refine call_all_walk (wpAny_pyIter_list pl.isList ?_)
  refine ⟨s.heap.objs.size, [s.heap.objs.size, p], [s.heap.objs.size], its.toArray.size, _, _, fun i => (bs[i]?).getD true, rfl, Walks.list (A := X.A.in1) (I.ok.hd hc) _ p (Nat.ne_of_lt hlt) its.toArray,
    ⟨⟨_, Heap.get?_push_size _ rfl, rfl, rfl⟩, pl.isList.push _⟩, fun i v s' Q' E' hP hQ => ?_, fun h' tk hk => ?_⟩
  · have hi : its[i]? = some v := by simpa using hP
    have hil : i < bs.length := by rw [← hlen]; exact (List.getElem?_eq_some_iff.mp hi).1
    have e : bs[i]? = some bs[i] := by simp [hil]
    obtain ⟨u, hu, ru⟩ := rv.get (i := i) (x := V.bl bs[i]) (by rw [List.getElem?_map, e]; rfl)
    rw [hi] at hu
    cases hu
    cases ru
    simp only [e, Option.getD_some] at hQ
    exact wpAny_truthy_bool hQ
  · have e : ((List.range its.toArray.size).all fun i => (bs[i]?).getD true) = bs.all id := by
      rw [List.size_toArray, hlen]
      rw [Bool.eq_iff_iff, List.all_eq_true, List.all_eq_true]
      constructor
      · intro z b hb
        obtain ⟨i, hi, rfl⟩ := List.getElem_of_mem hb
        have := z i (List.mem_range.mpr hi)
        simpa [List.getElem?_eq_getElem hi] using this
      · intro z i hi
        have hi' := List.mem_range.mp hi
        simp only [List.getElem?_eq_getElem hi', Option.getD_some]
        exact z _ (List.getElem_mem hi')
    rw [e]
    exact ⟨.bl (bs.all id), H, I.kept fun b x e => hk b x (fun hm => by rw [List.mem_singleton.mp hm] at e; exact Nat.lt_irrefl _ (Heap.lt_size e)) (Heap.get?_push_of_some _ e), rfl, q⟩
end

/-! ### zip(a, b) -/
/-- at turn i: a new tuple of the i-th things of both lists -/
def Itz (K : PySem.W.Frag) (a b : Addr) : It :=
  ⟨fun i H => ∃ xs ys x y, SqL K H a xs ∧ SqL K H b ys ∧ xs[i]? = some x ∧ ys[i]? = some y,
   fun i H v H' => ∃ T x y, v = .ref T ∧ H T = none ∧ H' = upd H T (.tup [x, y]) ∧ ∀ xs ys, SqL K H a xs → SqL K H b ys → xs[i]? = some x ∧ ys[i]? = some y,
   fun i H => ∃ xs ys, SqL K H a xs ∧ SqL K H b ys ∧ (xs.length ≤ i ∨ ys.length ≤ i)⟩
def iZip (K : PySem.W.Frag) (ta : TA) : TI := fun σ H R => ta σ H fun vs H1 => ∃ a b, vs = [.ref a, .ref b] ∧ (∃ xs, SqL K H1 a xs) ∧ (∃ ys, SqL K H1 b ys) ∧ R (Itz K a b) H1
theorem e_zip {K : PySem.W.Frag} {ta : TA} {σ : St} {H : Hp} {R : It → Hp → Prop} : iZip K ta σ H R = ta σ H fun vs H1 => ∃ a b, vs = [.ref a, .ref b] ∧ (∃ xs, SqL K H1 a xs) ∧ (∃ ys, SqL K H1 b ys) ∧ R (Itz K a b) H1 := rfl
theorem e_gTup {K : PySem.W.Frag} {n : Nat} {t : TGs} {v : V} {σ : St} {H : Hp} {Q : St → Hp → Prop} : gTup K n t v σ H Q = ∃ a xs, v = .ref a ∧ SqT K H a xs ∧ xs.length = n ∧ t xs σ H Q := rfl
theorem e_gNil {vs : List V} {σ : St} {H : Hp} {Q : St → Hp → Prop} : gNil vs σ H Q = (vs = [] ∧ Q σ H) := rfl
theorem e_gCons {t : TG} {u : TGs} {vs : List V} {σ : St} {H : Hp} {Q : St → Hp → Prop} : gCons t u vs σ H Q = ∃ v r, vs = v :: r ∧ t v σ H fun σ' H' => u r σ' H' Q := rfl
end L2

set_option Elab.async false
set_option maxRecDepth 100000
/-! == and != of two lists of flat things -/
namespace L2
open PySem PySem.Spec PyProof.Rows
def eqVs : List V → List V → Bool
  | [], [] => true
  | x :: xs, y :: ys => eqV x y && eqVs xs ys
  | _, _ => false
theorem eqVs_range : ∀ {xs ys : List V}, xs.length = ys.length → ((List.range xs.length).all fun j => eqV (xs.getD j .non) (ys.getD j .non)) = eqVs xs ys
  | [], [], _ => rfl
  | [], _ :: _, h => by simp at h
  | _ :: _, [], h => by simp at h
  | x :: xs, y :: ys, h => by
    have ih := @eqVs_range xs ys (by simpa using h)
    rw [List.length_cons, List.range_succ_eq_map, List.all_cons, List.all_map]
    show (eqV x y && _) = (eqV x y && eqVs xs ys)
    rw [← ih]
    rfl
theorem eqVs_len : ∀ {xs ys : List V}, xs.length ≠ ys.length → eqVs xs ys = false
  | [], [], h => by simp at h
  | [], _ :: _, _ => rfl
  | _ :: _, [], _ => rfl
  | x :: xs, y :: ys, h => by
    have ih := @eqVs_len xs ys (by simpa using h)
    unfold eqVs
    rw [ih, Bool.and_false]
theorem all_flat_get {xs : List V} (h : xs.all flatV = true) {j : Nat} {x : V} (e : xs[j]? = some x) : flatV x = true := List.all_eq_true.mp h x (List.mem_of_getElem? e)
theorem eqAt_flat_at {A : Around} {s : Shared} {us vs : List Value} {xs ys : List V} (hu : Vals xs us) (hv : Vals ys vs) (fx : xs.all flatV = true) (fy : ys.all flatV = true) :
    ∀ j (h1 : j < us.toArray.size) (h2 : j < vs.toArray.size), SeqAt.EqAt A s us.toArray[j] vs.toArray[j] (eqV (xs.getD j .non) (ys.getD j .non)) := by
  intro j h1 h2
  have h1' : j < us.length := by simpa using h1
  have h2' : j < vs.length := by simpa using h2
  obtain ⟨x, ex, rx⟩ := vals_get hu h1'
  obtain ⟨y, ey, ry⟩ := vals_get hv h2'
  rw [List.getElem_toArray, List.getElem_toArray, List.getD_eq_getElem?_getD, List.getD_eq_getElem?_getD, ex, ey]
  exact eqAt_V rx ry (all_flat_get fx ex) (all_flat_get fy ey)
section
variable {X : Cx}
end
section
variable {X : Cx}
theorem tup_all {xs ys : List V} : (((List.range (min xs.length ys.length)).all fun j => eqV (xs.getD j .non) (ys.getD j .non)) && xs.length == ys.length) = eqVs xs ys := by
  by_cases hl : xs.length = ys.length
  · rw [← hl, Nat.min_self, eqVs_range hl]
    simp
  · rw [eqVs_len hl, show (xs.length == ys.length) = false by simpa using hl, Bool.and_false]
theorem op_neT (hu : X.A.units < cLine) : OpR X (compareOp .NotEq) (fun x y H Q => ∃ (a b : Addr) (xs ys : List V), x = .ref a ∧ y = .ref b ∧ SqT X.K H a xs ∧ SqT X.K H b ys ∧ xs.all flatV = true ∧ ys.all flatV = true ∧ Q (.bl (!eqVs xs ys)) H) := by
  intro pins s σ H x y v u Q I rx ry h
  obtain ⟨a, b, xs, ys, rfl, rfl, ha, hb, fx, fy, q⟩ := h
  cases rx; cases ry
  obtain ⟨us, r1, p1, z1⟩ := I.tuple ha
  obtain ⟨vs, r2, p2, z2⟩ := I.tuple hb
  have l1 := r1.length
  have l2 := r2.length
  refine SeqAt.RcNeAt.tuples (show s.heap.IsTuple a us.toArray from p1) (show s.heap.IsTuple b vs.toArray from p2) hu (eqAt_flat_at (A := X.A.in1) (s := s) r1 r2 fx fy) _ _ _ _ ?_
  rw [List.size_toArray, List.size_toArray, ← l1, ← l2, tup_all]
  exact ⟨.bl (!eqVs xs ys), H, I, rfl, q⟩
end
theorem e_gSub {to ti : TE} {t : TSet} {v : V} {σ : St} {H : Hp} {Q : St → Hp → Prop} : gSub to ti t v σ H Q = to σ H fun o H1 => ti σ H1 fun i H2 => t o i v H2 fun H3 => Q σ H3 := rfl
theorem e_rep {x y : V} {H : Hp} {Q : VK} : rRep x y H Q = ∃ l k xs, x = .ref l ∧ y = .int k ∧ H l = some (.lst xs) ∧ -(2 ^ 63) ≤ k ∧ k < 2 ^ 63 ∧ xs.length * k.toNat ≤ sizeLine ∧ ∀ p, H p = none → Q (.ref p) (upd H p (.lst (List.replicate k.toNat xs).flatten)) := rfl
end L2
namespace L2
open PySem PySem.Spec PyProof.Rows
section
variable {σ : St} {k : Nat} {g : TG} {tt : TT} {te : TE} {H1 : Hp} {Fin : List V → Hp → Prop}
end
theorem e_slL {K : PySem.W.Frag} {x : V} {lo hi : Option Int} {H : Hp} {Q : VK} : rSlL K x lo hi H Q = ∃ a xs, x = .ref a ∧ SqL K H a xs ∧ ∀ p, H p = none → Q (.ref p) (upd H p (.lst (cutV xs lo hi))) := rfl
theorem e_tSl {r : V → Option Int → Option Int → Hp → VK → Prop} {te : TE} {tl th : TO} {σ : St} {H : Hp} {Q : VK} : tSl r te tl th σ H Q = te σ H fun x H1 => tl σ H1 fun l H2 => th σ H2 fun u H3 => r x l u H3 Q := rfl
theorem e_noPart {σ : St} {H : Hp} {Q : Option Int → Hp → Prop} : tNoPart σ H Q = Q none H := rfl
theorem e_part {t : TE} {σ : St} {H : Hp} {Q : Option Int → Hp → Prop} : tPart t σ H Q = t σ H fun x H1 => ∃ i, x = .int i ∧ Q (some i) H1 := rfl
end L2

set_option Elab.async false
set_option maxRecDepth 100000
/-! More rules over the hand layer: range with a step, enumerate, min by a key, a set of ints and its size, != []. -/
namespace L2
open PySem PySem.Spec PyProof.Rows

/-! ### readings -/
section
variable {σ : St} {H : Hp} {Q : VK} {a b c : TE} {x : V} {vs : List V} {r r' : R2}
theorem e_pop : rPop x vs H Q = ∃ l xs y, x = .ref l ∧ vs = [] ∧ H l = some (.lst xs) ∧ xs[xs.length - 1]? = some y ∧ Q y (upd H l (.lst xs.dropLast)) := rfl
theorem e_BM0 {K : PySem.W.Frag} {T : String} {u : V → List V → Hp → VK → Prop} : tBM0 K T u a σ H Q = a σ H fun x H1 => tyV K T x H1 ∧ u x [] H1 Q := rfl
theorem e_chain : tChain r r' a b c σ H Q = a σ H fun x H1 => b σ H1 fun y H2 => r x y H2 fun z H3 => ∃ k, z = .bl k ∧ (if k = true then c σ H3 fun w' H4 => r' y w' H4 Q else Q (.bl false) H3) := rfl
theorem e_dnew0 : tDNewK σ H Q = ∀ p, H p = none → Q (.ref p) (upd H p (.dK [])) := rfl
theorem e_in {K : PySem.W.Frag} {neg : Bool} {y : V} : rIn K neg x y H Q = ∃ p xs, y = .ref p ∧ (SqL K H p xs ∨ SqT K H p xs) ∧ flatV x = true ∧ xs.all flatV = true ∧ Q (.bl (if neg then !inV x xs else inV x xs)) H := rfl
end

theorem pe_globI {X : Cx} {x : Str} {i : Int} {pos : Pos} (hg : Gl X x) (hm : ∃ t, X.mg x = some (Value.int i t)) (hd : (x == ("__debug__" : Str)) = false := by decide) : PE X (.Name x pos) (tC (.int i)) := by
  obtain ⟨t, hm⟩ := hm
  exact pe_glob hg hm ⟨t, rfl⟩ hd

/-! ### range(a, b, c), c > 0 -/
def Its (lo st : Int) (n : Nat) : It := ⟨fun i _ => i < n, fun i H x H' => H' = H ∧ x = .int (lo + i * st), fun i _ => n ≤ i⟩
def iRng3 (ta : TA) : TI := fun σ H R => ta σ H fun vs H1 => ∃ i j k : Int, vs = [.int i, .int j, .int k] ∧ (-(2 ^ 61) ≤ i ∧ i < 2 ^ 61 ∧ -(2 ^ 61) ≤ j ∧ j < 2 ^ 61 ∧ 0 < k ∧ k < 2 ^ 30) ∧ R (Its i k (Builtin.Range.rangeSize i j k).toNat) H1
theorem e_rng3 {ta : TA} {σ : St} {H : Hp} {R : It → Hp → Prop} : iRng3 ta σ H R = ta σ H fun vs H1 => ∃ i j k : Int, vs = [.int i, .int j, .int k] ∧ (-(2 ^ 61) ≤ i ∧ i < 2 ^ 61 ∧ -(2 ^ 61) ≤ j ∧ j < 2 ^ 61 ∧ 0 < k ∧ k < 2 ^ 30) ∧ R (Its i k (Builtin.Range.rangeSize i j k).toNat) H1 := rfl
/-! ### enumerate(xs) -/
def Ite (K : PySem.W.Frag) (a : Addr) : It :=
  ⟨fun i H => ∃ xs x, SqL K H a xs ∧ xs[i]? = some x,
   fun i H v H' => ∃ T x, v = .ref T ∧ H T = none ∧ H' = upd H T (.tup [.int i, x]) ∧ ∀ xs, SqL K H a xs → xs[i]? = some x,
   fun i H => ∃ xs, SqL K H a xs ∧ xs.length ≤ i⟩
def iEnum (K : PySem.W.Frag) (ta : TA) : TI := fun σ H R => ta σ H fun vs H1 => ∃ a, vs = [.ref a] ∧ (∃ xs, SqL K H1 a xs) ∧ R (Ite K a) H1
theorem e_enum {K : PySem.W.Frag} {ta : TA} {σ : St} {H : Hp} {R : It → Hp → Prop} : iEnum K ta σ H R = ta σ H fun vs H1 => ∃ a, vs = [.ref a] ∧ (∃ xs, SqL K H1 a xs) ∧ R (Ite K a) H1 := rfl
/-! ### xs != [], xs == [] -/
section
variable {X : Cx}
end

/-! ### set(xs) of ints, its size -/
section
variable {X : Cx}
end
end L2

set_option Elab.async false
set_option maxRecDepth 100000
/-! min(xs, key=f), f a def of the text. -/
namespace L2
open PySem PySem.Spec PyProof.Rows
section
variable {X : Cx} {pins : List (Addr × Obj)} {σ : St} {H : Hp} {k : Nat} {f : Addr} {fd : FuncData} {ps : List Str} {sp : Sp}
def tMinK (K : PySem.W.Frag) (sp : Sp) (ta : TA) : TE := fun σ H Q => ta σ H fun vs H1 => ∃ (l : Addr) (xs : List V) (kf : Nat → Int), vs = [.ref l] ∧ SqL K H1 l xs ∧ 0 < xs.length ∧
  (∀ i x, xs[i]? = some x → sp [x] H1 (fun v H' => v = .int (kf i) ∧ H' = H1) E0) ∧ ∀ i x, xs[i]? = some x → (∀ j, j < xs.length → kf i ≤ kf j ∧ (j < i → kf i < kf j)) → Q x H1
theorem e_minK {K : PySem.W.Frag} {ta : TA} {Q : VK} : tMinK K sp ta σ H Q = ta σ H fun vs H1 => ∃ (l : Addr) (xs : List V) (kf : Nat → Int), vs = [.ref l] ∧ SqL K H1 l xs ∧ 0 < xs.length ∧
  (∀ i x, xs[i]? = some x → sp [x] H1 (fun v H' => v = .int (kf i) ∧ H' = H1) E0) ∧ ∀ i x, xs[i]? = some x → (∀ j, j < xs.length → kf i ≤ kf j ∧ (j < i → kf i < kf j)) → Q x H1 := rfl
end
end L2

set_option Elab.async false
set_option maxRecDepth 100000
/-! EXCEPTIONS of own classes over the hand layer: raise, passing on through a def, a call that may raise, try with except. -/
namespace L2
open PySem PySem.Spec PyProof.Rows

/-! ### an exception that flies behind a call -/
/-- of the class at C; the abstract heap behind it is H'; what was there ahead of the call and is not tracked (frames apart) lies in B, and so does what is tracked behind it -/
def CX1 (P : Program) (w : World) : CXT := fun outer H s E e s' => ∃ (ea C : Addr) (a0 : Value) (B : Heap) (H' : Hp), e = .ref ea ∧ s'.os = s.os ∧ AllBare s'.gens ∧ Un (frs outer) [] H H' s.heap s'.heap ∧ HOk P w H' s'.heap ∧
  Heap.FlyingW B outer ea (.ref C) a0 s'.heap ∧ H' ea = none ∧ (∀ b o, H' b = some o → ∃ ob, B.get? b = some ob) ∧ (∀ b o, s.heap.get? b = some o → b ∉ frs outer → ∃ ob, B.get? b = some ob ∧ (H b = none → ob = o)) ∧ E (.ref C) none H'
/-- no exception, where none is wished -/
theorem pass1 {P : Program} {w : World} {X : Cx} : Passes (CX1 P w) X E0 := fun _ _ _ _ _ _ _ h => by
  obtain ⟨_, _, _, _, _, _, _, _, _, _, _, _, _, _, z⟩ := h
  exact z.elim

theorem UpToSlots.get {h h' : Heap} (u : h.UpToSlots h') {b : Addr} {o : Obj} (e : h.get? b = some o) (n : ∀ vs, o.data ≠ .fields vs) : ∃ sl, h'.get? b = some { o with slots := sl } := u b o e n

/-- what stands behind the flight: the heap h' keeps B, and all else up to slots -/
theorem HOk.flown {P : Program} {w : World} {H : Hp} {h h' B : Heap} (x : HOk P w H h) (bh : B.StaysIn h) (bh' : B.StaysIn h') (dom : ∀ b o, H b = some o → ∃ ob, B.get? b = some ob) : HOk P w H h' := fun a o e =>
  (x a o e).stay (fun b u hb q => by
    have hB : ∃ ob, B.get? b = some ob := by
      rcases hb with rfl | hb
      · exact dom _ _ e
      · exact dom _ _ hb
    obtain ⟨ob, hob⟩ := hB
    have := bh b ob hob
    rw [q] at this
    cases this
    exact bh' b u hob) (fun _ q => q) fun _ _ q => q

/-- a tracked thing is there -/
theorem objOk_there {P : Program} {w : World} {H : Hp} {h : Heap} {a : Addr} {o : HO} (x : ObjOk P w H h a o) : ∃ ob, h.get? a = some ob := by
  cases o with
  | lst xs => obtain ⟨_, _, _, _, e⟩ := x; exact ⟨_, e⟩
  | tup xs => obtain ⟨_, _, _, o, e, _⟩ := x; exact ⟨_, e⟩
  | dK kvs => obtain ⟨_, _, _, _, o, _, _, e, _⟩ := x; exact ⟨_, e⟩
  | dT kvs => obtain ⟨_, _, _, _, o, _, _, e, _⟩ := x; exact ⟨_, e⟩
  | set S n => obtain ⟨o, _, _, _, e, _⟩ := x; exact ⟨_, e⟩
  | ins C dx fs => obtain ⟨_, _, _, e, _⟩ := x; exact ⟨_, e⟩
  | own y => exact x
  | xd fs => obtain ⟨_, ⟨_, _, _, e, _⟩, _⟩ := x; exact ⟨_, e⟩
  | rng lo hi => obtain ⟨_, _, _, e⟩ := x; exact ⟨_, e⟩
  | frz ob u => obtain ⟨e, _⟩ := x; exact ⟨_, e⟩
  | tbl ps => exact ⟨_, (show h.get? a = some _ from x)⟩
  | met f y => exact ⟨_, (show h.get? a = some _ from x)⟩
  | ext φ => obtain ⟨_, e, _⟩ := x; exact e
section
variable {X : Cx} {pins : List (Addr × Obj)} {σ : St} {H : Hp} {s : Shared}
/-- from the entry to behind the flight -/
theorem un_flown {fs : List Addr} {H0 H1 : Hp} {h0 h1 h2 B : Heap} (u : Un fs [] H0 H1 h0 h1) (dom2 : ∀ b o, h0.get? b = some o → b ∉ fs → ∃ ob, B.get? b = some ob ∧ (H0 b = none → ob = o)) 
    (bh' : B.StaysIn h2) (sl : h1.UpToSlots h2) (hfr : ∀ b ∈ fs, ∀ o, h1.get? b = some o → ∀ vs, o.data ≠ .fields vs) : Un fs [] H0 H1 h0 h2 where
  keep := fun b o e n hb _ => by
    obtain ⟨ob, e1, e2⟩ := dom2 b o e hb
    rw [e2 n] at e1
    exact bh' b o e1
  slot := fun b o e n hb hx => by
    obtain ⟨s1, e1⟩ := u.slot b o e n hb hx
    obtain ⟨s2, e2⟩ := sl b _ e1 (hfr b hb _ e1)
    exact ⟨s2, e2⟩
  free := u.free
  there := fun b o e hx => by
    by_cases hb : b ∈ fs
    · obtain ⟨o1, e1⟩ := u.there b o e hx
      obtain ⟨s2, e2⟩ := sl b _ e1 (hfr b hb _ e1)
      exact ⟨_, e2⟩
    · obtain ⟨ob, e1, _⟩ := dom2 b o e hb
      exact ⟨ob, bh' b ob e1⟩
  tups := u.tups
  frzs := u.frzs
  tbls := u.tbls

/-- an exception is made in a def's body: it leaves the frame and flies -/
theorem raise_leaves {P : Program} {w : World} {K : PySem.W.Frag} {mg : Str → Option Value} {base : Heap} {N : List Str} {qual : Str} {scope : Scope} {f : Addr} {cd : Value} {A : Around} {outer : List Env} {s0 : Shared} {H0 : Hp} {E : XK} {h' : Heap} {e C : Addr} {args : List Value}
    (hX : X = cxOf (CX1 P w) P w K mg base N qual scope f cd A outer s0 H0 E) (I : Inv X pins σ H s) (hx : Heap.MadeExcOf s.heap h' e (.ref C) args) (hE : E (.ref C) none H) (tk : Nat) : X.xe (.ref e) { s with heap := h', toks := tk } := by
  subst hX
  show wpAny _ _ (leaving _ (.ref e)) _ _ _
  have hst : s.heap.FunFrames base (envOfC qual scope s0.heap.objs.size f cd :: outer) := I.stack
  have hin : ∀ env ∈ (envOfC qual scope s0.heap.objs.size f cd :: outer), ∀ b, env.frame = some b → b ∈ (envOfC qual scope s0.heap.objs.size f cd :: outer).filterMap (·.frame) := fun env he b hb => List.mem_filterMap.mpr ⟨env, he, hb⟩
  have getB : ∀ b o, s.heap.get? b = some o → b ∉ (envOfC qual scope s0.heap.objs.size f cd :: outer).filterMap (·.frame) → (PySem.W.hideAll s.heap ((envOfC qual scope s0.heap.objs.size f cd :: outer).filterMap (·.frame))).get? b = some o := fun b o q n => PySem.W.hideAll_get _ q n
  refine wpAny_leaves_madeW (s := { s with heap := h', toks := tk }) (h := s.heap) I.ok.frames rfl (fun b o q => PySem.W.of_hideAll _ q) (PySem.W.funFrames_hide hst hin) hx fun h'' t x1 x2 x3 x4 => ?_
  have dom : ∀ b o, H b = some o → ∃ ob, (PySem.W.hideAll s.heap ((envOfC qual scope s0.heap.objs.size f cd :: outer).filterMap (·.frame))).get? b = some ob := fun b o q => by
    have hlt := I.hok.lt q
    have hnf : b ∉ (envOfC qual scope s0.heap.objs.size f cd :: outer).filterMap (·.frame) := fun z => by
      have := I.stkFree b z
      rw [q] at this; cases this
    obtain ⟨ob, hob⟩ := objOk_there (I.hok b o q)
    exact ⟨ob, getB b ob hob hnf⟩
  have un : Un (frs outer) [] H0 H s0.heap s.heap := I.base
  have dom2 : ∀ b o, s0.heap.get? b = some o → b ∉ frs outer → ∃ ob, (PySem.W.hideAll s.heap ((envOfC qual scope s0.heap.objs.size f cd :: outer).filterMap (·.frame))).get? b = some ob ∧ (H0 b = none → ob = o) := fun b o q n => by
    have hnf : b ∉ (envOfC qual scope s0.heap.objs.size f cd :: outer).filterMap (·.frame) := fun z => by
      rcases List.mem_cons.mp (I.stkSub b z) with y | y
      · have h1 : s0.heap.objs.size ≤ b := by rw [y]; exact I.ok.above
        exact absurd (Nat.lt_of_lt_of_le (Heap.lt_size q) h1) (Nat.lt_irrefl _)
      · exact n y
    obtain ⟨o1, e1⟩ := un.there b o q (by simp)
    refine ⟨o1, getB b o1 e1 hnf, fun z => ?_⟩
    have := un.keep b o q z n (by simp)
    rw [e1] at this
    exact Option.some.inj this
  have hfr : ∀ b ∈ frs outer, ∀ o, s.heap.get? b = some o → ∀ vs, o.data ≠ .fields vs := fun b hb o q => by
    obtain ⟨_, o', e', n'⟩ := hst.mem (b := b) (by
      obtain ⟨env, he, hf⟩ := List.mem_filterMap.mp hb
      exact List.mem_filterMap.mpr ⟨env, List.mem_cons_of_mem _ he, hf⟩)
    rw [q] at e'; cases e'
    exact n'
  have sl : s.heap.UpToSlots h'' := (Heap.UpToSlots.of_keeps hx.keeps).trans x4
  refine ⟨e, C, _, _, H, rfl, I.os, I.bare, un_flown un dom2 x1.1 sl hfr, HOk.flown I.hok (fun b o q => PySem.W.of_hideAll _ q) x1.1 dom, x1, ?_, dom, dom2, hE⟩
  cases q : H e with
  | none => rfl
  | some o =>
    obtain ⟨ob, hob⟩ := objOk_there (I.hok e o q)
    rw [hx.new] at hob; cases hob

/-- an exception of a callee goes on through a def's body -/
theorem passX {P : Program} {w : World} {K : PySem.W.Frag} {mg : Str → Option Value} {base : Heap} {N : List Str} {qual : Str} {scope : Scope} {f : Addr} {cd : Value} {A : Around} {outer : List Env} {s0 : Shared} {H0 : Hp} {E E1 : XK}
    (hX : X = cxOf (CX1 P w) P w K mg base N qual scope f cd A outer s0 H0 E) (hE : ∀ c H', E1 c none H' → E c none H') : Passes (CX1 P w) X E1 := by
  subst hX
  intro pins σ H s e s' I h
  obtain ⟨ea, C, a0, B, H', rfl, os, bare, un, hok, fl, hea, dom, dom2, hE1⟩ := h
  show wpAny _ _ (leaving _ (.ref ea)) _ _ _
  have hst : s'.heap.FunFrames B (envOfC qual scope s0.heap.objs.size f cd :: outer) := fl.2.2.1
  have un0 : Un (frs outer) [] H0 H s0.heap s.heap := I.base
  have sub : ∀ b ∈ frs outer, b ∈ frs (envOfC qual scope s0.heap.objs.size f cd :: outer) := fun b hb => by
    obtain ⟨env, he, hf⟩ := List.mem_filterMap.mp hb
    exact List.mem_filterMap.mpr ⟨env, List.mem_cons_of_mem _ he, hf⟩
  have notL : ∀ b o, s0.heap.get? b = some o → b ∉ frs outer → b ∉ frs (envOfC qual scope s0.heap.objs.size f cd :: outer) := fun b o q n z => by
    rcases List.mem_cons.mp (I.stkSub b z) with y | y
    · have h1 : s0.heap.objs.size ≤ b := by rw [y]; exact I.ok.above
      exact absurd (Nat.lt_of_lt_of_le (Heap.lt_size q) h1) (Nat.lt_irrefl _)
    · exact n y
  refine wpAny_leaves_onW I.ok.frames rfl fl fun h'' x1 x2 => ?_
  have ut := (un0.mono sub (fun _ z => z)).trans un
  have un1 : Un (frs outer) [] H0 H' s0.heap s'.heap := ⟨fun b o e n hb hx => ut.keep b o e n (notL b o e hb) hx, fun b o e n hb hx => ut.slot b o e n (sub b hb) hx, ut.free, ut.there, ut.tups, ut.frzs, ut.tbls⟩
  have dom2' : ∀ b o, s0.heap.get? b = some o → b ∉ frs outer → ∃ ob, B.get? b = some ob ∧ (H0 b = none → ob = o) := fun b o q n => by
    obtain ⟨o1, e1⟩ := un0.there b o q (by simp)
    obtain ⟨ob, k1, k2⟩ := dom2 b o1 e1 (notL b o q n)
    refine ⟨ob, k1, fun z => ?_⟩
    have e2 := un0.keep b o q z n (by simp)
    rw [e1] at e2
    cases e2
    exact k2 (un0.free b _ q z (by simp))
  have hfr : ∀ b ∈ frs outer, ∀ o, s'.heap.get? b = some o → ∀ vs, o.data ≠ .fields vs := fun b hb o q => by
    obtain ⟨_, o', e', n'⟩ := hst.mem (b := b) (sub b hb)
    rw [q] at e'; cases e'
    exact n'
  exact ⟨ea, C, a0, B, H', rfl, os.trans I.os, bare, un_flown un1 dom2' x1.1 x2 hfr, HOk.flown hok fl.1 x1.1 dom, x1, hea, dom, dom2', hE _ _ hE1⟩

/-! ### a thing that was there is tracked -/
theorem Inv.track {ea : Addr} {oe : Obj} {o : HO} (I : Inv X pins σ H s) (he : s.heap.get? ea = some oe) (hn : H ea = none) (new : X.s₀.heap.get? ea = none) (hL : ea ≠ X.env.locals) (hC : ∀ x c, X.env.cells.lookup x = some c → c ≠ ea) (hp : ∀ p ∈ X.pn ++ pins, p.1 ≠ ea)
    (ok : ObjOk X.prog X.w (upd H ea o) s.heap ea o) : Inv X pins σ (upd H ea o) s := by
  have ne0 : ∀ b u, H b = some u → b ≠ ea := fun b u q z => by rw [z, hn] at q; cases q
  have new' : ∀ b u, X.s₀.heap.get? b = some u → b ≠ ea := fun b u q z => by rw [z, new] at q; cases q
  refine ⟨I.ok, I.os, I.bare, ⟨I.base.keep, I.base.slot, fun b u q n hx => ?_, I.base.there, fun b xs q => ?_, fun b u v q => ?_, fun b ps q => ?_⟩, I.loc, I.cell, ?_, fun x c q => ?_, fun p h => ?_, fun b u q => ?_, I.len⟩
  · rw [upd_ne (new' b u q)]; exact I.base.free b u q n hx
  · have := I.base.tups b xs q; rw [upd_ne (ne0 b _ this)]; exact this
  · have := I.base.frzs b u v q; rw [upd_ne (ne0 b _ this)]; exact this
  · obtain ⟨m, this⟩ := I.base.tbls b ps q; exact ⟨m, by rw [upd_ne (ne0 b _ this)]; exact this⟩
  · rw [upd_ne (Ne.symm hL)]; exact I.free
  · rw [upd_ne (hC x c q)]; exact I.freeC x c q
  · obtain ⟨h1, h2, h3⟩ := I.pin p h
    exact ⟨h1, by rw [upd_ne (hp p h)]; exact h2, h3⟩
  · by_cases hb : b = ea
    · subst hb; rw [upd_same] at q; cases q; exact ok
    · rw [upd_ne hb] at q
      exact (I.hok b u q).stay (fun _ _ _ z => z) (fun c z => by rw [upd_ne (ne0 c _ z)]; exact z) fun c xs z => by rw [upd_ne (ne0 c _ z)]; exact z

/-- an exception of the class at C -/
def ExcO (ea C : Addr) : HO := .ext fun h => ∃ o, h.get? ea = some o ∧ o.cls = .ref C ∧ ∃ vs, o.data = .fields vs
/-- the context of an except suite -/
abbrev Cx.suite (X : Cx) (e : Value) : Cx := { X with A := X.A.mark (some e), calm := false, xe := fun _ _ => False }
theorem Inv.suite (I : Inv X pins σ H s) (e : Value) : Inv (X.suite e) pins σ H s :=
  ⟨⟨I.ok.mod, I.ok.kind, I.ok.glob, I.ok.blt, I.ok.above, I.ok.inj, I.ok.has, I.ok.cab, (fun z => by cases z), I.ok.frames, I.ok.stk, I.ok.exf, I.ok.bs, I.ok.bsz, I.ok.noex, I.ok.exfs, I.ok.funs, I.ok.frf⟩, I.os, I.bare, I.base, I.loc, I.cell, I.free, I.freeC, I.pin, I.hok, I.len⟩
theorem Inv.unsuite {e : Value} (I : Inv (X.suite e) pins σ H s) (hd : X.calm = true → X.A.handled = none) : Inv X pins σ H s :=
  ⟨⟨I.ok.mod, I.ok.kind, I.ok.glob, I.ok.blt, I.ok.above, I.ok.inj, I.ok.has, I.ok.cab, hd, I.ok.frames, I.ok.stk, I.ok.exf, I.ok.bs, I.ok.bsz, I.ok.noex, I.ok.exfs, I.ok.funs, I.ok.frf⟩, I.os, I.bare, I.base, I.loc, I.cell, I.free, I.freeC, I.pin, I.hok, I.len⟩
end

/-! ### own error classes, under ValueError -/
abbrev VE : List Value := [.type "ValueError", .type "Exception", .type "BaseException", .type "object"]
structure Err (K : PySem.W.Frag) (C : Addr) : Prop where
  ok : PySem.W.excIn K C VE "ValueError.__new__" = true
theorem Err.obj {K : PySem.W.Frag} {C : Addr} {h : Heap} (c : Err K C) (X : K.In h) : ∃ bm N nm q bs hdct sn sub ab col dd k0 k1 k2 k3 k5 mN, h.get? C = some (excClassObj nm q C N bs bm hdct sn sub ab col dd k0 k1 k2 k3 k5 "ValueError.__new__") ∧
    h.Ns N mN ∧ mN "__init__" = none ∧ OwnTail h VE bm ∧ ∀ v b, PySem.W.mroIn K C v = some b → (Value.ref C :: bm).contains v = b := by
  have q := c.ok
  unfold PySem.W.excIn at q
  split at q
  case h_2 => cases q
  case h_1 dd cd sl ho =>
    split at q
    case h_2 => cases q
    case h_1 C' bm k0 k1 k2 k3 n k5 hm hs =>
      simp only [Bool.and_eq_true, beq_iff_eq, Bool.not_eq_true'] at q
      have hmro : ∀ v b, PySem.W.mroIn K C v = some b → (Value.ref C' :: bm).contains v = b := fun v b e => by
        unfold PySem.W.mroIn PySem.W.clsIn at e
        rw [ho] at e
        simp only [Option.bind_some, hm, List.isEmpty_cons, Bool.false_eq_true, if_false, Option.some.injEq] at e
        exact e
      obtain ⟨⟨⟨⟨⟨e1, e2⟩, hdel⟩, ht⟩, hok⟩, hni⟩ := q
      subst e1
      subst e2
      obtain ⟨nm, bs, mro, ns, qn, hd, sn, sub, ab, col, del⟩ := cd
      have hm' : mro = Value.ref C' :: bm := hm
      have hdel' : del = false := hdel
      subst hm'
      subst hdel'
      have hsl : sl = #[k0, k1, k2, k3, some (.builtin "ValueError.__new__"), k5] := by
        cases sl with
        | mk l =>
          have hs' : l = [k0, k1, k2, k3, some (.builtin "ValueError.__new__"), k5] := hs
          rw [hs']
      subst hsl
      exact ⟨bm, ns, nm, qn, bs, hd, sn, sub, ab, col, dd, k0, k1, k2, k3, k5, _, X _ _ ho, .of_isNs (PySem.W.isNs_of_in X hok), PySem.W.nsMap_none_of_in X hok hni, PySem.W.tail_of_in X ht, hmro⟩

section
variable {M : Model} {A : Around} {E : Value → Shared → Prop}
theorem excMatches_sup {h : Heap} {g : Array GenState} {d : Drawn} {t : Nat} {os : OsState} {e C D : Addr} {oe : Obj} {Q : Bool → Shared → Prop} {b : Bool} {K : PySem.W.Frag} (X : K.In h) (cC : Err K C) (cD : Err K D) (he : h.get? e = some oe) (hcls : oe.cls = .ref C)
    (hsub : PySem.W.mroIn K C (.ref D) = some b) (hq : Q b ⟨h, g, d, t, os⟩) : wpAny M A (excMatches (.ref e) (.ref D)) Q E ⟨h, g, d, t, os⟩ := by
  obtain ⟨bm, N, nm, q, bs, hdct, sn, sub, ab, col, dd, k0, k1, k2, k3, k5, mN, hC, hN, hni, T, hm⟩ := cC.obj X
  obtain ⟨bm', N', nm', q', bs', hdct', sn', sub', ab', col', dd', k0', k1', k2', k3', k5', mN', hD, hN', hni', T', hm'⟩ := cD.obj X
  have hcB : (Value.ref D :: bm').contains (.type "BaseException") = true := by rw [List.contains_cons, T'.hasType (X := "BaseException") (b := true) (by decide +kernel), Bool.or_true]
  have hcD := hm _ _ hsub
  have f := tc_notTuple
  unfold excMatches
  repeat (first | (with_reducible refine wpAny_loadPart_at he ?_; rw [hcls]) | with_reducible refine wpAny_loadPart_at hD ?_ | (with_reducible refine wpAny_isSubtype_exc hD ?_; rw [hcB]) | (with_reducible refine wpAny_isSubtype_exc hC ?_; rw [hcD]) | wp_step)
  cases b <;> (try wp_walk) <;> exact hq
end
end L2

set_option Elab.async false
set_option maxRecDepth 100000
/-! try with one except of an own class; raise; defs that may raise, and their calls. -/
namespace L2
open PySem PySem.Spec PyProof.Rows

theorem PS.nox {X : Cx} {st : Stmt} {t : TS} (h : PS X.nox st t) : PS X st t := fun pins s σ H D I hw =>
  wpAny_mono (h pins s σ H D (I.wish _) hw) (fun _ _ z => z.unwish) fun _ _ z => z.elim

/-! ### the context of a try's body -/
/-- what is wanted of an exception there: at the call J holds of the names, its class and the abstract heap behind it -/
def tryXe (X : Cx) (pn : List (Addr × Obj)) (J : St → Value → Hp → Prop) : Value → Shared → Prop := fun e s' =>
  ∃ pins σ H s, Inv { X with pn := pn, xe := fun _ _ => False } pins σ H s ∧ CX1 X.prog X.w X.stack H s (fun c _ H' => J σ c H') e s'
abbrev tryCx (X : Cx) (pn : List (Addr × Obj)) (J : St → Value → Hp → Prop) : Cx := { X with pn := pn, xe := tryXe X pn J }
/-- calls in a context where an exception is wanted so: at the names σ -/
def Takes (X : Cx) (J : St → Value → Hp → Prop) : Prop := ∀ pins σ H s e s', Inv X pins σ H s → CX1 X.prog X.w X.stack H s (fun c _ H' => J σ c H') e s' → X.xe e s'
theorem takes_try {X : Cx} {pn : List (Addr × Obj)} {J : St → Value → Hp → Prop} : Takes (tryCx X pn J) J := fun pins σ H s e s' I h =>
  ⟨pins, σ, H, s, Inv.unwish (X := { X with pn := pn, xe := fun _ _ => False }) (E := tryXe X pn J) I, h⟩
theorem takes_body {X : Cx} {P : Program} {w : World} {K : PySem.W.Frag} {mg : Str → Option Value} {base : Heap} {N : List Str} {qual : Str} {scope : Scope} {f : Addr} {cd : Value} {A : Around} {outer : List Env} {s0 : Shared} {H0 : Hp} {E : XK}
    (hX : X = cxOf (CX1 P w) P w K mg base N qual scope f cd A outer s0 H0 E) : Takes X (fun _ c H' => E c none H') := fun pins σ H s e s' I h => by
  have q := passX (X := X) (E1 := fun c _ H' => E c none H') hX (fun _ _ z => z) pins σ H s e s' I
  subst hX
  exact q h

/-! ### a def that may raise -/
structure FnAtX (P : Program) (w : World) (K : PySem.W.Frag) (mg : Str → Option Value) (base : Heap) (name : Str) (k : Nat) (ps : List Str) (sp : Sp) : Prop where
  ex : ∃ f fd, mg name = some (.ref f) ∧ PySem.W.keepIn K (.ref f) = true ∧ Binds K fd ps [] ∧ FnOk P w K mg base (CX1 P w) k f fd ps sp
theorem FnAtX.of {P : Program} {w : World} {K : PySem.W.Frag} {mg : Str → Option Value} {base : Heap} {name : Str} {st : Stmt} {N ps : List Str} {k : Nat} {sp : Sp} (D : DefIn K mg name st ps) (S : FnScope N ps (defScope st)) (len : ∀ vs H Q E, sp vs H Q E → vs.length = ps.length)
    (hbody : ∀ (f : Addr) (cdv : Value) (A : Around) (outer : List Env) (s : Shared) (H : Hp) (vs : List V) (Q : VK) (E : XK), Room k (A.deeper (envOfC name (defScope st) s.heap.objs.size f cdv)) → sp vs H Q E →
      ∃ t, PSs (cxOf (CX1 P w) P w K mg base N name (defScope st) f cdv A outer s H E) (defBody st) t ∧ t { nx := fun _ H' => Q .non H', rt := Q } (start N vs) H) : FnAtX P w K mg base name (k + 1) ps sp := by
  obtain ⟨f, fd, hm, F, hb⟩ := D.ex
  refine ⟨f, fd, hm, F.kp, hb, ?_⟩
  obtain ⟨oc, od, kV, doc, pm, an, cdv, ct, osl, rfl, lk, hcd⟩ := F.ex
  exact fn_of lk hcd S len (hbody f cdv)

section
variable {X : Cx} {x : Str} {k : Nat} {ps : List Str} {sp : Sp} {p pos : Pos} {e : Expr} {es : List Expr} {t : TA}
/-- f(..) of a def that may raise -/
def tCallX (sp : Sp) (J : St → Value → Hp → Prop) (t : TA) : TE := fun σ H Q => t σ H fun vs H1 => sp vs H1 Q fun c _ H' => J σ c H'
theorem e_callX {J : St → Value → Hp → Prop} {σ : St} {H : Hp} {Q : VK} : tCallX sp J t σ H Q = t σ H fun vs H1 => sp vs H1 Q fun c _ H' => J σ c H' := rfl
theorem pe_callX {J : St → Value → Hp → Prop} (F : FnAtX X.prog X.w X.K X.mg X.base x k ps sp) (hr : Room k X.A) (hx : Takes X J) (hg : Gl X x) (ha : PA X (e :: es) t) (hdb : (x == ("__debug__" : Str)) = false := by decide) (he : starEach (e :: es) X.env = (false, eval e X.env) :: starEach es X.env := by rfl)
    (hpl : (backTo pos (starEach es X.env)).any (·.1) = false := by rfl) : PE X (.Call (.Name x p) (e :: es) [] pos) (tCallX sp J t) := by
  obtain ⟨f, fd, hm, hk, hb, G⟩ := F.ex
  intro pins s σ H Q I h
  refine wpAny_Call_Name_kw (ld_glob I hg hm ?_ hdb)
  refine PySem.W.callWith_K (h₀ := X.base) I.ok.mod.kin hk (thn (ha pos pins s σ H _ I h) fun us s1 ⟨vs, H1, I1, r, q⟩ => ⟨I1.kIn, ?_⟩) he hpl
  have hl : (us ++ []).length = ps.length := by rw [List.append_nil, ← r.length]; exact G.len _ _ _ _ q
  refine wpAny_call (codeAny_mono (G.run X.A X.stack s1 H1 ⟨us, []⟩ us vs Q _ hr I1.env0 (by have := hb s1 us I1.kIn hl; rw [List.append_nil] at this; exact this) r q) fun r' s' hq => ?_)
  cases r' with
  | error e => exact hx pins σ H1 s1 e s' I1 hq
  | ok fl =>
    cases fl with
    | ret u => exact I1.after hq
    | next => exact False.elim hq
    | brk => exact False.elim hq
    | cont => exact False.elim hq
/-- f(..) of a def that may raise, where it does not -/
theorem pe_callN (F : FnAtX X.prog X.w X.K X.mg X.base x k ps sp) (hr : Room k X.A) (hg : Gl X x) (ha : PA X (e :: es) t) (hdb : (x == ("__debug__" : Str)) = false := by decide) (he : starEach (e :: es) X.env = (false, eval e X.env) :: starEach es X.env := by rfl)
    (hpl : (backTo pos (starEach es X.env)).any (·.1) = false := by rfl) : PE X (.Call (.Name x p) (e :: es) [] pos) (tCall sp [] E0 t) := by
  obtain ⟨f, fd, hm, hk, hb, G⟩ := F.ex
  exact pe_call G hr hg hm hk hb .nil pass1 ha hdb he hpl
end

/-! ### raise C(..) -/
section
variable {X : Cx} {C : Addr} {x : Str} {np cpos pos : Pos}
/-- what an exception of the class at C that is made here wants -/
def Raises (X : Cx) (C : Addr) (R : Hp → Prop) : Prop := ∀ pins σ H s h' e args tk, Inv X pins σ H s → Heap.MadeExcOf s.heap h' e (.ref C) args → R H → X.xe (.ref e) { s with heap := h', toks := tk }
theorem raises_body {P : Program} {w : World} {K : PySem.W.Frag} {mg : Str → Option Value} {base : Heap} {N : List Str} {qual : Str} {scope : Scope} {f : Addr} {cd : Value} {A : Around} {outer : List Env} {s0 : Shared} {H0 : Hp} {E : XK}
    (hX : X = cxOf (CX1 P w) P w K mg base N qual scope f cd A outer s0 H0 E) : Raises X C (fun H => E (.ref C) none H) := fun pins σ H s h' e args tk I hx hE => raise_leaves hX I hx hE tk
def tRaise (R : Hp → Prop) (ta : TA) : TS := fun _ σ H => ta σ H fun vs H1 => vs.length ≤ sizeLine ∧ R H1
theorem e_raise {R : Hp → Prop} {ta : TA} {D : Ends} {σ : St} {H : Hp} : tRaise R ta D σ H = ta σ H fun vs H1 => vs.length ≤ sizeLine ∧ R H1 := rfl
theorem ps_raise {e : Expr} {es : List Expr} {R : Hp → Prop} {ta : TA} (hc : X.calm = true) (c : Err X.K C) (hg : Gl X x) (hm : X.mg x = some (.ref C)) (hr : Raises X C R) (ha : PA X (e :: es) ta) (hdb : (x == ("__debug__" : Str)) = false := by decide)
    (he : starEach (e :: es) X.env = (false, eval e X.env) :: starEach es X.env := by rfl) (hpl : (backTo cpos (starEach es X.env)).any (·.1) = false := by rfl) :
    PS X (.Raise (some (.Call (.Name x np) (e :: es) [] cpos)) none pos) (tRaise R ta) := by
  intro pins s σ H D I h
  obtain ⟨bm, N, nm, q, bs, hdct, sn, sub, ab, col, dd, k0, k1, k2, k3, k5, mN, hC, hN, hni, T, _⟩ := c.obj I.ok.mod.kin
  refine wpAny_Raise_call_subU (C := C) (nm := nm) (q := q) (N := N) (bs := bs) (bm := bm) (hdct := hdct) (sn := sn) (sub := sub) (ab := ab) (col := col) (dd := dd) (k0 := k0) (k1 := k1) (k2 := k2) (k3 := k3) (k5 := k5)
    PySem.F.excBase_ValueError (by decide +kernel) PySem.F.excBase_ValueError (mN := mN) (T.hasType PySem.F.excBase_ValueError.hasBase) (I.ok.hd hc) (by rw [he]; show (false || (backTo cpos (starEach es X.env)).any (·.1)) = false; rw [hpl]; rfl) hni (ld_glob I hg hm ⟨rfl, ?_⟩ hdb)
  have hrun := ha cpos pins s σ H _ I h
  rw [he] at hrun ⊢
  refine Calls.evalArgs_plain (wpAny_mono hrun (fun us s1 h1 => ?_) fun _ _ z => z)
  obtain ⟨vs, H1, I1, r1, hz, q1⟩ := h1
  exact ⟨rfl, by rw [← r1.length]; exact hz, I1.bk _ _ hC, hN.keeps I1.bk, T.keeps I1.bk, fun h' e hx => hr pins σ H1 s1 h' e us s1.toks I1 hx q1⟩
end

/-! ### try: .. except C as n: .. -/
section
variable {X : Cx} {pins : List (Addr × Obj)} {σ : St} {H : Hp} {s : Shared}
theorem Inv.intry (I : Inv X pins σ H s) (J : St → Value → Hp → Prop) : Inv (tryCx X (X.pn ++ pins) J) [] σ H s :=
  ⟨⟨I.ok.mod, I.ok.kind, I.ok.glob, I.ok.blt, I.ok.above, I.ok.inj, I.ok.has, I.ok.cab, I.ok.hd, I.ok.frames, I.ok.stk, I.ok.exf, I.ok.bs, I.ok.bsz, I.ok.noex, I.ok.exfs, I.ok.funs, I.ok.frf⟩, I.os, I.bare, I.base, I.loc, I.cell, I.free, I.freeC, fun p hp => I.pin p (by simpa using hp), I.hok, I.len⟩
theorem Inv.outtry {pl : List (Addr × Obj)} {E : Value → Shared → Prop} (I : Inv { X with pn := X.pn ++ pins, xe := E } pl σ H s) : Inv X pins σ H s :=
  ⟨⟨I.ok.mod, I.ok.kind, I.ok.glob, I.ok.blt, I.ok.above, I.ok.inj, I.ok.has, I.ok.cab, I.ok.hd, I.ok.frames, I.ok.stk, I.ok.exf, I.ok.bs, I.ok.bsz, I.ok.noex, I.ok.exfs, I.ok.funs, I.ok.frf⟩, I.os, I.bare, I.base, I.loc, I.cell, I.free, I.freeC, fun p hp => I.pin p (List.mem_append_left _ hp), I.hok, I.len⟩
theorem SP.outtry {J : St → Value → Hp → Prop} {D : Ends} {f : Flow} {s' : Shared} (h : SP (tryCx X (X.pn ++ pins) J) [] D f s') : SP X pins D f s' := by
  cases f with
  | next => obtain ⟨a, b, I, q⟩ := h; exact ⟨a, b, I.outtry, q⟩
  | brk => obtain ⟨a, b, I, q⟩ := h; exact ⟨a, b, I.outtry, q⟩
  | cont => obtain ⟨a, b, I, q⟩ := h; exact ⟨a, b, I.outtry, q⟩
  | ret u => obtain ⟨v, a, b, I, r, q⟩ := h; exact ⟨v, a, b, I.outtry, r, q⟩

/-- the name behind an except suite goes -/
theorem unbind_ok {M : Model} {A : Around} {E : Value → Shared → Prop} {i : Nat} {n : Str} {pos : Pos} {Q : Unit → Shared → Prop} (I : Inv X pins σ H s) (hN : X.N.Nodup) (hi : X.N[i]? = some n) (hx : X.env.scope.names.lookup n = some .local)
    (h : ∀ s', Inv X pins (σ.set i none) H s' → Q () s') : wpAny M A (do bindName X.env n .none; unbindBehindTheSuite X.env n pos) Q E s := by
  refine wpAny_bind (wpAny_bindName (store_ok I hN hi (.inl hx) (v := .non) rfl (fun s1 I1 => ?_) (.inr hx)))
  obtain ⟨m, hn, hl⟩ := id I1.loc
  have hiσ : i < σ.length := by rw [I.len]; exact (List.getElem?_eq_some_iff.mp hi).1
  obtain ⟨u, ru, lk⟩ := hl i n .non hi (by rw [List.getElem?_set_self hiσ]) (.inl hx)
  have hm : ∃ u, m n = some u := by
    rcases lk with ⟨_, e⟩ | ⟨k, _⟩
    · exact ⟨u, e⟩
    · exfalso
      have hk : X.env.kindOf n = some .local := hx
      rcases k with k | k <;> (rw [hk] at k; cases k)
  obtain ⟨u', hu'⟩ := hm
  have hcls : (X.env.scope.kind == .class || (X.env.scope.kind == .module && X.env.locals != X.env.globals)) = false := by rw [I.ok.kind]; rfl
  unfold unbindBehindTheSuite
  refine wpAny_onRaise (wpAny_unbindName_local hx hn hu' hcls fun h' u2 hn' sb => ?_)
  obtain ⟨oL, _, _, hoL, _⟩ := id hn
  have J : Inv X pins (σ.set i (some .non)) H s1 := I1
  refine h _ ⟨J.ok, J.os, J.bare, ⟨fun b o e z hb hx' => ?_, fun b o e z hb hx' => ?_, J.base.free, fun b o e hx' => ?_, J.base.tups, J.base.frzs, J.base.tbls⟩, ⟨_, hn', fun j y v' e1 e2 e3 => ?_⟩, fun y c e => ?_, J.free, J.freeC, fun p hp => ?_, fun b ob e => ?_, by simpa using I.len⟩
  · exact (sb.2 b (Nat.ne_of_lt (Nat.lt_of_lt_of_le (Heap.lt_size e) J.ok.above))).trans (J.base.keep b o e z hb hx')
  · obtain ⟨sl, e1⟩ := J.base.slot b o e z hb hx'
    exact ⟨sl, (sb.2 b (Nat.ne_of_lt (Nat.lt_of_lt_of_le (Heap.lt_size e) J.ok.above))).trans e1⟩
  · obtain ⟨o', e1⟩ := J.base.there b o e hx'
    exact ⟨o', (sb.2 b (Nat.ne_of_lt (Nat.lt_of_lt_of_le (Heap.lt_size e) J.ok.above))).trans e1⟩
  · by_cases hj : j = i
    · subst hj
      rw [List.getElem?_set_self hiσ] at e2
      cases e2
    · rw [List.getElem?_set_ne (Ne.symm hj)] at e2
      obtain ⟨w', r', q⟩ := hl j y v' e1 (by rw [List.getElem?_set_ne (Ne.symm hj)]; exact e2) e3
      refine ⟨w', r', ?_⟩
      rcases q with ⟨k, e⟩ | ⟨k, c, e, z⟩
      · refine .inl ⟨k, ?_⟩
        have : y ≠ n := fun e => hj (nodup_ix hN e1 (e ▸ hi))
        simp [this, e]
      · exact .inr ⟨k, c, e, z.sameBut sb (J.cne y c e)⟩
  · obtain ⟨w', z⟩ := J.cell y c e
    exact ⟨w', z.sameBut sb (J.cne y c e)⟩
  · obtain ⟨e, z, ne, nf, d⟩ := J.pin p hp
    exact ⟨(sb.2 p.1 ne).trans e, z, ne, nf, d⟩
  · refine (J.hok b ob e).stay (fun c w' hc q => (sb.2 c ?_).trans q) (fun _ q => q) fun _ _ q => q
    rintro rfl
    rcases hc with hc | hc
    · rw [← hc, J.free] at e; cases e
    · rw [J.free] at hc; cases hc

/-- what a suite is to reach, the name gone behind it -/
def unEnds (i : Nat) (D : Ends) : Ends := { nx := fun σ H => D.nx (σ.set i none) H, rt := D.rt, bk := fun σ H => D.bk (σ.set i none) H, ct := fun σ H => D.ct (σ.set i none) H }
def tTryAs (K : PySem.W.Frag) (D0 : Addr) (i : Nat) (tb : (St → Value → Hp → Prop) → List (Addr × Obj) → TS) (ts : Value → TS) : TS := fun D σ H => ∃ J : St → Value → Hp → Prop, (∀ pn, tb J pn D σ H) ∧
  ∀ σ1 c H1, J σ1 c H1 → ∃ C, c = .ref C ∧ Err K C ∧ PySem.W.mroIn K C (.ref D0) = some true ∧ ∀ e ea, H1 ea = none → ts e (unEnds i D) (σ1.set i (some (.ref ea))) (upd H1 ea (ExcO ea C))
theorem ps_try_as {body : List Stmt} {b0 : Stmt} {suite : List Stmt} {x n : Str} {np hpos pos : Pos} {D0 : Addr} {i : Nat} {tb : (St → Value → Hp → Prop) → List (Addr × Obj) → TS} {ts : Value → TS} (cD : Err X.K D0) (hg : Gl X x) (hm : X.mg x = some (.ref D0)) (hN : X.N.Nodup) (hi : X.N[i]? = some n) (hx : X.env.scope.names.lookup n = some .local)
    (hb : ∀ J pn, PSs (tryCx X pn J) body (tb J pn)) (hs : ∀ e, PSs (X.suite e) (b0 :: suite) (ts e)) (hst : X.stack = X.env :: X.outer := by rfl) (hf : X.env.frame = some X.env.locals := by rfl) (hex : X.ex = [] := by rfl) (hdb : (x == ("__debug__" : Str)) = false := by decide) :
    PS X (.Try body [.ExceptHandler (some (.Name x np)) (some n) (b0 :: suite) hpos] [] [] pos) (tTryAs X.K D0 i tb ts) := by
  intro pins s σ H D I h
  obtain ⟨J, hbody, hcatch⟩ := h
  refine wpAny_Try_except (wpAny_mono (hb J (X.pn ++ pins) [] s σ H D (I.intry J) (hbody _)) (fun f s1 h1 => ?_) fun e s1 h1 => ?_)
  · have h2 := SP.outtry h1
    cases f with
    | next =>
      obtain ⟨a, b, I1, q⟩ := h2
      exact wpAny_execs_nil ⟨a, b, I1, q⟩
    | brk => exact h2
    | cont => exact h2
    | ret u => exact h2
  · obtain ⟨pins', σ1, H1, s2, I2, hcx⟩ := h1
    have J2 : Inv X pins σ1 H1 s2 := I2.outtry
    obtain ⟨ea, C, a0, B, H', e1, os, bare, un, hok, fl, hea, dom, dom2, hJ⟩ := hcx
    subst e1
    obtain ⟨C2, eC, cC, hsub, hsuite⟩ := hcatch σ1 _ H' hJ
    obtain rfl : C = C2 := by injection eC
    have hfr0 : X.A.frames = some (X.env :: X.outer) := by rw [← hst]; exact I.ok.frames
    have fl0 : Heap.FlyingW B (X.env :: X.outer) ea (.ref C) a0 s1.heap := by rw [← hst]; exact fl
    have hfr : ∀ b ∈ frs X.stack, ∀ o, s1.heap.get? b = some o → ∀ vs, o.data ≠ .fields vs := fun b hb o q => by
      obtain ⟨_, o', e', n'⟩ := fl.2.2.1.mem hb
      rw [q] at e'; cases e'
      exact n'
    have old_ne : ∀ b o, s2.heap.get? b = some o → b ≠ ea := fun b o q z => by
      by_cases hbf : b ∈ frs X.stack
      · obtain ⟨oe, vs, T, oT, ts', he, _, hd, _⟩ := fl.2.2.2
        rw [← z] at he
        exact hfr b hbf oe he vs hd
      · obtain ⟨ob, k1, _⟩ := dom2 b o q hbf
        rw [z, fl.2.1] at k1; cases k1
    refine wpAny_looks_onW hfr0 hf fl0 fun h4 held4 sm4 => ?_
    refine wpAny_landsW held4 fun h5 fl5 sm5 => ?_
    have at5 : ∀ {h6 : Heap} {sx : Shared}, sx.heap = h6 → sx.os = s1.os → sx.gens = s1.gens → B.StaysIn h6 → s1.heap.UpToSlots h6 → Inv X pins σ1 H' sx := fun {h6 sx} e1 e2 e3 k1 k2 => by
      subst e1
      exact J2.call' (ch := []) (e2.trans os) (un_flown un dom2 k1 k2 hfr) (HOk.flown hok fl.1 k1 dom) (by rw [e3]; exact bare) (fun b z => absurd z (by simp))
    have I5 : Inv X pins σ1 H' { s1 with heap := h5 } := at5 (sx := { s1 with heap := h5 }) rfl rfl rfl fl5.1 (sm4.trans sm5)
    obtain ⟨oe5, he5, hc5⟩ := fl5.there
    refine wpAny_handleBy_cons (codeAny_handlers_test (ld_glob (I5.suite (.ref ea)) hg hm ?_ hdb)) (by intro q; cases q)
    refine excMatches_sup I5.kIn cC cD he5 hc5 hsub ?_
    show codeAny _ _ _ _ _
    refine codeAny_handlers_suite_as ?_
    refine lands_againW fl5 fun h6 fl6 sm6 => ?_
    have I6 : Inv X pins σ1 H' { s1 with heap := h6 } := at5 (sx := { s1 with heap := h6 }) rfl rfl rfl fl6.1 ((sm4.trans sm5).trans sm6)
    have I7 : Inv X pins σ1 (upd H' ea (ExcO ea C)) { s1 with heap := h6 } := by
      obtain ⟨oe, vs, T, oT, ts', he, ⟨hcl, _⟩, hd, _⟩ := fl6.2.2.2
      refine I6.track he hea ?_ ?_ (fun y c q => ?_) (fun p hp => ?_) ?_
      · cases q : X.s₀.heap.get? ea with
        | none => rfl
        | some o =>
          obtain ⟨o', q'⟩ := J2.base.there ea o q (by rw [hex]; simp)
          exact absurd rfl (old_ne ea o' q')
      · obtain ⟨m, ⟨o, _, _, ho, _⟩, _⟩ := J2.loc
        exact Ne.symm (old_ne _ o ho)
      · obtain ⟨v, o, ho, _⟩ := J2.cell y c q
        exact old_ne c o ho
      · exact old_ne _ _ (J2.pin p hp).1
      · refine ⟨⟨oe, he, hcl, vs, hd⟩, ⟨oe, he⟩, fun h1 h2 k1 k2 => ?_⟩
        obtain ⟨o, z1, z2⟩ := k1
        exact ⟨o, k2 o z1, z2⟩
    refine store_ok (X := X.suite (.ref ea)) (I7.suite (.ref ea)) hN hi (.inl hx) (v := .ref ea) rfl (fun s8 I8 => ?_) (.inr hx)
    refine wpAny_mono (hs (.ref ea) pins s8 _ _ (unEnds i D) I8 (hsuite _ ea hea)) (fun f s9 h9 => ?_) fun _ _ z => z.elim
    show wpAny _ _ _ _ _ _
    cases f with
    | next =>
      obtain ⟨σ9, H9, I9, q9⟩ := h9
      exact unbind_ok (I9.unsuite I.ok.hd) hN hi hx fun s' I' => ⟨_, _, I', q9⟩
    | brk =>
      obtain ⟨σ9, H9, I9, q9⟩ := h9
      exact unbind_ok (I9.unsuite I.ok.hd) hN hi hx fun s' I' => ⟨_, _, I', q9⟩
    | cont =>
      obtain ⟨σ9, H9, I9, q9⟩ := h9
      exact unbind_ok (I9.unsuite I.ok.hd) hN hi hx fun s' I' => ⟨_, _, I', q9⟩
    | ret u =>
      obtain ⟨v9, σ9, H9, I9, r9, q9⟩ := h9
      exact unbind_ok (I9.unsuite I.ok.hd) hN hi hx fun s' I' => ⟨_, _, _, I', r9, q9⟩
def tTry0 (K : PySem.W.Frag) (D0 : Addr) (tb : (St → Value → Hp → Prop) → List (Addr × Obj) → TS) (ts : Value → TS) : TS := fun D σ H => ∃ J : St → Value → Hp → Prop, (∀ pn, tb J pn D σ H) ∧
  ∀ σ1 c H1, J σ1 c H1 → ∃ C, c = .ref C ∧ Err K C ∧ PySem.W.mroIn K C (.ref D0) = some true ∧ ∀ e, ts e D σ1 H1
theorem suK {e : Value} : (X.suite e).K = X.K := rfl
theorem noxK : X.nox.K = X.K := rfl
theorem tryK {pn : List (Addr × Obj)} {J : St → Value → Hp → Prop} : (tryCx X pn J).K = X.K := rfl
theorem e_tryAs {K : PySem.W.Frag} {D0 : Addr} {i : Nat} {tb : (St → Value → Hp → Prop) → List (Addr × Obj) → TS} {ts : Value → TS} {D : Ends} : tTryAs K D0 i tb ts D σ H = ∃ J : St → Value → Hp → Prop, (∀ pn, tb J pn D σ H) ∧
  ∀ σ1 c H1, J σ1 c H1 → ∃ C, c = .ref C ∧ Err K C ∧ PySem.W.mroIn K C (.ref D0) = some true ∧ ∀ e ea, H1 ea = none → ts e (unEnds i D) (σ1.set i (some (.ref ea))) (upd H1 ea (ExcO ea C)) := rfl
theorem e_try0 {K : PySem.W.Frag} {D0 : Addr} {tb : (St → Value → Hp → Prop) → List (Addr × Obj) → TS} {ts : Value → TS} {D : Ends} : tTry0 K D0 tb ts D σ H = ∃ J : St → Value → Hp → Prop, (∀ pn, tb J pn D σ H) ∧
  ∀ σ1 c H1, J σ1 c H1 → ∃ C, c = .ref C ∧ Err K C ∧ PySem.W.mroIn K C (.ref D0) = some true ∧ ∀ e, ts e D σ1 H1 := rfl
end
end L2

set_option Elab.async false
set_option maxRecDepth 100000
/-! isinstance of a caught exception of an own class. -/
namespace L2
open PySem PySem.Spec PyProof.Rows
structure ErrQ (K : PySem.W.Frag) (C : Addr) : Prop extends Err K C where
  ga : PySem.W.findIn K (.ref C) "__getattribute__" = some (some (.builtin "BaseException.__getattribute__"))
  gn : PySem.W.findIn K (.ref C) "__getattr__" = some none
  gc : PySem.W.findIn K (.ref C) "__class__" = some (some (.builtin "object.__class__"))
section
variable {prog : Program} {w : World} {A : Around} {E : Value → Shared → Prop} {h : Heap} {g : Array GenState} {d : Drawn} {t : Nat} {os : OsState} {a C : Addr} {o : Obj} {K : PySem.W.Frag}
theorem eclass_get {R : Result → Shared → Prop} (X : K.In h) (c : ErrQ K C) (hx : h.get? a = some o) (hc : o.cls = .ref C) (hq : R (.ok (.ret (.ref C))) ⟨h, g, d, t, os⟩) :
    codeAny (model prog w) A (.call (.builtin "getset_descriptor.__get__") ⟨[.builtin "object.__class__", .ref a, .ref C], []⟩) R ⟨h, g, d, t, os⟩ := by
  obtain ⟨bm, N, nm, q, bs, hdct, sn, sub, ab, col, dd, k0, k1, k2, k3, k5, mN, hC, hN, hni, T, _⟩ := c.obj X
  have hT5 : (⟨h, g, d, t, os⟩ : Shared).TypeIs (.builtin "object.__class__") "getset_descriptor" := F.typeOf_object_class
  have hcO : (Value.ref C :: bm).contains (.type (".".intercalate ("object.__class__".cutAt '.').dropLast)) = true := by rw [F.owner_object_class, List.contains_cons, T.hasType (X := "object") (b := true) (by decide +kernel), Bool.or_true]
  refine codeAny_call_builtin F.slot_gs_get.plain F.entry_gs_get (F.slot_gs_get.check _ _ _ _ _ _ _ _ hT5 (F.args_gs_get _ _ _) ?_)
  repeat (any_goals (first | assumption | (with_reducible refine wpAny_loadPart_at hx ?_; rw [hc]) | (with_reducible refine wpAny_isSubtype_exc hC ?_; rw [hcO]) | wp_step))
  refine ⟨Code.quiet_builtin _ (by decide +kernel), codeAny_builtin F.entry_object_class ?_⟩
  repeat (any_goals (first | assumption | (with_reducible refine wpAny_loadPart_at hx ?_; rw [hc]) | wp_step))
theorem eclass_entry {tk : Tok} {Q : Fin → Shared → Prop} (X : K.In h) (c : ErrQ K C) (hx : h.get? a = some o) (hc : o.cls = .ref C) (hq : Q (.done (.ret (.ref C))) ⟨h, g, d, t, os⟩) :
    wpAny (model prog w) A (Builtin.«object.__getattribute__» ⟨[.ref a, .str "__class__" tk], []⟩) Q E ⟨h, g, d, t, os⟩ := by
  have hT5 : (⟨h, g, d, t, os⟩ : Shared).TypeIs (.builtin "object.__class__") "getset_descriptor" := F.typeOf_object_class
  have L1 := PySem.W.looks_findIn (M := model prog w) X c.gc
  have f5 := F.typeOf_object_class
  have f6 := F.slot_gs_get.lookup
  have f7 := F.slot_gs_set.lookup
  repeat (any_goals (first | assumption | (with_reducible refine wpAny_loadPart_at hx ?_; rw [hc]) | with_reducible refine L1.at ?_ | wp_step))
  refine eclass_get X c hx hc ?_
  repeat (any_goals (first | assumption | wp_step))
theorem eclass_check {M : Model} {nameV : Value} {Q : Unit → Shared → Prop} (X : K.In h) (c : ErrQ K C) (hx : h.get? a = some o) (hc : o.cls = .ref C) (hq : Q () ⟨h, g, d, t, os⟩) : wpAny M A (checkBuiltinCall "BaseException.__getattribute__" ⟨[.ref a, nameV], []⟩) Q E ⟨h, g, d, t, os⟩ := by
  obtain ⟨bm, N, nm, q, bs, hdct, sn, sub, ab, col, dd, k0, k1, k2, k3, k5, mN, hC, hN, hni, T, _⟩ := c.obj X
  have hk : builtinKind "BaseException.__getattribute__" = some .slot := by decide +kernel
  have hsplit : splitId "BaseException.__getattribute__" = some ("BaseException", "__getattribute__") := by decide +kernel
  have hcB : (Value.ref C :: bm).contains (.type "BaseException") = true := by rw [List.contains_cons, T.hasType (X := "BaseException") (b := true) (by decide +kernel), Bool.or_true]
  have ha := F.args_bexc_ga (.ref a) nameV
  simp only [checkBuiltinCall, hk, hsplit]
  refine wpAny_bind ?_
  unfold isInstance
  repeat (first | (with_reducible refine wpAny_loadPart_at hx ?_; rw [hc]) | (with_reducible refine wpAny_isSubtype_exc hC ?_; rw [hcB]) | wp_step)
  exact hq
theorem eclass_call {tk : Tok} {R : Result → Shared → Prop} (X : K.In h) (c : ErrQ K C) (hx : h.get? a = some o) (hc : o.cls = .ref C) (hq : R (.ok (.ret (.ref C))) ⟨h, g, d, t, os⟩) :
    codeAny (model prog w) A (.call (.builtin "BaseException.__getattribute__") ⟨[.ref a, .str "__class__" tk], []⟩) R ⟨h, g, d, t, os⟩ :=
  codeAny_call_builtin F.attrBase_ValueError.ga.plain F.entry_bexc_ga (eclass_check X c hx hc (eclass_entry X c hx hc hq))
theorem eclass_by {tk : Tok} {Q : Value → Shared → Prop} (X : K.In h) (c : ErrQ K C) (hx : h.get? a = some o) (hc : o.cls = .ref C) (hq : Q (.ref C) ⟨h, g, d, t, os⟩) : wpAny (model prog w) A (getAttrBy (.ref a) (.str "__class__" tk) false) Q E ⟨h, g, d, t, os⟩ := by
  have f3 := F.attrBase_ValueError.ga.bind (.ref a)
  have L1 := PySem.W.looks_findIn (M := model prog w) X c.ga
  have L2' := PySem.W.looks_findIn (M := model prog w) X c.gn
  have hx2 : (Value.builtin "BaseException.__getattribute__" == Value.builtin "object.__getattribute__") = false := by decide +kernel
  have hx1 : (onTheHeap (Value.ref C) && Value.builtin "BaseException.__getattribute__" == Value.builtin "object.__getattribute__") = false := by rw [hx2]; rfl
  repeat (any_goals (first | assumption | (with_reducible refine wpAny_loadPart_at hx ?_; rw [hc]) | with_reducible refine L1.at ?_ | with_reducible refine L2'.at ?_ | wp_step))
  refine eclass_call X c hx hc ?_
  repeat (any_goals (first | assumption | wp_step))
theorem eclass_attr {Q : Option Value → Shared → Prop} (X : K.In h) (c : ErrQ K C) (hx : h.get? a = some o) (hc : o.cls = .ref C) (hq : Q (some (.ref C)) ⟨h, g, d, t + 1, os⟩) : wpAny (model prog w) A (getAttr? (.ref a) "__class__") Q E ⟨h, g, d, t, os⟩ := by
  unfold getAttr? getAttrBy?
  repeat (any_goals (first | assumption | with_reducible apply eclass_by X c hx hc | wp_step))
end

def ExcAt (a C : Addr) (h : Heap) : Prop := ∃ o, h.get? a = some o ∧ o.cls = .ref C
theorem kitx_exc {K : PySem.W.Frag} {a C : Addr} (c : ErrQ K C) : PySem.W.KitX K (.ref a) (.ref C) (ExcAt a C) where
  ty := fun M h X p => by
    obtain ⟨o, h1, h2⟩ := p
    exact h2 ▸ (PySem.W.Looks.ld h1).andThen .now
  it := fun M h X p => by
    obtain ⟨bm, N, nm, q, bs, hdct, sn, sub, ab, col, dd, k0, k1, k2, k3, k5, mN, hC, hN, hni, T, _⟩ := c.obj X
    intro A' Q' E' s' k q
    unfold isType loadHead
    exact wpAny_bind (wpAny_loadPart (k _ _ hC) (wpAny_pure q))
  ne := fun h tp dd its n sl X htp => by
    obtain ⟨bm, N, nm, q, bs, hdct, sn, sub, ab, col, dd, k0, k1, k2, k3, k5, mN, hC, hN, hni, T, _⟩ := c.obj X
    refine Bool.eq_false_iff.mpr fun q => ?_
    have e : C = tp := Value.ref.inj (beq_iff_eq.mp q)
    subst e
    rw [hC] at htp
    have hcl := congrArg Obj.cls (Option.some.inj htp)
    revert hcl
    show Value.type "type" = Value.type "tuple" → False
    intro hcl
    injection hcl with hcl
    exact absurd hcl (by decide)
  ca := fun {_ _ _ _ _ s} X p k => by
    obtain ⟨o, h1, h2⟩ := p
    obtain ⟨h, g, d, t, os⟩ := s
    exact eclass_attr X c h1 h2 k
section
variable {X : Cx} {pins : List (Addr × Obj)} {σ : St} {H : Hp} {s : Shared}
theorem Inv.exc {ea C : Addr} (I : Inv X pins σ H s) (h : H ea = some (ExcO ea C)) : ExcAt ea C s.heap := by
  have q : ObjOk X.prog X.w H s.heap ea (ExcO ea C) := I.hok ea _ h
  obtain ⟨⟨o, h1, h2, _⟩, _⟩ := q
  exact ⟨o, h1, h2⟩
/-- isinstance(e, D), D an own class -/
theorem call_isinstE : CallR X (.builtin "isinstance") (fun xs H Q => ∃ ea C D b, xs = [.ref ea, .ref D] ∧ H ea = some (ExcO ea C) ∧ ErrQ X.K C ∧ PySem.W.kitOne X.K (.ref C) (.ref D) = some b ∧ Q (.bl b) H) := by
  intro pins s σ H xs us Q I r h
  obtain ⟨ea, C, D, b, rfl, he, c, e, q⟩ := h
  obtain ⟨u, v, rfl, rx, ry⟩ := Vals.two r
  cases rx; cases ry
  exact PySem.W.kia_one (kitx_exc c) I.kIn (I.exc he) e (fun z => nomatch z) fun tk => ⟨.bl b, H, I.tok _, rfl, q⟩
end

/-! ### the class facts, from the text -/
theorem err_mk {K : PySem.W.Frag} {h : Heap} {mg : Str → Option Value} (X : K.In h) (G : h.Ns mainGlobals mg) {name : Str} {C : Addr} (e : PySem.W.nsIn K mainGlobals name = some (some (.ref C))) (q : PySem.W.excIn K C VE "ValueError.__new__" = true)
    (g1 : PySem.W.findIn K (.ref C) "__getattribute__" = some (some (.builtin "BaseException.__getattribute__"))) (g2 : PySem.W.findIn K (.ref C) "__getattr__" = some none) (g3 : PySem.W.findIn K (.ref C) "__class__" = some (some (.builtin "object.__class__"))) :
    mg name = some (.ref C) ∧ ErrQ K C := ⟨PySem.W.mg_of X G e, ⟨⟨q⟩, g1, g2, g3⟩⟩
theorem kit_self {K : PySem.W.Frag} {C : Addr} : PySem.W.kitOne K (.ref C) (.ref C) = some true := by
  unfold PySem.W.kitOne
  rw [if_pos (by simp)]
theorem kit_mk {K : PySem.W.Frag} {C D : Addr} {cd : ClassData} {b : Bool} (h0 : (Value.ref C == Value.ref D) = false) (h1 : PySem.W.clsIn K D = some cd) (h2 : PySem.W.typeIn K (.ref D) = some (.type "type")) (h3 : PySem.W.subIn K (.ref C) (.ref D) = some b) : PySem.W.kitOne K (.ref C) (.ref D) = some b := by
  unfold PySem.W.kitOne PySem.W.kitCls
  rw [if_neg (by rw [h0]; simp)]
  show (if ((PySem.W.clsIn K D).isSome && PySem.W.typeIn K (.ref D) == some (.type "type")) = true then PySem.W.subIn K (.ref C) (.ref D) else none) = some b
  rw [h1, h2, if_pos (by simp)]
  exact h3
theorem kitV_mk {K : PySem.W.Frag} {C : Addr} {b : Bool} (h3 : PySem.W.subIn K (.ref C) (.type "ValueError") = some b) : PySem.W.kitOne K (.ref C) (.type "ValueError") = some b := by
  unfold PySem.W.kitOne PySem.W.kitCls
  rw [if_neg (by simp)]
  show (if PySem.W.kitMeta "ValueError" = true then PySem.W.subIn K (.ref C) (.type "ValueError") else none) = some b
  rw [if_pos (by decide +kernel)]
  exact h3
theorem Same.seqT {K : PySem.W.Frag} {H H' : Hp} {a : Addr} {xs : List V} (e : Same H H') (h : SqT K H a xs) : SqT K H' a xs := by
  rcases h with (h | ⟨o, h⟩) | h
  · exact .inl (.inl (e _ _ h))
  · exact .inl (.inr ⟨o, e _ _ h⟩)
  · exact .inr h
end L2

set_option Elab.async false
set_option maxRecDepth 100000
/-! Trees: nested lists and tuples of flat things; == and != of them, in. -/
namespace L2
open PySem PySem.Spec PyProof.Rows
inductive Tr where
  | lf (v : V) | ls (ts : List Tr) | tp (ts : List Tr)
mutual
def TrAt (K : PySem.W.Frag) (H : Hp) : Tr → V → Prop
  | .lf v, x => x = v ∧ flatV v = true
  | .ls ts, x => ∃ a xs, x = .ref a ∧ SqL K H a xs ∧ TrsAt K H ts xs
  | .tp ts, x => ∃ a xs, x = .ref a ∧ SqT K H a xs ∧ TrsAt K H ts xs
def TrsAt (K : PySem.W.Frag) (H : Hp) : List Tr → List V → Prop
  | [], xs => xs = []
  | t :: ts, xs => ∃ y ys, xs = y :: ys ∧ TrAt K H t y ∧ TrsAt K H ts ys
end
mutual
def eqTr : Tr → Tr → Bool
  | .lf v, .lf w => eqV v w
  | .ls ts, .ls us => eqTrs ts us
  | .tp ts, .tp us => eqTrs ts us
  | _, _ => false
def eqTrs : List Tr → List Tr → Bool
  | [], [] => true
  | t :: ts, u :: us => eqTr t u && eqTrs ts us
  | _, _ => false
end
mutual
def deep : Tr → Nat
  | .lf _ => 0
  | .ls ts => deeps ts + 1
  | .tp ts => deeps ts + 1
def deeps : List Tr → Nat
  | [] => 0
  | t :: ts => max (deep t) (deeps ts)
end
theorem TrsAt.len {K : PySem.W.Frag} {H : Hp} : ∀ {ts : List Tr} {xs : List V}, TrsAt K H ts xs → ts.length = xs.length
  | [], xs, h => by rw [TrsAt] at h; rw [h]; rfl
  | t :: ts, xs, h => by
    rw [TrsAt] at h
    obtain ⟨y, ys, rfl, _, h⟩ := h
    simp [TrsAt.len h]
theorem TrsAt.get {K : PySem.W.Frag} {H : Hp} : ∀ {ts : List Tr} {xs : List V} {j : Nat} {x : V}, TrsAt K H ts xs → xs[j]? = some x → ∃ t, ts[j]? = some t ∧ TrAt K H t x
  | [], xs, j, x, h, e => by rw [TrsAt] at h; subst h; simp at e
  | t :: ts, xs, 0, x, h, e => by
    rw [TrsAt] at h
    obtain ⟨y, ys, rfl, h1, h⟩ := h
    cases e
    exact ⟨t, rfl, h1⟩
  | t :: ts, xs, j + 1, x, h, e => by
    rw [TrsAt] at h
    obtain ⟨y, ys, rfl, h1, h⟩ := h
    exact TrsAt.get (ts := ts) (j := j) h e
theorem TrsAt.of {K : PySem.W.Frag} {H : Hp} : ∀ {ts : List Tr} {xs : List V}, ts.length = xs.length → (∀ (j : Nat) (t : Tr) (x : V), ts[j]? = some t → xs[j]? = some x → TrAt K H t x) → TrsAt K H ts xs
  | [], [], _, _ => by rw [TrsAt]
  | t :: ts, x :: xs, hl, h => by
    rw [TrsAt]
    exact ⟨x, xs, rfl, h 0 t x rfl rfl, TrsAt.of (by simpa using hl) fun j t x e1 e2 => h (j + 1) t x e1 e2⟩
section
variable {X : Cx} {pins : List (Addr × Obj)} {σ : St} {H : Hp} {s : Shared}
end
section
variable {X : Cx}
/-- two lists, or two tuples -/
def SameK : Tr → Tr → Prop
  | .ls _, .ls _ => True
  | .tp _, .tp _ => True
  | _, _ => False
theorem SameK.of {t t' : Tr} (h : SameK t t') : (∃ ts us, t = .ls ts ∧ t' = .ls us) ∨ ∃ ts us, t = .tp ts ∧ t' = .tp us := by
  cases t <;> cases t' <;> first | exact .inl ⟨_, _, rfl, rfl⟩ | exact .inr ⟨_, _, rfl, rfl⟩ | exact h.elim
/-- == of lists, and of tuples, nested at most n deep -/
def rEqD (K : PySem.W.Frag) (n : Nat) (neg : Bool) (x y : V) (H : Hp) (Q : VK) : Prop := ∃ t t', SameK t t' ∧ TrAt K H t x ∧ TrAt K H t' y ∧ deep t ≤ n ∧ deep t' ≤ n ∧ Q (.bl (neg ^^ eqTr t t')) H
end
/-! ### when == is = -/
/-! ### in -/
section
variable {X : Cx} {pins : List (Addr × Obj)} {σ : St} {H : Hp} {s : Shared}
open Classical in
end
section
variable {X : Cx}
def inTr (t : Tr) (ts : List Tr) : Bool := ts.any fun u => eqTr u t
def rInD (K : PySem.W.Frag) (n : Nat) (neg : Bool) : R2 := fun x y H Q => ∃ p xs ts t, y = .ref p ∧ (SqL K H p xs ∨ SqT K H p xs) ∧ TrsAt K H ts xs ∧ TrAt K H t x ∧ deep t ≤ n ∧ deeps ts ≤ n ∧ Q (.bl (neg ^^ inTr t ts)) H
end
/-! ### making trees -/
mutual
theorem TrAt.mono {K : PySem.W.Frag} {H H' : Hp} (S : Same H H') : ∀ {t : Tr} {x : V}, TrAt K H t x → TrAt K H' t x
  | .lf v, x, h => by rw [TrAt] at h ⊢; exact h
  | .ls ts, x, h => by
    rw [TrAt] at h ⊢
    obtain ⟨a, xs, e, sq, h⟩ := h
    exact ⟨a, xs, e, S.seq sq, TrsAt.mono S h⟩
  | .tp ts, x, h => by
    rw [TrAt] at h ⊢
    obtain ⟨a, xs, e, sq, h⟩ := h
    exact ⟨a, xs, e, Same.seqT S sq, TrsAt.mono S h⟩
theorem TrsAt.mono {K : PySem.W.Frag} {H H' : Hp} (S : Same H H') : ∀ {ts : List Tr} {xs : List V}, TrsAt K H ts xs → TrsAt K H' ts xs
  | [], xs, h => by rw [TrsAt] at h ⊢; exact h
  | t :: ts, xs, h => by
    rw [TrsAt] at h ⊢
    obtain ⟨y, ys, e, h1, h2⟩ := h
    exact ⟨y, ys, e, TrAt.mono S h1, TrsAt.mono S h2⟩
end
theorem TrAt.lf {K : PySem.W.Frag} {H : Hp} {v : V} (f : flatV v = true) : TrAt K H (.lf v) v := by rw [TrAt]; exact ⟨rfl, f⟩
theorem TrAt.ls {K : PySem.W.Frag} {H : Hp} {a : Addr} {xs : List V} {ts : List Tr} (h : SqL K H a xs) (q : TrsAt K H ts xs) : TrAt K H (.ls ts) (.ref a) := by rw [TrAt]; exact ⟨a, xs, rfl, h, q⟩
theorem TrAt.tp {K : PySem.W.Frag} {H : Hp} {a : Addr} {xs : List V} {ts : List Tr} (h : SqT K H a xs) (q : TrsAt K H ts xs) : TrAt K H (.tp ts) (.ref a) := by rw [TrAt]; exact ⟨a, xs, rfl, h, q⟩
theorem TrsAt.nil {K : PySem.W.Frag} {H : Hp} : TrsAt K H [] [] := by rw [TrsAt]
theorem TrsAt.cons {K : PySem.W.Frag} {H : Hp} {t : Tr} {ts : List Tr} {x : V} {xs : List V} (h : TrAt K H t x) (q : TrsAt K H ts xs) : TrsAt K H (t :: ts) (x :: xs) := by rw [TrsAt]; exact ⟨x, xs, rfl, h, q⟩
theorem TrsAt.flat {K : PySem.W.Frag} {H : Hp} : ∀ {xs : List V}, xs.all flatV = true → TrsAt K H (xs.map Tr.lf) xs
  | [], _ => TrsAt.nil
  | x :: xs, f => by
    rw [List.all_cons, Bool.and_eq_true] at f
    exact TrsAt.cons (TrAt.lf f.1) (TrsAt.flat f.2)
theorem TrsAt.append {K : PySem.W.Frag} {H : Hp} : ∀ {ts us : List Tr} {xs ys : List V}, TrsAt K H ts xs → TrsAt K H us ys → TrsAt K H (ts ++ us) (xs ++ ys)
  | [], us, xs, ys, h, q => by rw [TrsAt] at h; subst h; exact q
  | t :: ts, us, xs, ys, h, q => by
    rw [TrsAt] at h
    obtain ⟨y, zs, rfl, h1, h2⟩ := h
    exact TrsAt.cons h1 (TrsAt.append h2 q)
theorem e_eqD {K : PySem.W.Frag} {n : Nat} {neg : Bool} {x y : V} {H : Hp} {Q : VK} : rEqD K n neg x y H Q = ∃ t t', SameK t t' ∧ TrAt K H t x ∧ TrAt K H t' y ∧ deep t ≤ n ∧ deep t' ≤ n ∧ Q (.bl (neg ^^ eqTr t t')) H := rfl
theorem e_inD {K : PySem.W.Frag} {n : Nat} {neg : Bool} {x y : V} {H : Hp} {Q : VK} : rInD K n neg x y H Q = ∃ p xs ts t, y = .ref p ∧ (SqL K H p xs ∨ SqT K H p xs) ∧ TrsAt K H ts xs ∧ TrAt K H t x ∧ deep t ≤ n ∧ deeps ts ≤ n ∧ Q (.bl (neg ^^ inTr t ts)) H := rfl
end L2

set_option Elab.async false
set_option maxRecDepth 100000
/-! Strings: the walk through one, str * int. -/
namespace L2
open PySem PySem.Spec PyProof.Rows
/-- the signs of a str, one by one -/
def chr1 (c : Nat) : Str := ⟨#[c]⟩
def Itw (x : Str) : It := ⟨fun i _ => i < x.cps.size, fun i H v H' => H' = H ∧ ∃ c, x.cps[i]? = some c ∧ v = .str (chr1 c), fun i _ => x.cps.size ≤ i⟩
theorem turn_strA {P : Program} {w : World} {K : PySem.W.Frag} {tg : Expr} (it : Addr) (x : Str) (t : Tok) : Turn P w K tg (Itw x) [it] it (fun i h => h.IsStrIter it "str_ascii_iterator" x t i) where
  mem := by simp
  obj := fun i h st b hb => by
    have e : b = it := by simpa using hb
    subst e
    obtain ⟨o, e, c, d⟩ := st
    exact ⟨o, e, fun v z => by rw [d] at z; cases z⟩
  keep := fun i h h' st k => by
    obtain ⟨o, e, r⟩ := st
    exact ⟨o, k it (by simp) o e, r⟩
  item := by
    intro X hP hw hK hc i pins s σ H E I hf st hg
    subst hP hw hK
    have hi : i < x.cps.size := hg
    obtain ⟨f0, f1, f2, f3, f4, f5⟩ := hf it (by simp)
    refine wpAny_pyNext_ascii_item st (c := x.cps[i]) (by simp [hi]) fun h' st' sb => ?_
    have I1 : Inv X pins σ H { s with heap := h', toks := s.toks + 1 } := I.turned (t' := s.toks + 1) (fun b o hb e => (sb.2 b hb).trans e) f0 f1 f3 f4 f5
    obtain ⟨o, e, c, d⟩ := id st'
    exact ⟨_, rfl, go_of (s := { s with heap := h', toks := s.toks + 1 }) e c d (by decide) ⟨.str (chr1 x.cps[i]), H, I1, ⟨_, rfl⟩, ⟨rfl, _, by simp [hi], rfl⟩, st', fun b hb => (hf b hb).1⟩⟩
  done := by
    intro X hP hw hK hc i pins s σ H E I hf st hg
    subst hP hw hK
    have hi : x.cps.size ≤ i := hg
    obtain ⟨f0, f1, f2, f3, f4, f5⟩ := hf it (by simp)
    exact wpAny_pyNext_ascii_end (I.ok.hd hc) st (by simp [hi]) fun h' eb => ⟨rfl, I.turned (t' := s.toks) (fun b o hb e => eb b o hb e) f0 f1 f3 f4 f5⟩
  self := fun _ _ _ _ _ st h => wpAny_pyIter_striter_ascii st h
theorem turn_strW {P : Program} {w : World} {K : PySem.W.Frag} {tg : Expr} (it : Addr) (x : Str) (t : Tok) : Turn P w K tg (Itw x) [it] it (fun i h => h.IsStrIter it "str_iterator" x t i) where
  mem := by simp
  obj := fun i h st b hb => by
    have e : b = it := by simpa using hb
    subst e
    obtain ⟨o, e, c, d⟩ := st
    exact ⟨o, e, fun v z => by rw [d] at z; cases z⟩
  keep := fun i h h' st k => by
    obtain ⟨o, e, r⟩ := st
    exact ⟨o, k it (by simp) o e, r⟩
  item := by
    intro X hP hw hK hc i pins s σ H E I hf st hg
    subst hP hw hK
    have hi : i < x.cps.size := hg
    obtain ⟨f0, f1, f2, f3, f4, f5⟩ := hf it (by simp)
    refine wpAny_pyNext_wide_item st (c := x.cps[i]) (by simp [hi]) fun h' st' sb => ?_
    have I1 : Inv X pins σ H { s with heap := h', toks := s.toks + 1 } := I.turned (t' := s.toks + 1) (fun b o hb e => (sb.2 b hb).trans e) f0 f1 f3 f4 f5
    obtain ⟨o, e, c, d⟩ := id st'
    exact ⟨_, rfl, go_of (s := { s with heap := h', toks := s.toks + 1 }) e c d (by decide) ⟨.str (chr1 x.cps[i]), H, I1, ⟨_, rfl⟩, ⟨rfl, _, by simp [hi], rfl⟩, st', fun b hb => (hf b hb).1⟩⟩
  done := by
    intro X hP hw hK hc i pins s σ H E I hf st hg
    subst hP hw hK
    have hi : x.cps.size ≤ i := hg
    obtain ⟨f0, f1, f2, f3, f4, f5⟩ := hf it (by simp)
    exact wpAny_pyNext_wide_end (I.ok.hd hc) st (by simp [hi]) fun h' eb => ⟨rfl, I.turned (t' := s.toks) (fun b o hb e => eb b o hb e) f0 f1 f3 f4 f5⟩
  self := fun _ _ _ _ _ st h => wpAny_pyIter_striter_wide st h
def iStr (a : TE) : TI := fun σ H R => a σ H fun x H1 => ∃ z, x = .str z ∧ R (Itw z) H1
theorem pi_str {X : Cx} {tg l : Expr} {tl : TE} (hl : PE X l tl) : PI X tg l (iStr tl) := by
  intro pins s σ H R I h
  refine thn (hl pins s σ H _ I h) fun v s1 ⟨x, H1, I1, r1, q1⟩ => ?_
  obtain ⟨z, e, q⟩ := q1
  subst e
  obtain ⟨t, rfl⟩ := r1
  refine wpAny_pyIter_strU ?_
  have fin : ∀ {tn : Nat → Heap → Prop}, Turn X.prog X.w X.K tg (Itw z) [s1.heap.objs.size] s1.heap.objs.size tn → tn 0 (s1.heap.push { cls := .type (strIterType z), data := .fields #[.str z t, .int 0 0] }) →
      PIE X pins σ tg R (.ref s1.heap.objs.size) { s1 with heap := s1.heap.push { cls := .type (strIterType z), data := .fields #[.str z t, .int 0 0] } } := fun {tn} T h0 => by
    refine ⟨s1.heap.objs.size, [s1.heap.objs.size], _, _, H1, rfl, I1.kept (t' := s1.toks) fun b o e => Heap.get?_push_of_some _ e, T, h0, fun b hb => ?_, q⟩
    have e : b = s1.heap.objs.size := by simpa using hb
    subst e
    exact I1.fpOk (Nat.le_refl _) (I1.hok.fresh (Nat.le_refl _))
  cases ha : z.cps.all (· < 128) with
  | true =>
    have e : strIterType z = "str_ascii_iterator" := by simp [strIterType, ha]
    refine fin (turn_strA _ z t) ?_
    exact ⟨_, Heap.get?_push_size _ rfl, by rw [e], rfl⟩
  | false =>
    have e : strIterType z = "str_iterator" := by simp [strIterType, ha]
    refine fin (turn_strW _ z t) ?_
    exact ⟨_, Heap.get?_push_size _ rfl, by rw [e], rfl⟩
theorem e_iStr {a : TE} {σ : St} {H : Hp} {R : It → Hp → Prop} : iStr a σ H R = a σ H fun x H1 => ∃ z, x = .str z ∧ R (Itw z) H1 := rfl
/-! ### str * int -/
def strMul (z : Str) (n : Nat) : Str := ⟨(List.replicate n z.cps.toList).flatten.toArray⟩
theorem foldl_app : ∀ (n : Nat) (a acc : Array Nat), (List.replicate n a).foldl (· ++ ·) acc = acc ++ (List.replicate n a.toList).flatten.toArray := by
  intro n
  induction n with
  | zero => intro a acc; simp
  | succ n ih =>
    intro a acc
    rw [List.replicate_succ, List.foldl_cons, ih, List.replicate_succ, List.flatten_cons]
    apply Array.ext'
    simp
theorem mul_is (z : Str) (n : Int) : Txt.mul z n = strMul z n.toNat := by
  unfold Txt.mul strMul
  by_cases h : n < 1
  · rw [if_pos h, show n.toNat = 0 by omega]; rfl
  · rw [if_neg h]
    by_cases h2 : (n == 1 || z.length == 0) = true
    · rw [if_pos h2]
      rcases Bool.or_eq_true _ _ ▸ h2 with q | q
      · have : n = 1 := by simpa using q
        subst this
        show z = _
        have : (1 : Int).toNat = 1 := rfl
        rw [this]
        simp
      · have e : z.cps.size = 0 := by simpa [Str.length] using q
        have e2 : z.cps = #[] := Array.eq_empty_of_size_eq_zero e
        obtain ⟨c⟩ := z
        simp only at e2
        subst e2
        simp
    · rw [if_neg h2, foldl_app]
      simp
section
variable {X : Cx}
def rMulS : R2 := fun x y H Q => ∃ z n, x = .str z ∧ y = .int n ∧ -(2 ^ 62) ≤ n ∧ n < 2 ^ 31 ∧ z.length * n.toNat ≤ 2 ^ 20 ∧ Q (.str (strMul z n.toNat)) H
theorem op_mulS : OpR X (binaryOp .Mult) rMulS := by
  intro pins s σ H x y v u Q I rx ry h
  obtain ⟨z, n, rfl, rfl, h1, h2, h3, q⟩ := h
  obtain ⟨t, rfl⟩ := rx
  obtain ⟨t', rfl⟩ := ry
  refine SB.mul ⟨?_, fun h4 h5 => ?_, fun h4 h5 => ?_⟩ fun tk k => ?_
  · rw [decide_eq_false (by omega), decide_eq_false (by omega)]; rfl
  · intro h6
    have h7 : (z.length : Int) * n ≤ 2 ^ 20 := by
      have : ((z.length * n.toNat : Nat) : Int) ≤ ((2 ^ 20 : Nat) : Int) := by exact_mod_cast h3
      rw [Int.natCast_mul, Int.toNat_of_nonneg (by omega)] at this
      exact this
    have h8 : (2 ^ 63 - 1 : Int) / n * n ≤ z.length * n := Int.mul_le_mul_of_nonneg_right (by omega) (by omega)
    have h9 := Int.emod_add_mul_ediv (2 ^ 63 - 1 : Int) n
    have h10 : (2 ^ 63 - 1 : Int) % n < n := Int.emod_lt_of_pos _ (by omega)
    rw [Int.mul_comm] at h8
    omega
  · have : z.length * n.toNat ≤ sizeLine := Nat.le_trans h3 (by decide)
    show decide (z.length * n.toNat > sizeLine) = false
    exact decide_eq_false (by omega)
  · rw [mul_is]
    exact ⟨.str (strMul z n.toNat), H, I.tok _, ⟨_, rfl⟩, q⟩
theorem e_mulS {x y : V} {H : Hp} {Q : VK} : rMulS x y H Q = ∃ z n, x = .str z ∧ y = .int n ∧ -(2 ^ 62) ≤ n ∧ n < 2 ^ 31 ∧ z.length * n.toNat ≤ 2 ^ 20 ∧ Q (.str (strMul z n.toNat)) H := rfl
end

theorem e_ixS {x y : V} {H : Hp} {Q : VK} : rIxS x y H Q = ∃ z i c, x = .str z ∧ y = .int i ∧ z.length ≤ sizeLine ∧ atI z.cps.toList i = some c ∧ Q (.str ⟨#[c]⟩) H := rfl
theorem e_rev {x : V} {vs : List V} {H : Hp} {Q : VK} : rReverse x vs H Q = ∃ l xs, x = .ref l ∧ vs = [] ∧ H l = some (.lst xs) ∧ Q .non (upd H l (.lst xs.reverse)) := rfl
theorem e_clear {x : V} {vs : List V} {H : Hp} {Q : VK} : rClear x vs H Q = ∃ l xs, x = .ref l ∧ vs = [] ∧ H l = some (.lst xs) ∧ Q .non (upd H l (.lst [])) := rfl
theorem e_popAt {x : V} {vs : List V} {H : Hp} {Q : VK} : rPopAt x vs H Q = ∃ l xs i k y, x = .ref l ∧ vs = [.int i] ∧ H l = some (.lst xs) ∧ -(2 ^ 63) ≤ i ∧ i < 2 ^ 63 ∧ seqIndex? i xs.length = some k ∧ xs[k]? = some y ∧ Q y (upd H l (.lst (xs.eraseIdx k))) := rfl
theorem e_iT {K : PySem.W.Frag} {a : TE} {σ : St} {H : Hp} {R : It → Hp → Prop} : iTup K a σ H R = a σ H fun x H1 => ∃ p, x = .ref p ∧ (∃ xs, SqT K H1 p xs) ∧ R (Itt K p) H1 := rfl
/-! ### sep.join(texts) -/
theorem strs_of : ∀ {texts : List Str} {us : List Value}, Vals (texts.map V.str) us → ∃ l : List (Str × Tok), us = strValues l ∧ l.map (·.1) = texts
  | [], _, .nil => ⟨[], rfl, rfl⟩
  | x :: texts, _, .cons r t => by
    obtain ⟨tk, rfl⟩ := r
    obtain ⟨l, e1, e2⟩ := strs_of t
    exact ⟨(x, tk) :: l, by rw [e1]; rfl, by rw [List.map_cons, e2]⟩
section
variable {X : Cx}
def rJoin (K : PySem.W.Frag) : V → List V → Hp → VK → Prop := fun x vs H Q => ∃ sep b texts, x = .str sep ∧ vs = [.ref b] ∧ SqL K H b (texts.map V.str) ∧ JoinOk sep texts = true ∧ Q (.str (Txt.join sep texts)) H
theorem mt_join : MtM X "str.join" (rJoin X.K) := by
  intro pins s σ H x vs v us Q I rx rv h
  obtain ⟨sep, b, texts, rfl, rfl, hs, hok, q⟩ := h
  obtain ⟨t, rfl⟩ := rx
  obtain ⟨u, rfl, ru⟩ := rv.one
  cases ru
  obtain ⟨its, r, pl, hz⟩ := I.list hs
  obtain ⟨l, e1, e2⟩ := strs_of r
  subst e1
  exact SC.join pl.isList e2 hok fun t' k => ⟨.str (Txt.join sep texts), H, I.tok _, ⟨_, rfl⟩, q⟩
theorem e_join {K : PySem.W.Frag} {x : V} {vs : List V} {H : Hp} {Q : VK} : rJoin K x vs H Q = ∃ sep b texts, x = .str sep ∧ vs = [.ref b] ∧ SqL K H b (texts.map V.str) ∧ JoinOk sep texts = true ∧ Q (.str (Txt.join sep texts)) H := rfl
end
section
variable {σ : St} {k : Nat} {g : TG} {tt : TT} {te : TE} {H1 : Hp} {Fin : List V → Hp → Prop}
theorem comp_tup {K : PySem.W.Frag} {a : Addr} {xs : List V} (Pv : Nat → List V → Hp → Prop) (h0 : Pv 0 [] H1) (hz : ∀ i ys H, i ≤ xs.length → Pv i ys H → ys.length ≤ sizeLine ∧ SqT K H a xs)
    (hs : ∀ i x ys H, xs[i]? = some x → Pv i ys H → g x (List.replicate k none ++ σ) H fun σ2 H2 => σ2.drop k = σ ∧ tt σ2 H2 fun b H3 => if b = true then te σ2 H3 fun v H4 => Pv (i + 1) (ys ++ [v]) H4 else Pv (i + 1) ys H3)
    (hd : ∀ ys H, Pv xs.length ys H → Fin ys H) : CompW (Itt K a) σ k g tt te H1 Fin := by
  refine ⟨fun i m ys H => m = xs.length - i ∧ i ≤ xs.length ∧ Pv i ys H, ⟨xs.length, by simp, Nat.zero_le _, h0⟩, ?_⟩
  rintro i m ys H ⟨rfl, hi, p⟩
  have q := (hz i ys H hi p).2
  refine ⟨(hz i ys H hi p).1, ?_⟩
  by_cases hlt : i < xs.length
  · refine .inr ⟨⟨xs, xs[i], q, by simp [hlt]⟩, Pv (i + 1), fun ys' H' p' => ⟨xs.length - (i + 1), by omega, rfl, hlt, p'⟩, fun x H' y => ?_⟩
    obtain ⟨e, y⟩ := y
    subst e
    exact hs i x ys _ (y xs q) p
  · have e : i = xs.length := by omega
    subst e
    exact .inl ⟨⟨xs, q, Nat.le_refl _⟩, hd ys H p⟩
end
theorem star_of {e : Expr} {es : List Expr} {env : Env} (h : ∀ e' p, e ≠ .Starred e' p) : starEach (e :: es) env = (false, eval e env) :: starEach es env := by
  cases e <;> first | rfl | exact absurd rfl (h _ _)
/-! ### a list or a tuple, walked -/
def iSeq (K : PySem.W.Frag) (tl : TE) : TI := fun σ H R => tl σ H fun x H1 => ∃ a, x = .ref a ∧ (((∃ xs, SqL K H1 a xs) ∧ R (Itl K a) H1) ∨ ((∃ xs, SqT K H1 a xs) ∧ R (Itt K a) H1))
theorem pi_seq {X : Cx} {tg l : Expr} {tl : TE} (hl : PE X l tl) : PI X tg l (iSeq X.K tl) := by
  intro pins s σ H R I h
  refine thn (hl pins s σ H _ I h) fun v s1 ⟨x, H1, I1, r1, q1⟩ => ?_
  obtain ⟨a, e, q⟩ := q1
  subst e
  cases r1
  rcases q with ⟨⟨xs, hq⟩, q⟩ | ⟨⟨xs, hq⟩, q⟩
  · obtain ⟨its, rv, p, hz⟩ := I1.list hq
    refine wpAny_pyIter_list p.isList ?_
    refine ⟨s1.heap.objs.size, [s1.heap.objs.size], _, _, H1, rfl, I1.kept (t' := s1.toks) fun b o e => Heap.get?_push_of_some _ e, turn_list a _, ⟨_, Heap.get?_push_size _ rfl, rfl, rfl⟩, fun b hb => ?_, q⟩
    have e : b = s1.heap.objs.size := by simpa using hb
    subst e
    exact I1.fpOk (Nat.le_refl _) (I1.hok.fresh (Nat.le_refl _))
  · obtain ⟨its, rv, p, hz⟩ := I1.tuple hq
    refine wpAny_pyIter_tuple (show s1.heap.IsTuple a its.toArray from p) ?_
    refine ⟨s1.heap.objs.size, [s1.heap.objs.size], _, _, H1, rfl, I1.kept (t' := s1.toks) fun b o e => Heap.get?_push_of_some _ e, turn_tuple a _, ⟨_, Heap.get?_push_size _ rfl, rfl, rfl⟩, fun b hb => ?_, q⟩
    have e : b = s1.heap.objs.size := by simpa using hb
    subst e
    exact I1.fpOk (Nat.le_refl _) (I1.hok.fresh (Nat.le_refl _))
theorem e_iSeq {K : PySem.W.Frag} {tl : TE} {σ : St} {H : Hp} {R : It → Hp → Prop} : iSeq K tl σ H R = tl σ H fun x H1 => ∃ a, x = .ref a ∧ (((∃ xs, SqL K H1 a xs) ∧ R (Itl K a) H1) ∨ ((∃ xs, SqT K H1 a xs) ∧ R (Itt K a) H1)) := rfl
/-! ### tuple(list) -/
section
variable {X : Cx}
def rTupL (K : PySem.W.Frag) : List V → Hp → VK → Prop := fun xs H Q => ∃ p ys, xs = [.ref p] ∧ SqL K H p ys ∧ ∀ l, H l = none → Q (.ref l) (upd H l (.tup ys))
theorem call_tupL : CallR X (.type "tuple") (rTupL X.K) := fun pins s σ H xs us Q I r h => by
  obtain ⟨p, ys, e, hq, q⟩ := h
  exact call_tuple_of pins s σ H xs us Q I r ⟨p, ys, e, .inl ⟨hq, q⟩⟩
theorem e_tupL {K : PySem.W.Frag} {xs : List V} {H : Hp} {Q : VK} : rTupL K xs H Q = ∃ p ys, xs = [.ref p] ∧ SqL K H p ys ∧ ∀ l, H l = none → Q (.ref l) (upd H l (.tup ys)) := rfl
end
theorem e_disp {trs : List (TE × TE)} {σ : St} {H : Hp} {Q : VK} : tDisp trs σ H Q = ∀ p, H p = none → tPairs trs σ (upd H p (.dK [])) fun ps H2 => H2 p = some (.dK []) ∧ ∃ kvs : List (Key × V), ps = kvs.map (fun kv => (kV kv.1, kv.2)) ∧ kvs.length ≤ 15 ∧ Q (.ref p) (upd H2 p (.dK (mergeK [] kvs))) := rfl
theorem e_pairs0 {σ : St} {H : Hp} {Q : List (V × V) → Hp → Prop} : tPairs [] σ H Q = Q [] H := rfl
theorem e_pairs {tk tv : TE} {r : List (TE × TE)} {σ : St} {H : Hp} {Q : List (V × V) → Hp → Prop} : tPairs ((tk, tv) :: r) σ H Q = tk σ H fun x H1 => tv σ H1 fun y H2 => tPairs r σ H2 fun ps H3 => Q ((x, y) :: ps) H3 := rfl
/-! ### joined signs -/
end L2

set_option Elab.async false
set_option maxRecDepth 100000
/-! min and max of a list of whole numbers. -/
namespace L2
open PySem PySem.Spec PyProof.Rows
section
variable {X : Cx}
def rMinL (K : PySem.W.Frag) (xs : List V) (H : Hp) (Q : VK) : Prop := ∃ (p : Addr) (ns : List Int), xs = [.ref p] ∧ SqL K H p (ns.map V.int) ∧ 0 < ns.length ∧ ∀ m, m ∈ ns → (∀ a ∈ ns, m ≤ a) → Q (.int m) H
def rMaxL (K : PySem.W.Frag) (xs : List V) (H : Hp) (Q : VK) : Prop := ∃ (p : Addr) (ns : List Int), xs = [.ref p] ∧ SqL K H p (ns.map V.int) ∧ 0 < ns.length ∧ ∀ m, m ∈ ns → (∀ a ∈ ns, a ≤ m) → Q (.int m) H
theorem e_minL {K : PySem.W.Frag} {xs : List V} {H : Hp} {Q : VK} : rMinL K xs H Q = ∃ (p : Addr) (ns : List Int), xs = [.ref p] ∧ SqL K H p (ns.map V.int) ∧ 0 < ns.length ∧ ∀ m, m ∈ ns → (∀ a ∈ ns, m ≤ a) → Q (.int m) H := rfl
theorem e_maxL {K : PySem.W.Frag} {xs : List V} {H : Hp} {Q : VK} : rMaxL K xs H Q = ∃ (p : Addr) (ns : List Int), xs = [.ref p] ∧ SqL K H p (ns.map V.int) ∧ 0 < ns.length ∧ ∀ m, m ∈ ns → (∀ a ∈ ns, a ≤ m) → Q (.int m) H := rfl
theorem call_maxL (hc : X.calm = true) : CallR X (.builtin "max") (rMaxL X.K) := by
  intro pins s σ H xs us Q I r h
  obtain ⟨p, ns, rfl, hq, hne, q⟩ := h
  obtain ⟨u, rfl, rx⟩ := Vals.one r
  cases rx
  obtain ⟨its, rv, pl, hz⟩ := I.list hq
  have hi : IntsAre its ns := intsAre_of rv
  obtain ⟨zs, hx⟩ := hi.allInts.items
  have hl' : s.heap.IsList p (intItems zs) := hx ▸ pl.isList
  have hns : ns = zs.toList.map (·.1) := by
    rw [← nums_intItems, ← hx]
    exact (show numsOf its.toArray.toList = ns from hi.numsOf).symm
  have hsz : 0 < zs.size := by
    have h3 := hne; rw [hns, List.length_map, Array.length_toList] at h3; exact h3
  refine max_intList (I.ok.hd hc) hl' hsz fun v h' tk hv hk => ?_
  obtain ⟨t, rfl⟩ := intItems_at hv
  obtain ⟨h1, h2⟩ := argBest_gt (numAt zs) (zs.size - 1)
  refine ⟨V.int _, H, I.kept hk, ⟨_, rfl⟩, q _ ?_ fun a ha => ?_⟩
  · rw [hns, numAt_eq]; exact getD_mem (by rw [List.length_map, Array.length_toList]; omega)
  · rw [hns] at ha
    obtain ⟨j, hj, rfl⟩ := mem_getD ha
    rw [List.length_map, Array.length_toList] at hj
    rw [← numAt_eq]; exact h2 j (by omega)
end
end L2

set_option Elab.async false
set_option maxRecDepth 100000
/-! list(reversed(xs)), list(range(n)). -/
namespace L2
open PySem PySem.Spec PyProof.Rows
section
variable {prog : Program} {w : World} {A : Around} {E : Value → Shared → Prop} {s : Shared}
end
section
variable {X : Cx}
def tListRev (K : PySem.W.Frag) (t : TA) : TE := fun σ H Q => t σ H fun vs H1 => ∃ p xs, vs = [.ref p] ∧ SqL K H1 p xs ∧ ∀ l, H1 l = none → Q (.ref l) (upd H1 l (.lst xs.reverse))
theorem e_listRev {K : PySem.W.Frag} {t : TA} {σ : St} {H : Hp} {Q : VK} : tListRev K t σ H Q = t σ H fun vs H1 => ∃ p xs, vs = [.ref p] ∧ SqL K H1 p xs ∧ ∀ l, H1 l = none → Q (.ref l) (upd H1 l (.lst xs.reverse)) := rfl
def tListRng (t : TA) : TE := fun σ H Q => t σ H fun vs H1 => ∃ j : Nat, vs = [.int j] ∧ j ≤ 1000 ∧ ∀ l, H1 l = none → Q (.ref l) (upd H1 l (.lst (((List.range j).map fun i : Nat => ((i : Nat) : Int)).map V.int)))
theorem e_listRng {t : TA} {σ : St} {H : Hp} {Q : VK} : tListRng t σ H Q = t σ H fun vs H1 => ∃ j : Nat, vs = [.int j] ∧ j ≤ 1000 ∧ ∀ l, H1 l = none → Q (.ref l) (upd H1 l (.lst (((List.range j).map fun i : Nat => ((i : Nat) : Int)).map V.int))) := rfl
end
end L2

set_option Elab.async false
set_option maxRecDepth 100000
/-! len(set(xs)) of texts; <= of texts; a text walked in a comprehension. -/
namespace L2
open PySem PySem.Spec PyProof.Rows
/-- the texts met, each once -/
def seen (val : Nat → Str) : Nat → List Str
  | 0 => []
  | i + 1 => if val i ∈ seen val i then seen val i else seen val i ++ [val i]
theorem seen_len (val : Nat → Str) : ∀ i, (seen val i).length ≤ i
  | 0 => Nat.le_refl _
  | i + 1 => by
    have := seen_len val i
    unfold seen
    split
    · omega
    · rw [List.length_append, List.length_singleton]; omega
theorem seen_mem (val : Nat → Str) (i : Nat) (k : Str) : (decide (k ∈ seen val i) || decide (k = val i)) = decide (k ∈ seen val (i + 1)) := by
  conv => rhs; unfold seen
  split
  · rename_i h
    by_cases e : k = val i
    · subst e; simp [h]
    · simp [e]
  · simp
theorem seen_count (val : Nat → Str) (i : Nat) : (if decide (val i ∈ seen val i) = true then (seen val i).length else (seen val i).length + 1) = (seen val (i + 1)).length := by
  conv => rhs; unfold seen
  by_cases h : val i ∈ seen val i
  · simp [h]
  · simp [h]
section
variable {prog : Program} {w : World} {A : Around} {R : Result → Shared → Prop} {I : Addr} {fp wr : List Addr} {G : Array GenState → Array GenState → Prop} {n : Nat} {P : Nat → Value → Prop} {St : Nat → Shared → Prop}
theorem set_loop_str (W : WalksS prog w A.in1 I fp wr G n P St) (T : Addr) (hT : T ∉ fp) (val : Nat → Str) (hval : ∀ i v, P i v → ∃ t, v = .str (val i) t) (hb : n + 1 < scanBound) :
    ∀ (k i : Nat) (s : Shared), n - i = k → i ≤ n → St i s → s.heap.SetOf (PySem.strKind prog w) T (fun k' => decide (k' ∈ seen val i)) (seen val i).length →
      (∀ s', Moved (T :: wr) G s s' → s'.heap.SetOf (PySem.strKind prog w) T (fun k' => decide (k' ∈ seen val n)) (seen val n).length → R (.ok (.ret .none)) s') →
      codeAny (model prog w) A (.builtin "set.update.loop" ⟨[.ref T, .ref I], []⟩) R s := by
  have hTw : T ∉ wr := fun h => hT (W.sub _ h)
  have sub : ∀ b ∈ wr, b ∈ T :: wr := fun b h => List.mem_cons_of_mem _ h
  intro k
  induction k with
  | zero =>
    intro i s hk hi hst hS hR
    obtain rfl : i = n := by omega
    refine codeAny_builtin PyProof.Rows.F.entry_set_update_loop ?_
    rw [Around.under_plainId PyProof.Rows.F.plain_set_update_loop _]
    show wpAny _ A.in1 (pyNext (.ref I) >>= _) _ _ s
    refine wpAny_bind (W.done s _ _ hst fun s' hm => ?_)
    refine wpAny_pure (hR s' (hm.mono sub) ?_)
    obtain ⟨o, es, ep, t, ho, r⟩ := hS
    exact ⟨o, es, ep, t, hm.heap T _ hTw ho, r⟩
  | succ k ih =>
    intro i s hk hi hst hS hR
    have hlt : i < n := by omega
    refine codeAny_builtin PyProof.Rows.F.entry_set_update_loop ?_
    rw [Around.under_plainId PyProof.Rows.F.plain_set_update_loop _]
    show wpAny _ A.in1 (pyNext (.ref I) >>= _) _ _ s
    refine wpAny_bind (W.item i s _ _ hlt hst fun v s' hP hst' hm => ?_)
    obtain ⟨t, rfl⟩ := hval i v hP
    have hS' : s'.heap.SetOf (PySem.strKind prog w) T (fun k' => decide (k' ∈ seen val i)) (seen val i).length := by
      obtain ⟨o, es, ep, tb, ho, r⟩ := hS
      exact ⟨o, es, ep, tb, hm.heap T _ hTw ho, r⟩
    show wpAny _ A.in1 (holding [Value.str (val i) t] (setAdd T (.str (val i) t)) >>= _) _ _ s'
    refine wpAny_bind (wpAny_holding ?_)
    unfold setAdd
    refine wpAny_holding (wpAny_bind ((PySem.strKind prog w).pyHash (k := val i) (strKind_is _ _ _ _) ?_))
    have room : (seen val i).length + 1 < scanBound := by have := seen_len val i; omega
    refine wpAny_setAddHashed_of (knd := PySem.strKind prog w) (s := { s' with toks := s'.toks + 1 }) (strKind_is _ _ _ _) rfl hS' room fun h' hsb hS2 => ?_
    have hSi : h'.SetOf (PySem.strKind prog w) T (fun k' => decide (k' ∈ seen val (i + 1))) (seen val (i + 1)).length := by
      have e1 := seen_count val i
      have e2 : (fun k' => decide (k' ∈ seen val (i + 1))) = fun k' => (decide (k' ∈ seen val i) || decide (k' = val i)) := funext fun k' => (seen_mem val i k').symm
      rw [← e1, e2]
      exact hS2
    refine wpAny_pure ⟨plainId_quiet PyProof.Rows.F.plain_set_update_loop _, ih (i + 1) _ (by omega) hlt (W.frame _ s' _ _ hst' (Nat.le_succ _) fun b hb o e => ?_) hSi fun s2 hm2 hS2' => ?_⟩
    · rw [hsb.2 b (fun z : b = T => hT (z ▸ hb))]; exact e
    · refine hR s2 (Moved.trans W.gtrans ((hm.mono sub).then_heap (Nat.le_succ _) fun b o hb e => ?_) hm2) hS2'
      rw [hsb.2 b (fun z : b = T => hb (z ▸ List.mem_cons_self))]; exact e
end
abbrev setO (led : Bool) : Obj := { cls := .type "set", dict := none, data := .set #[] 0 (.fresh 0 0 led) }
section
variable {prog : Program} {w : World} {A : Around} {E : Value → Shared → Prop} {s : Shared}
def SetDone (prog : Program) (w : World) (s : Shared) (val : Nat → Str) (n : Nat) (h' : Heap) : Prop :=
  h'.SetOf (PySem.strKind prog w) s.heap.objs.size (fun k' => decide (k' ∈ seen val n)) (seen val n).length ∧ ∀ b o, b < s.heap.objs.size → s.heap.get? b = some o → h'.get? b = some o
set_option maxHeartbeats 3200000 in
theorem call_set_strs {l : Addr} {items : Array Value} {val : Nat → Str} {Q : Value → Shared → Prop} (hh : A.handled = none) (hl : s.heap.IsList l items) (hv : ∀ (i : Nat) v, items[i]? = some v → ∃ t, v = .str (val i) t) (hb : items.size + 1 < scanBound)
    (h : ∀ (h' : Heap) (tk : Nat), SetDone prog w s val items.size h' → Q (.ref s.heap.objs.size) { s with heap := h', toks := tk }) : wpAny (model prog w) A (call (.type "set") [.ref l]) Q E s := by
  obtain ⟨c, tl, hmro⟩ := F.called_set.mro
  have hmade := F.called_set.made
  have hsub := F.called_set.sub
  refine wpAny_call (codeAny_of_tree ?_)
  show wpAny _ _ (callAny (.type "set") _) _ _ _
  refine wpAny_pure ⟨Code.quiet_builtin _ (by decide +kernel), codeAny_builtin F.entry_type_call ?_⟩
  rw [Around.under_plain (weight_type_call_type "set" [.ref l] []) rfl]
  have h1 := F.called_set.notType
  have h2 := F.called_set.canCreate
  have hct := F.typeCall_set_1 (.ref l)
  repeat (any_goals (first | assumption | wp_step))
  refine codeAny_mono (code_set_new_1 (.ref l) (E := E) (Q₁ := fun obj s₁ => ∃ led : Bool, obj = .ref s.heap.objs.size ∧ s₁ = { s with heap := s.heap.push (setO led) }) fun led => ⟨led, rfl, rfl⟩) fun r s₁ hr => ?_
  match r, hr with
  | .error e, hr => exact hr
  | .ok .next, hr => exact hr.elim
  | .ok .brk, hr => exact hr.elim
  | .ok .cont, hr => exact hr.elim
  | .ok (.ret obj), hr =>
    obtain ⟨led, rfl, rfl⟩ := hr
    have hS : (s.heap.push (setO led)).get? s.heap.objs.size = some (setO led) := Heap.get?_push_size _ rfl
    have hT : Shared.TypeIs { s with heap := s.heap.push (setO led) } (.ref s.heap.objs.size) "set" := ⟨_, hS, rfl⟩
    have hli := F.called_set.init.lookup
    have hbi := F.called_set.init.bind (.ref s.heap.objs.size)
    repeat (any_goals (first | assumption | wp_step))
    refine codeAny_mono (codeAny_call_builtin (R := wants (fun r s₂ => r = .none ∧ ∃ h' tk, s₂ = { s with heap := h', toks := tk } ∧ SetDone prog w s val items.size h') E) F.called_set.init.plain F.entry_set_init (check_set_init_1 hT ?_)) fun r₂ s₂ hr₂ => ?_
    · obtain ⟨ol, hol, hcl, nl, hdl⟩ := id hl
      have hl1 : (s.heap.push (setO led)).IsList l items := hl.push _
      obtain ⟨ocls, odict, odata, oslots⟩ := ol
      simp only at hcl hdl
      subst hcl; subst hdl
      have hol' : (s.heap.push (setO led)).get? l = some { cls := .type "list", dict := odict, data := .seq items nl, slots := oslots } := Heap.get?_push_of_some _ hol
      have hsls := F.sub_list_set
      have hslf := F.sub_list_frozenset
      have hne : (Value.type "list" == Value.type "dict") = false := by decide
      unfold Builtin.«set.__init__» noKeywords Builtin.Frozenset.updateFrom
      generalize hPI : pyIter = PI
      wp_walk
      subst hPI
      refine wpAny_pyIter_list hl1 ?_
      refine wpAny_bind (wpAny_runValue ?_)
      have hlS : l < s.heap.objs.size := Heap.lt_size hol
      have hsz : (s.heap.push (setO led)).objs.size = s.heap.objs.size + 1 := size_push' ..
      have hneI : l ≠ (s.heap.push (setO led)).objs.size := by rw [hsz]; exact Nat.ne_of_lt (Nat.lt_succ_of_lt hlS)
      have hSf : s.heap.objs.size ∉ [(s.heap.push (setO led)).objs.size, l] := by
        rw [hsz]
        simp only [List.mem_cons, List.not_mem_nil, or_false, not_or]
        exact ⟨Nat.ne_of_lt (Nat.lt_succ_self _), Nat.ne_of_gt hlS⟩
      refine set_loop_str ((Walks.list (by simp [hh]) _ l hneI items).toS) s.heap.objs.size hSf val hv hb (items.size - 0) 0 _ (by omega) (Nat.zero_le _) ⟨⟨_, Heap.get?_push_size _ rfl, rfl, rfl⟩, hl1.push _⟩ ?_ ?_
      · have hget : ((s.heap.push (setO led)).push { cls := .type "list_iterator", data := .fields #[.ref l, .int 0 0] }).get? s.heap.objs.size = some (setO led) := Heap.get?_push_of_some _ hS
        exact (PyProof.Rows.setObjOf_fresh (knd := PySem.strKind prog w) led).setOf hget (by unfold scanBound; omega)
      · intro s' hm hS'
        rw [Moved.eq_with hm]
        refine wpAny_pure ?_
        refine wpAny_pure ⟨rfl, s'.heap, s'.toks, rfl, hS', fun b o hb e => hm.heap b o ?_ (Heap.get?_push_of_some _ (Heap.get?_push_of_some _ e))⟩
        rw [hsz]
        simp only [List.mem_cons, List.not_mem_nil, or_false, not_or]
        exact ⟨Nat.ne_of_lt hb, Nat.ne_of_lt (Nat.lt_succ_of_lt hb)⟩
    · match r₂, hr₂ with
      | .error e, hr₂ => exact hr₂
      | .ok .next, hr₂ => exact hr₂.elim
      | .ok .brk, hr₂ => exact hr₂.elim
      | .ok .cont, hr₂ => exact hr₂.elim
      | .ok (.ret r), hr₂ =>
        obtain ⟨rfl, h', tk, rfl, hd⟩ := hr₂
        repeat (any_goals (first | assumption | wp_step))
        exact h _ _ hd
end
end L2

set_option Elab.async false
set_option maxRecDepth 100000
/-! the rules of len(set(xs)) of texts, of <= of texts, of a text walked. -/
namespace L2
open PySem PySem.Spec PyProof.Rows
theorem strs_val {zs : List Str} {us : List Value} (r : Vals (zs.map V.str) us) (i : Nat) (v : Value) (h : us[i]? = some v) : ∃ t, v = .str (zs.getD i ⟨#[]⟩) t := by
  have hl := r.length
  rw [List.length_map] at hl
  have hi : i < zs.length := by rw [hl]; exact (List.getElem?_eq_some_iff.mp h).1
  obtain ⟨u, hu, ru⟩ := r.get (i := i) (x := V.str zs[i]) (by simp [hi])
  rw [h] at hu
  cases hu
  obtain ⟨t, rfl⟩ := ru
  exact ⟨t, by simp [List.getD_eq_getElem?_getD, hi]⟩
section
variable {X : Cx}
def tLenSet (K : PySem.W.Frag) (t : TA) : TE := fun σ H Q => t σ H fun vs H1 => ∃ (p : Addr) (zs : List Str), vs = [.ref p] ∧ SqL K H1 p (zs.map V.str) ∧ zs.length ≤ 1000 ∧ Q (.int (seen (fun i => zs.getD i ⟨#[]⟩) zs.length).length) H1
theorem e_lenSet {K : PySem.W.Frag} {t : TA} {σ : St} {H : Hp} {Q : VK} : tLenSet K t σ H Q = t σ H fun vs H1 => ∃ (p : Addr) (zs : List Str), vs = [.ref p] ∧ SqL K H1 p (zs.map V.str) ∧ zs.length ≤ 1000 ∧ Q (.int (seen (fun i => zs.getD i ⟨#[]⟩) zs.length).length) H1 := rfl
theorem pe_lenSet {e : Expr} {t : TA} {p1 p2 q1 q2 : Pos} (hc : X.calm = true) (hgL : Gl X "len") (hmL : X.mg "len" = none) (hgR : Gl X "set") (hmR : X.mg "set" = none) (ha : PA X [e] t)
    (he : starEach [e] X.env = (false, eval e X.env) :: starEach [] X.env := by rfl) (he2 : starEach [.Call (.Name "set" p2) [e] [] q2] X.env = (false, eval (.Call (.Name "set" p2) [e] [] q2) X.env) :: starEach [] X.env := by rfl) :
    PE X (.Call (.Name "len" p1) [.Call (.Name "set" p2) [e] [] q2] [] q1) (tLenSet X.K t) := by
  intro pins s σ H Q I h
  refine wpAny_Call_Name_kw (ld_blt I hgL hmL bt_len ?_)
  refine PyProof.Rows.callWith_builtin1 ?_ he2 rfl
  rw [he2]
  show wpAny _ _ (spliced ((false, eval (.Call (.Name "set" p2) [e] [] q2) X.env) :: backTo q1 (starEach [] X.env))) _ _ s
  refine Calls.spliced_cons ?_
  refine wpAny_Call_Name_kw (ld_blt I hgR hmR bt_set ?_)
  refine PyProof.Rows.callWith_type1 (thn (ha q2 pins s σ H _ I h) fun us s1 ⟨vs, H1, I1, r1, q⟩ => ?_) he rfl
  obtain ⟨p, zs, rfl, hq, hz, q⟩ := q
  obtain ⟨u, rfl, rx⟩ := Vals.one r1
  cases rx
  obtain ⟨its, rv, pl, _⟩ := I1.list hq
  have hlen : its.length = zs.length := by have := rv.length; rw [List.length_map] at this; exact this.symm
  refine call_set_strs (val := fun i => zs.getD i ⟨#[]⟩) (I1.ok.hd hc) pl.isList (fun i v hv => strs_val rv i v (by simpa using hv)) (by rw [List.size_toArray, hlen]; exact Nat.lt_of_le_of_lt (Nat.succ_le_succ hz) (by decide)) fun h' tk hd => ?_
  refine Calls.spliced_nil ?_
  obtain ⟨hS, kp⟩ := hd
  rw [show its.toArray.size = zs.length by rw [List.size_toArray, hlen]] at hS
  have I2 : Inv X pins σ H1 { s1 with heap := h', toks := tk } := I1.kept fun b o e => kp b o (Heap.lt_size e) e
  obtain ⟨o, es, ep, t, ho, ex, hd, _, _, hz2, hf, hn⟩ := hS
  have h3 : ((es.size : Nat) : Int) < 2 ^ 63 := by unfold scanBound at hz2; omega
  refine call_len_set ho ex hd hf h3 ⟨.int es.size, H1, I2.tok _, ⟨_, rfl⟩, ?_⟩
  rw [hn]
  exact q
def rLeS (x y : V) (H : Hp) (Q : VK) : Prop := ∃ i j, x = .str i ∧ y = .str j ∧ Q (.bl (!decide (j.cps.toList < i.cps.toList))) H
theorem e_leS {x y : V} {H : Hp} {Q : VK} : rLeS x y H Q = ∃ i j, x = .str i ∧ y = .str j ∧ Q (.bl (!decide (j.cps.toList < i.cps.toList))) H := rfl
theorem op_leS : OpR X (compareOp .LtE) rLeS := by
  intro pins s σ H x y v u Q I rx ry h
  obtain ⟨i, j, rfl, rfl, q⟩ := h
  obtain ⟨t, rfl⟩ := rx
  obtain ⟨t', rfl⟩ := ry
  exact PySem.P.le_str (fin_bl I q rfl)
end
section
variable {σ : St} {k : Nat} {g : TG} {tt : TT} {te : TE} {H1 : Hp} {Fin : List V → Hp → Prop}
theorem comp_str {z : Str} (Pv : Nat → List V → Hp → Prop) (h0 : Pv 0 [] H1) (hz : ∀ i ys H, i ≤ z.cps.size → Pv i ys H → ys.length ≤ sizeLine)
    (hs : ∀ i c ys H, z.cps[i]? = some c → Pv i ys H → g (.str (chr1 c)) (List.replicate k none ++ σ) H fun σ2 H2 => σ2.drop k = σ ∧ tt σ2 H2 fun b H3 => if b = true then te σ2 H3 fun v H4 => Pv (i + 1) (ys ++ [v]) H4 else Pv (i + 1) ys H3)
    (hd : ∀ ys H, Pv z.cps.size ys H → Fin ys H) : CompW (Itw z) σ k g tt te H1 Fin := by
  refine ⟨fun i m ys H => m = z.cps.size - i ∧ i ≤ z.cps.size ∧ Pv i ys H, ⟨z.cps.size, by simp, Nat.zero_le _, h0⟩, ?_⟩
  rintro i m ys H ⟨rfl, hi, p⟩
  refine ⟨hz i ys H hi p, ?_⟩
  by_cases hlt : i < z.cps.size
  · refine .inr ⟨hlt, Pv (i + 1), fun ys' H' p' => ⟨z.cps.size - (i + 1), by omega, rfl, hlt, p'⟩, fun x H' y => ?_⟩
    obtain ⟨e, c, e2, y⟩ := y
    subst e y
    exact hs i c ys _ e2 p
  · have e : i = z.cps.size := by omega
    subst e
    exact .inl ⟨Nat.le_refl _, hd ys H p⟩
end
/-! ### a display of whole numbers -/
def vInts : List Int → List V
  | [] => []
  | i :: is => .int i :: vInts is
theorem e_vI0 : vInts [] = [] := rfl
theorem e_vI {i : Int} {is : List Int} : vInts (i :: is) = .int i :: vInts is := rfl
def tInts (ns : List Int) : TA := fun _ H Q => Q (vInts ns) H
theorem e_ints {ns : List Int} {σ : St} {H : Hp} {Q : List V → Hp → Prop} : tInts ns σ H Q = Q (vInts ns) H := rfl
end L2

set_option Elab.async false
set_option maxRecDepth 100000
/-! for over zip; `is` of truths. -/
namespace L2
open PySem PySem.Spec PyProof.Rows
section
variable {X : Cx}
def rIsB (x y : V) (H : Hp) (Q : VK) : Prop := ∃ b c, x = .bl b ∧ y = .bl c ∧ Q (.bl (b == c)) H
theorem e_isB {x y : V} {H : Hp} {Q : VK} : rIsB x y H Q = ∃ b c, x = .bl b ∧ y = .bl c ∧ Q (.bl (b == c)) H := rfl
end
end L2

set_option Elab.async false
set_option maxRecDepth 100000
/-! a suite, statement by statement, by its places. -/
namespace L2
open PySem PySem.Spec PyProof.Rows
theorem drop_at {α : Type} {l : List α} {k : Nat} {x : α} (h : l[k]? = some x) : l.drop k = x :: l.drop (k + 1) := by
  obtain ⟨hk, e⟩ := List.getElem?_eq_some_iff.mp h
  rw [List.drop_eq_getElem_cons hk, e]
theorem pss_at {X : Cx} {body : List Stmt} {k : Nat} {st : Stmt} {t ts : TS} (hs : PS X st t) (h : body[k]? = some st) (hr : PSs X (body.drop (k + 1)) ts) : PSs X (body.drop k) (tSeq t ts) := by
  rw [drop_at h]
  exact pss_cons hs hr
theorem pss_end {X : Cx} {body : List Stmt} {k : Nat} {st : Stmt} {t : TS} (hs : PS X st t) (h : body[k]? = some st) (hl : body[k + 1]? = none) : PSs X (body.drop k) t := by
  rw [drop_at h, List.drop_eq_nil_of_le (List.getElem?_eq_none_iff.mp hl)]
  exact pss_one hs
theorem pss_all {X : Cx} {body : List Stmt} {t : TS} (h : PSs X (body.drop 0) t) : PSs X body t := h
end L2

set_option Elab.async false
set_option maxRecDepth 100000
/-! tuples put together and cut, also empty and whole ones; a range downwards; extend; places in tuples and lists. -/
namespace L2
open PySem PySem.Spec PyProof.Rows
section
variable {prog : Program} {w : World} {A : Around} {E : Value → Shared → Prop} {s : Shared}
end
section
variable {X : Cx}
/-- t + u of tracked tuples -/
def rCatH : R2 := fun x y H Q => ∃ a b xs ys, x = .ref a ∧ y = .ref b ∧ H a = some (.tup xs) ∧ H b = some (.tup ys) ∧ xs.length + ys.length ≤ sizeLine ∧ ∀ H' p, Same H H' → H' p = some (.tup (xs ++ ys)) → Q (.ref p) H'
theorem e_catH {x y : V} {H : Hp} {Q : VK} : rCatH x y H Q = ∃ a b xs ys, x = .ref a ∧ y = .ref b ∧ H a = some (.tup xs) ∧ H b = some (.tup ys) ∧ xs.length + ys.length ≤ sizeLine ∧ ∀ H' p, Same H H' → H' p = some (.tup (xs ++ ys)) → Q (.ref p) H' := rfl
theorem e_extend {x : V} {vs : List V} {H : Hp} {Q : VK} : rExtend x vs H Q = ∃ l b xs zs, x = .ref l ∧ vs = [.ref b] ∧ H l = some (.lst xs) ∧ H b = some (.lst zs) ∧ xs.length + zs.length ≤ sizeLine ∧ Q .non (upd H l (.lst (xs ++ zs))) := rfl
end
/-! ### a range downwards -/
def iRngD (ta : TA) : TI := fun σ H R => ta σ H fun vs H1 => ∃ i j : Int, vs = [.int i, .int j, .int (-1)] ∧ (-(2 ^ 61) ≤ i ∧ i < 2 ^ 61 ∧ -(2 ^ 61) ≤ j ∧ j < 2 ^ 61) ∧ R (Its i (-1) (i - j).toNat) H1
theorem e_rngD {ta : TA} {σ : St} {H : Hp} {R : It → Hp → Prop} : iRngD ta σ H R = ta σ H fun vs H1 => ∃ i j : Int, vs = [.int i, .int j, .int (-1)] ∧ (-(2 ^ 61) ≤ i ∧ i < 2 ^ 61 ∧ -(2 ^ 61) ≤ j ∧ j < 2 ^ 61) ∧ R (Its i (-1) (i - j).toNat) H1 := rfl
/-! ### slices of tuples, also the whole -/
section
open HT
variable {prog : Program} {w : World} {A : Around} {E : Value → Shared → Prop} {s : Shared}
end
section
variable {X : Cx}
/-- t[lo:hi] of a tracked tuple -/
def rSlH : V → Option Int → Option Int → Hp → VK → Prop := fun x lo hi H Q => ∃ a xs, x = .ref a ∧ H a = some (.tup xs) ∧ ∀ H' p, Same H H' → H' p = some (.tup (cutV xs lo hi)) → Q (.ref p) H'
theorem e_slH {x : V} {lo hi : Option Int} {H : Hp} {Q : VK} : rSlH x lo hi H Q = ∃ a xs, x = .ref a ∧ H a = some (.tup xs) ∧ ∀ H' p, Same H H' → H' p = some (.tup (cutV xs lo hi)) → Q (.ref p) H' := rfl
/-- t[lo:hi], not the whole, of any tuple -/
theorem e_slT {K : PySem.W.Frag} {x : V} {lo hi : Option Int} {H : Hp} {Q : VK} : rSlT K x lo hi H Q = ∃ a xs, x = .ref a ∧ SqT K H a xs ∧ ¬ (HT.sIx xs.length 0 lo = 0 ∧ HT.sIx xs.length xs.length hi = xs.length) ∧ ∀ p, H p = none → Q (.ref p) (upd H p (.tup (cutV xs lo hi))) := rfl
theorem cutV_from {xs : List V} {k : Nat} (h : k ≤ xs.length) : cutV xs (some (k : Int)) none = xs.drop k := by
  unfold cutV
  rw [HT.sIx_none, HT.sIx_nat, Nat.min_eq_left h]
  exact List.take_of_length_le (by rw [List.length_drop]; omega)
end
end L2
namespace L2
open PySem PySem.Spec PyProof.Rows
section
variable {σ : St} {k : Nat} {g : TG} {tt : TT} {te : TE} {H1 : Hp} {Fin : List V → Hp → Prop}
end
end L2
namespace L2
open PySem PySem.Spec PyProof.Rows
/-! ### places of flat things -/
section
variable {X : Cx}
structure FirstAt (xs : List V) (y : V) (j : Nat) : Prop where
  flat : flatV y = true
  flats : xs.all flatV = true
  hit : ∃ z, xs[j]? = some z ∧ eqV z y = true
  no : ∀ (m : Nat) (z : V), m < j → xs[m]? = some z → eqV z y = false
theorem FirstAt.lt {xs : List V} {y : V} {j : Nat} (h : FirstAt xs y j) : j < xs.length := by
  obtain ⟨z, e, _⟩ := h.hit
  exact (List.getElem?_eq_some_iff.mp e).1
theorem eqU_at {xs : List V} {us : List Value} {y z : V} {m : Nat} (r : Vals xs us) (fs : xs.all flatV = true) (e : xs[m]? = some z) (hm : m < us.toArray.size) : eqU y us.toArray[m] = eqV z y := by
  obtain ⟨w, hw, rw'⟩ := r.get e
  have : us.toArray[m] = w := by
    have h2 := (List.getElem?_eq_some_iff.mp hw).2
    simpa using h2
  rw [this]
  exact eqU_of rw' (List.all_eq_true.mp fs _ (List.mem_of_getElem? e))
def rIndexT (K : PySem.W.Frag) : V → List V → Hp → VK → Prop := fun x vs H Q => ∃ p xs y j, x = .ref p ∧ vs = [y] ∧ SqT K H p xs ∧ FirstAt xs y j ∧ Q (.int (j : Nat)) H
def rIndexL (K : PySem.W.Frag) : V → List V → Hp → VK → Prop := fun x vs H Q => ∃ p xs y j, x = .ref p ∧ vs = [y] ∧ SqL K H p xs ∧ FirstAt xs y j ∧ Q (.int (j : Nat)) H
theorem e_indexT {K : PySem.W.Frag} {x : V} {vs : List V} {H : Hp} {Q : VK} : rIndexT K x vs H Q = ∃ p xs y j, x = .ref p ∧ vs = [y] ∧ SqT K H p xs ∧ FirstAt xs y j ∧ Q (.int (j : Nat)) H := rfl
theorem e_indexL {K : PySem.W.Frag} {x : V} {vs : List V} {H : Hp} {Q : VK} : rIndexL K x vs H Q = ∃ p xs y j, x = .ref p ∧ vs = [y] ∧ SqL K H p xs ∧ FirstAt xs y j ∧ Q (.int (j : Nat)) H := rfl
theorem mt_indexL : MtR X "list.index" (rIndexL X.K) := by
  intro pins s σ H x vs v us Q I rx rvs h
  obtain ⟨p, xs, y, j, rfl, rfl, hq, hF, q⟩ := h
  cases rx
  obtain ⟨u, rfl, ru⟩ := vals1 rvs
  obtain ⟨its, r, pl, hz⟩ := I.list hq
  obtain ⟨⟨cls, dd, data, sl⟩, ho, hc, n, hd⟩ := id pl.isList
  simp only at hc hd
  subst hc hd
  have hl := r.length
  have hjl : j < its.toArray.size := by rw [List.size_toArray, ← hl]; exact hF.lt
  have hn := line63
  obtain ⟨z, e, hit⟩ := hF.hit
  refine call_meets PySem.F.slot_list_index ⟨_, ho, rfl⟩ PySem.F.entry_list_index (PySem.F.args_list_index_2 _ _) (SeqAt.list_indexAt p its.toArray n dd sl u (eqU y) j hjl (by have := hF.lt; omega) ?_ ?_) ⟨ho, fun w hw => mem_eqAt ru hF.flat r hF.flats w (by simpa using hw), ⟨.int j, H, I.tok _, ⟨_, rfl⟩, q⟩⟩
  · rw [eqU_at r hF.flats e]; exact hit
  · intro m hm hmj
    have hml : m < xs.length := by rw [hl]; simpa using hm
    rw [eqU_at r hF.flats (List.getElem?_eq_getElem hml)]
    exact hF.no m _ hmj (List.getElem?_eq_getElem hml)
end
/-! ### dicts with tuples as keys -/
section
variable {X : Cx}
def rInK (neg : Bool) : R2 := fun y x H Q => ∃ a o, x = .ref a ∧ DGet H a y o ∧ Q (.bl (neg ^^ o.isSome)) H
theorem e_inK {neg : Bool} {y x : V} {H : Hp} {Q : VK} : rInK neg y x H Q = ∃ a o, x = .ref a ∧ DGet H a y o ∧ Q (.bl (neg ^^ o.isSome)) H := rfl
def rSetD : TSet := fun o i v H Q => ∃ a H', o = .ref a ∧ DPut H a i v H' ∧ Q H'
theorem e_setD {o i v : V} {H : Hp} {Q : Hp → Prop} : rSetD o i v H Q = ∃ a H', o = .ref a ∧ DPut H a i v H' ∧ Q H' := rfl
theorem e_dnewT {σ : St} {H : Hp} {Q : VK} : tDNewT σ H Q = ∀ p, H p = none → Q (.ref p) (upd H p (.dT [])) := rfl
theorem e_dget {td ty : TE} {σ : St} {H : Hp} {Q : VK} : tDGet td ty σ H Q = td σ H fun x H1 => ty σ H1 fun y H2 => ∃ a v, x = .ref a ∧ DGet H2 a y (some v) ∧ Q v H2 := rfl
end
end L2
namespace L2
open PySem PySem.Spec PyProof.Rows
/-! ### methods of tuples that are tracked -/
section
variable {X : Cx}
def tBMT (r : V → List V → Hp → VK → Prop) (to : TE) (t : TA) : TE := fun σ H Q => to σ H fun x H1 => (∃ p xs, x = .ref p ∧ Rd H1 p (.tup xs)) ∧ t σ H1 fun xs H2 => r x xs H2 Q
theorem e_BMT {r : V → List V → Hp → VK → Prop} {to : TE} {t : TA} {σ : St} {H : Hp} {Q : VK} : tBMT r to t σ H Q = to σ H fun x H1 => (∃ p xs, x = .ref p ∧ Rd H1 p (.tup xs)) ∧ t σ H1 fun xs H2 => r x xs H2 Q := rfl
theorem pe_bmT {o e : Expr} {es : List Expr} {to : TE} {t : TA} {name : Str} {apos cpos : Pos} {id : String} {r : V → List V → Hp → VK → Prop} (pa : PlainAttrs "tuple") (slot : Slot "tuple" name id) (hty : typeOf (.builtin id) = pure (.type "method_descriptor")) (hm : MtR X id r) (ho : PE X o to) (ha : PA X (e :: es) t)
    (hbase : attributeBase o name X.env (eval o X.env) = eval o X.env := by rfl)
    (hfew : ((backTo cpos (starEach (e :: es) X.env)).all (fun x => !x.1) && (backToKw cpos (keywordEach [] X.env)).all (fun x => x.1.isSome)
      && decide ((e :: es).length + ([] : List Keyword).length + (if ([] : List Keyword).isEmpty then 0 else 1) < 30)) = true := by rfl)
    (hline : (apos.endLine == cpos.line) = true := by rfl) (hs : starEach (e :: es) X.env = (false, eval e X.env) :: starEach es X.env := by rfl) (hplain : (backTo cpos (starEach es X.env)).any (·.1) = false := by rfl) :
    PE X (.Call (.Attribute o name apos) (e :: es) [] cpos) (tBMT r to t) := by
  intro pins s σ H Q I h
  refine wpAny_Call_method_late hbase hfew hline rfl (thn (ho pins s σ H _ I h) fun v s1 ⟨x, H1, I1, r1, ⟨p, ys, ex, hp⟩, q1⟩ => ?_)
  subst ex
  obtain rfl : v = Value.ref p := r1
  obtain ⟨z, its, rr, ob, e1, c1, n1, d1, f1⟩ := (show ObjOk X.prog X.w H1 s1.heap p (.tup ys) from hp.ok I1.hok)
  have h1 : s1.TypeIs (.ref p) "tuple" := ⟨ob, e1, c1⟩
  have h2 : ∀ a, Value.ref p = .ref a → ∃ ob, s1.heap.get? a = some ob ∧ ob.dict = none := fun a e => by
    cases e
    exact ⟨ob, e1, f1⟩
  refine ⟨"tuple", id, pa, slot, hty, h1, h2, ?_⟩
  have hA := ha cpos pins s1 σ H1 _ I1 q1
  rw [hs] at hA ⊢
  refine Calls.callWith_builtin (by show (false || (backTo cpos (starEach es X.env)).any (·.1)) = false; rw [hplain] <;> rfl) (Calls.evalArgs_plain ?_)
  exact thn hA fun us s2 ⟨vs, H2, I2, r2, q2⟩ => hm pins s2 σ H2 (.ref p) vs (.ref p) us Q I2 rfl r2 q2
end
end L2
namespace L2
open PySem PySem.Spec PyProof.Rows
/-! ### products of numbers of up to sixty figures -/
theorem bits_le {i : Int} {n : Nat} (h1 : -(2 ^ n) < i) (h2 : i < 2 ^ n) : Builtin.Int.intBits i ≤ n := by
  unfold Builtin.Int.intBits
  split
  · exact Nat.zero_le _
  · rename_i h
    have h0 : i ≠ 0 := fun e => h (by rw [e]; rfl)
    have hn : i.natAbs < 2 ^ n := by
      have e : ((2 ^ n : Nat) : Int) = (2 : Int) ^ n := by rw [Int.natCast_pow]; rfl
      have : (i.natAbs : Int) < ((2 ^ n : Nat) : Int) := by rw [e]; omega
      exact_mod_cast this
    exact (Nat.log2_lt (by omega)).mpr hn
def CMulB (i j : Int) : Prop := (-(10 ^ 60) ≤ i ∧ i ≤ 10 ^ 60) ∧ -(10 ^ 60) ≤ j ∧ j ≤ 10 ^ 60
theorem CMulB.ok {i j : Int} (h : CMulB i j) : IntMulOk i j := by
  have e : (10 : Int) ^ 60 < 2 ^ 200 := by decide
  obtain ⟨⟨a, b⟩, c, d⟩ := h
  exact .of_bits (Nat.le_trans (bits_le (n := 200) (by omega) (by omega)) (by decide)) (Nat.le_trans (bits_le (n := 200) (by omega) (by omega)) (by decide))
end L2

set_option Elab.async false
set_option maxRecDepth 100000
/-! zip of two or three lists or tuples. -/
namespace L2
open PySem
/-! ### zip of lists and tuples -/
def SeqH (h : Heap) (l : Addr) (xs : Array Value) : Prop := ∃ o n, h.get? l = some o ∧ o.data = .seq xs n
section
variable {prog : Program} {w : World} {A : Around} {E : Value → Shared → Prop} {s : Shared}
end
/-- a list or a tuple that is walked: its iterator, itself, its items -/
structure Drw where
  it : Addr
  l : Addr
  xs : Array Value
def DrAt (h : Heap) (d : Drw) (k : Nat) : Prop := (h.IsListIter d.it d.l k ∨ h.IsTupleIter d.it d.l k) ∧ SeqH h d.l d.xs
theorem DrAt.ext {h h' : Heap} {d : Drw} {k : Nat} (q : DrAt h d k) (h1 : ∀ o, h.get? d.it = some o → h'.get? d.it = some o) (h2 : ∀ o, h.get? d.l = some o → h'.get? d.l = some o) : DrAt h' d k := by
  obtain ⟨a, o', n, e', r'⟩ := q
  refine ⟨?_, o', n, h2 o' e', r'⟩
  rcases a with ⟨o, e, r⟩ | ⟨o, e, r⟩
  · exact .inl ⟨o, h1 o e, r⟩
  · exact .inr ⟨o, h1 o e, r⟩
theorem DrAt.itAt {h : Heap} {d : Drw} {k : Nat} (q : DrAt h d k) : ∃ o, h.get? d.it = some o ∧ o.data = .fields #[.ref d.l, .int k 0] := by
  rcases q.1 with ⟨o, e, c, r⟩ | ⟨o, e, c, r⟩ <;> exact ⟨o, e, r⟩
theorem DrAt.ne {h : Heap} {d : Drw} {k : Nat} (q : DrAt h d k) : d.l ≠ d.it := fun e => by
  obtain ⟨o, e1, r1⟩ := q.itAt
  obtain ⟨o', n, e2, r2⟩ := q.2
  rw [e, e1] at e2
  cases e2
  rw [r1] at r2
  cases r2
section
variable {prog : Program} {w : World} {A : Around} {E : Value → Shared → Prop} {s : Shared}
end
/-! made -/
def SrcAt (h : Heap) (b : Bool) (l : Addr) (xs : Array Value) : Prop := if b = true then h.IsList l xs else h.IsTuple l xs
def itObj (b : Bool) (l : Addr) : Obj := { cls := .type (if b = true then "list_iterator" else "tuple_iterator"), data := .fields #[.ref l, .int 0 0] }
theorem SrcAt.push {h : Heap} {b : Bool} {l : Addr} {xs : Array Value} (q : SrcAt h b l xs) (o : Obj) : SrcAt (h.push o) b l xs := by
  cases b
  · obtain ⟨p, e, r⟩ := (show h.IsTuple l xs from q)
    exact ⟨p, Heap.get?_push_of_some _ e, r⟩
  · obtain ⟨p, e, r⟩ := (show h.IsList l xs from q)
    exact ⟨p, Heap.get?_push_of_some _ e, r⟩
theorem DrAt.start {h : Heap} {b : Bool} {n l : Addr} {xs : Array Value} (e : h.get? n = some (itObj b l)) (q : SrcAt h b l xs) : DrAt h ⟨n, l, xs⟩ 0 := by
  cases b
  · obtain ⟨o, e', c, n, r⟩ := (show h.IsTuple l xs from q)
    exact ⟨.inr ⟨_, e, rfl, rfl⟩, o, n, e', r⟩
  · obtain ⟨o, e', c, n, r⟩ := (show h.IsList l xs from q)
    exact ⟨.inl ⟨_, e, rfl, rfl⟩, o, n, e', r⟩
theorem SrcAt.keeps {h h' : Heap} {b : Bool} {l : Addr} {xs : Array Value} (q : SrcAt h b l xs) (k : ∀ c o, h.get? c = some o → h'.get? c = some o) : SrcAt h' b l xs := by
  cases b
  · obtain ⟨p, e, r⟩ := (show h.IsTuple l xs from q)
    exact ⟨p, k _ _ e, r⟩
  · obtain ⟨p, e, r⟩ := (show h.IsList l xs from q)
    exact ⟨p, k _ _ e, r⟩
section
variable {prog : Program} {w : World} {A : Around} {E : Value → Shared → Prop} {s : Shared}
end
end L2
namespace L2
open PySem PySem.Spec PyProof.Rows
def SqA (K : PySem.W.Frag) (H : Hp) (a : Addr) (xs : List V) : Prop := SqL K H a xs ∨ SqT K H a xs
structure AllSq (K : PySem.W.Frag) (H : Hp) (as : List Addr) (xss : List (List V)) : Prop where
  len : as.length = xss.length
  at' : ∀ (j : Nat) (a : Addr) (xs : List V), as[j]? = some a → xss[j]? = some xs → SqA K H a xs
def ItN (K : PySem.W.Frag) (as : List Addr) : It :=
  ⟨fun i H => ∃ xss, AllSq K H as xss ∧ ∀ xs ∈ xss, i < xs.length,
   fun i H v H' => ∃ T vs, v = .ref T ∧ H T = none ∧ H' = upd H T (.tup vs) ∧ ∀ xss, AllSq K H as xss → vs.length = xss.length ∧ ∀ (j : Nat) (xs : List V), xss[j]? = some xs → xs[i]? = vs[j]?,
   fun i H => ∃ xss, AllSq K H as xss ∧ ∃ xs ∈ xss, xs.length ≤ i⟩
section
variable {X : Cx} {pins : List (Addr × Obj)} {σ : St} {H : Hp} {s : Shared}
end
def iZip3 (K : PySem.W.Frag) (ta : TA) : TI := fun σ H R => ta σ H fun vs H1 => ∃ a b c, vs = [.ref a, .ref b, .ref c] ∧ (∃ xss, AllSq K H1 [a, b, c] xss) ∧ R (ItN K [a, b, c]) H1
def iZip2 (K : PySem.W.Frag) (ta : TA) : TI := fun σ H R => ta σ H fun vs H1 => ∃ a b, vs = [.ref a, .ref b] ∧ (∃ xss, AllSq K H1 [a, b] xss) ∧ R (ItN K [a, b]) H1
theorem e_zip3 {K : PySem.W.Frag} {ta : TA} {σ : St} {H : Hp} {R : It → Hp → Prop} : iZip3 K ta σ H R = ta σ H fun vs H1 => ∃ a b c, vs = [.ref a, .ref b, .ref c] ∧ (∃ xss, AllSq K H1 [a, b, c] xss) ∧ R (ItN K [a, b, c]) H1 := rfl
theorem e_zip2 {K : PySem.W.Frag} {ta : TA} {σ : St} {H : Hp} {R : It → Hp → Prop} : iZip2 K ta σ H R = ta σ H fun vs H1 => ∃ a b, vs = [.ref a, .ref b] ∧ (∃ xss, AllSq K H1 [a, b] xss) ∧ R (ItN K [a, b]) H1 := rfl
theorem Vals.three {x y z : V} {us : List Value} (r : Vals [x, y, z] us) : ∃ u v w, us = [u, v, w] ∧ RelV x u ∧ RelV y v ∧ RelV z w := by
  cases r with
  | cons r1 r => cases r with
    | cons r2 r => cases r with
      | cons r3 r =>
        cases r
        exact ⟨_, _, _, rfl, r1, r2, r3⟩
section
variable {σ : St} {k : Nat} {g : TG} {tt : TT} {te : TE} {H1 : Hp} {Fin : List V → Hp → Prop}
end
end L2

set_option Elab.async false
set_option maxRecDepth 100000
/-! dict(xs) of a list of pairs whose keys are tuples. -/
namespace L2
open PySem PySem.Spec PyProof.Rows
section
variable {prog : Program} {w : World} {K : Type} [DecidableEq K] {knd : KeyKind prog w K}
end
end L2
namespace L2
open PySem PySem.Spec PyProof.Rows
def dictOf (kvs : List (List Key × V)) : List (List Key × V) := kvs.foldl (fun acc kv => putK acc kv.1 kv.2) []
structure PairsH (H : Hp) (Ts : List Addr) (kvs : List (List Key × V)) : Prop where
  len : Ts.length = kvs.length
  at' : ∀ (i : Nat) (T : Addr) (kv : List Key × V), Ts[i]? = some T → kvs[i]? = some kv → ∃ b, H T = some (.tup [.ref b, kv.2]) ∧ H b = some (.tup (kv.1.map kV))
def rDictP (xs : List V) (H : Hp) (Q : VK) : Prop := ∃ (l : Addr) (Ts : List Addr) (kvs : List (List Key × V)), xs = [.ref l] ∧ H l = some (.lst (Ts.map V.ref)) ∧ PairsH H Ts kvs ∧ ∀ p, H p = none → Q (.ref p) (upd H p (.dT (dictOf kvs)))
theorem e_dictP {xs : List V} {H : Hp} {Q : VK} : rDictP xs H Q = ∃ (l : Addr) (Ts : List Addr) (kvs : List (List Key × V)), xs = [.ref l] ∧ H l = some (.lst (Ts.map V.ref)) ∧ PairsH H Ts kvs ∧ ∀ p, H p = none → Q (.ref p) (upd H p (.dT (dictOf kvs))) := rfl
section
variable {X : Cx} {pins : List (Addr × Obj)} {σ : St} {H : Hp} {s : Shared}
end
end L2
namespace L2
open PySem
end L2

set_option Elab.async false
set_option maxRecDepth 100000
/-! max(xs, key=f); dicts with texts as keys copied and compared. -/
namespace L2
open PySem PySem.Spec PyProof.Rows
section
variable {X : Cx} {pins : List (Addr × Obj)} {σ : St} {H : Hp} {k : Nat} {f : Addr} {fd : FuncData} {ps : List Str} {sp : Sp}
def tMaxK (K : PySem.W.Frag) (sp : Sp) (ta : TA) : TE := fun σ H Q => ta σ H fun vs H1 => ∃ (l : Addr) (xs : List V) (kf : Nat → Int), vs = [.ref l] ∧ SqL K H1 l xs ∧ 0 < xs.length ∧
  (∀ i x, xs[i]? = some x → sp [x] H1 (fun v H' => v = .int (kf i) ∧ H' = H1) E0) ∧ ∀ i x, xs[i]? = some x → (∀ j, j < xs.length → kf j ≤ kf i ∧ (j < i → kf j < kf i)) → Q x H1
theorem e_maxK {K : PySem.W.Frag} {ta : TA} {Q : VK} : tMaxK K sp ta σ H Q = ta σ H fun vs H1 => ∃ (l : Addr) (xs : List V) (kf : Nat → Int), vs = [.ref l] ∧ SqL K H1 l xs ∧ 0 < xs.length ∧
  (∀ i x, xs[i]? = some x → sp [x] H1 (fun v H' => v = .int (kf i) ∧ H' = H1) E0) ∧ ∀ i x, xs[i]? = some x → (∀ j, j < xs.length → kf j ≤ kf i ∧ (j < i → kf j < kf i)) → Q x H1 := rfl
end
end L2
namespace L2
open PySem PySem.Spec PyProof.Rows
section
variable {X : Cx}
def rDictK (xs : List V) (H : Hp) (Q : VK) : Prop := ∃ (a : Addr) (kvs : List (Key × V)), xs = [.ref a] ∧ H a = some (.dK kvs) ∧ ∀ p, H p = none → Q (.ref p) (upd H p (.dK kvs))
theorem e_dictK {xs : List V} {H : Hp} {Q : VK} : rDictK xs H Q = ∃ (a : Addr) (kvs : List (Key × V)), xs = [.ref a] ∧ H a = some (.dK kvs) ∧ ∀ p, H p = none → Q (.ref p) (upd H p (.dK kvs)) := rfl
/-- two dicts alike, with flat values -/
def rEqK (x y : V) (H : Hp) (Q : VK) : Prop := ∃ (a b : Addr) (kvs : List (Key × V)), x = .ref a ∧ y = .ref b ∧ H a = some (.dK kvs) ∧ H b = some (.dK kvs) ∧ (∀ kv ∈ kvs, flatV kv.2 = true) ∧ Q (.bl true) H
theorem e_eqK {x y : V} {H : Hp} {Q : VK} : rEqK x y H Q = ∃ (a b : Addr) (kvs : List (Key × V)), x = .ref a ∧ y = .ref b ∧ H a = some (.dK kvs) ∧ H b = some (.dK kvs) ∧ (∀ kv ∈ kvs, flatV kv.2 = true) ∧ Q (.bl true) H := rfl
end
end L2

set_option Elab.async false
set_option maxRecDepth 100000
/-! any of a list. -/
namespace L2
open PySem PySem.Spec PyProof.Rows
section
variable {X : Cx}
/-- t.count(x) of flat things -/
def rCountT (K : PySem.W.Frag) : V → List V → Hp → VK → Prop := fun x vs H Q => ∃ p xs y, x = .ref p ∧ vs = [y] ∧ SqT K H p xs ∧ flatV y = true ∧ xs.all flatV = true ∧ Q (.int ((xs.countP fun z => eqV z y : Nat) : Int)) H
theorem e_countT {K : PySem.W.Frag} {x : V} {vs : List V} {H : Hp} {Q : VK} : rCountT K x vs H Q = ∃ p xs y, x = .ref p ∧ vs = [y] ∧ SqT K H p xs ∧ flatV y = true ∧ xs.all flatV = true ∧ Q (.int ((xs.countP fun z => eqV z y : Nat) : Int)) H := rfl
theorem count_eqU {y : V} : ∀ {xs : List V} {us : List Value}, Vals xs us → xs.all flatV = true → us.countP (eqU y) = xs.countP fun z => eqV z y
  | _, _, .nil, _ => rfl
  | _, _, .cons r rr, f => by
    rw [List.all_cons, Bool.and_eq_true] at f
    rw [List.countP_cons, List.countP_cons, count_eqU rr f.2, eqU_of r f.1]
theorem mt_countT : MtR X "tuple.count" (rCountT X.K) := by
  intro pins s σ H x vs v us Q I rx rvs h
  obtain ⟨p, xs, y, rfl, rfl, hq, hF, hFs, q⟩ := h
  cases rx
  obtain ⟨u, rfl, ru⟩ := vals1 rvs
  obtain ⟨its, r, pl, hz⟩ := I.tuple hq
  obtain ⟨⟨cls, dd, data, sl⟩, ho, hc, n, hd⟩ := id pl
  simp only at hc hd
  subst hc hd
  refine call_meets PySem.F.slot_tuple_count ⟨_, ho, rfl⟩ PySem.F.entry_tuple_count (PySem.F.args_tuple_count_2 _ _) (SeqAt.tuple_countAt p its.toArray n dd sl u (eqU y)) ⟨ho, fun w hw => mem_eqAt ru hF r hFs w (by simpa using hw), ⟨.int _, H, I.tok _, ⟨_, rfl⟩, ?_⟩⟩
  have e : its.toArray.toList.countP (eqU y) = xs.countP fun z => eqV z y := by
    rw [List.toList_toArray]
    exact count_eqU r hFs
  rw [e]
  exact q
end
end L2

set_option Elab.async false
set_option maxRecDepth 100000
/-! A list comprehension whose own name is read by a comprehension in it: the name is a cell. -/
namespace L2
open PySem PySem.Spec PyProof.Rows
section
variable {X : Cx} {pins : List (Addr × Obj)} {σ : St} {H2 : Hp} {s₂ : Shared} {scope : Scope} {ts N2 : List Str} {cl : List (Str × Addr)} {C D : Addr} {fp : List Addr}
end

end L2

set_option Elab.async false
set_option maxRecDepth 100000
/-! d.get(k), d.get(k, x): readings. -/
namespace L2
open PySem PySem.Spec PyProof.Rows
theorem e_dg1 {td ty : TE} {σ : St} {H : Hp} {Q : VK} : tDGet1 td ty σ H Q = td σ H fun x H1 => ∃ a, x = .ref a ∧ IsD H1 a ∧ ty σ H1 fun y H2 => ∃ o, DGet H2 a y o ∧ Q (o.getD .non) H2 := rfl
theorem e_dg2 {td ty tx : TE} {σ : St} {H : Hp} {Q : VK} : tDGet2 td ty tx σ H Q = td σ H fun x H1 => ∃ a, x = .ref a ∧ IsD H1 a ∧ ty σ H1 fun y H2 => tx σ H2 fun z H3 => ∃ o, DGet H3 a y o ∧ Q (o.getD z) H3 := rfl
end L2

/-! != of two lists that hold the very same things. -/
namespace L2
open PySem PySem.Spec PyProof.Rows
section
variable {X : Cx}
def rNeI (K : PySem.W.Frag) (x y : V) (H : Hp) (Q : VK) : Prop := ∃ a b xs, x = .ref a ∧ y = .ref b ∧ SqL K H a xs ∧ SqL K H b xs ∧ (∀ v ∈ xs, ∃ t, v = V.ref t) ∧ Q (.bl false) H
theorem e_neI {K : PySem.W.Frag} {x y : V} {H : Hp} {Q : VK} : rNeI K x y H Q = ∃ a b xs, x = .ref a ∧ y = .ref b ∧ SqL K H a xs ∧ SqL K H b xs ∧ (∀ v ∈ xs, ∃ t, v = V.ref t) ∧ Q (.bl false) H := rfl
end
end L2

set_option Elab.async false
set_option maxRecDepth 100000
/-! A comprehension whose element may raise, in a def's body. -/
namespace L2
open PySem PySem.Spec PyProof.Rows
section
variable {M : Model} {A : Around} {E : Value → Shared → Prop} {s : Shared}
theorem noteFrame_frame {x : Value} {e1 e2 : Env} (h : e1.frame = e2.frame) : noteFrame x e1 = noteFrame x e2 := by unfold noteFrame PySem.frameOf; rw [h]
theorem setFlight_anyW {base : Heap} {l : List Env} {e : Addr} {cls a0 fl : Value} (fr : Option Addr) {Q : Unit → Shared → Prop}
    (hkb : base.StaysIn s.heap) (hl : s.heap.FunFrames base l) (ht : s.heap.TracedAtW base e cls a0 fl)
    (h : ∀ h', base.StaysIn h' → h'.FunFrames base l → h'.TracedAtW base e cls a0 (fr.elim Value.none fun f => rawInt f) → (∀ b o, s.heap.get? b = some o → (∀ vs, o.data ≠ .fields vs) → h'.get? b = some o) → Q () { s with heap := h' }) :
    wpAny M A (setFlight (.ref e) fr) Q E s := by
  obtain ⟨oe, vs, T, oT, ts, he, hcls, hd, h1, hnT, hTe, hT, hdT, h3⟩ := ht
  have hsz3 : 3 < ts.size := (Array.getElem?_eq_some_iff.mp h3).1
  have other : ∀ b, b ≠ T → (s.heap.update T (Obj.mapFields (·.setIfInBounds 3 (fr.elim Value.none fun f => rawInt f)))).get? b = s.heap.get? b :=
    fun b hb => Heap.get?_update_other _ _ (Ne.symm hb)
  have noRecord : ∀ b o, s.heap.get? b = some o → (∀ vs, o.data ≠ .fields vs) → b ≠ T := fun b o hb hnf q => by
    rw [q, hT] at hb; injection hb with hb; subst hb; exact hnf ts hdT
  unfold setFlight
  refine wpAny_bind (wpAny_field he hd h1 ?_)
  rw [if_pos (show (Value.ref T != Value.none) = true from by simp)]
  refine wpAny_setField hT hdT hsz3 (h _ (fun b o hbo => (other b fun q => by rw [q, hnT] at hbo; cases hbo).trans (hkb b o hbo))
    (hl.of_keeps fun b o hb hnf => ⟨o, (other b (noRecord b o hb hnf)).trans hb, rfl⟩) ?_ fun b o hb hnf => (other b (noRecord b o hb hnf)).trans hb)
  exact ⟨oe, vs, T, _, _, (other e (Ne.symm hTe)).trans he, hcls, hd, h1, hnT, hTe, Heap.get?_update_self _ hT (Obj.isFreed_of_fields (Obj.data_mapFields hdT _)), Obj.data_mapFields hdT _, by simp [hsz3]⟩
theorem leaving_anyW {base : Heap} {env : Env} {outer : List Env} {L e : Addr} {cls a0 fl : Value} {Q : Unit → Shared → Prop}
    (hfr : A.frames = some (env :: outer)) (hf : env.frame = some L) (hkb : base.StaysIn s.heap) (hen : base.get? e = none) (hl : s.heap.FunFrames base (env :: outer)) (ht : s.heap.TracedAtW base e cls a0 fl)
    (hQ : ∀ h', Heap.FlyingW base outer e cls a0 h' → s.heap.UpToSlots h' → Q () { s with heap := h' }) : wpAny M A (leaving env (.ref e)) Q E s := by
  by_cases hfl : fl = rawInt L
  · subst hfl
    unfold leaving
    refine wpAny_bind (wpAny_noteFrame_againW hf ht ?_)
    refine wpAny_landsW (l := env :: outer) ⟨hkb, hen, hl, ht⟩ fun h' hfl ups => ?_
    obtain ⟨k1, k2, ⟨_, _, k3⟩, k4⟩ := hfl
    exact hQ h' ⟨k1, k2, k3, k4⟩ ups
  · obtain ⟨oe, vs, T, oT, ts, he, ⟨hcls, h0⟩, hd, h1, hnT, hTe, hT, hdT, h3⟩ := ht
    subst hcls
    unfold leaving noteFrame
    simp only [hf]
    refine wpAny_bind (wpAny_bind (wpAny_field he hd h1 ?_))
    rw [if_pos (show (Value.ref T != Value.none) = true from by simp)]
    refine wpAny_bind (wpAny_field hT hdT h3 ?_)
    rw [if_neg (show ¬ ((fl == rawInt L) = true) from fun z => hfl (eq_of_beq z))]
    refine wpAny_bind (wpAny_setField hT hdT (Array.getElem?_eq_some_iff.mp h3).1 ?_)
    have other : ∀ b, b ≠ T → (s.heap.update T (Obj.mapFields (·.setIfInBounds 3 Value.none))).get? b = s.heap.get? b := fun b hb => Heap.get?_update_other _ _ (Ne.symm hb)
    have noRecord : ∀ b o, s.heap.get? b = some o → (∀ vs, o.data ≠ .fields vs) → b ≠ T := fun b o hb hnf q => by
      rw [q, hT] at hb; injection hb with hb; subst hb; exact hnf ts hdT
    refine wpAny_newEntryW hfr (hl.of_keeps fun b o hb hnf => ⟨o, (other b (noRecord b o hb hnf)).trans hb, rfl⟩) hf ((other e (Ne.symm hTe)).trans he)
      (fun b o hbo => (other b fun q => by rw [q, hnT] at hbo; cases hbo).trans (hkb b o hbo)) hen hd (Array.getElem?_eq_some_iff.mp h1).1 h0
      fun h' ⟨x1, ⟨_, _, x2⟩, x3, x4⟩ => hQ h' ⟨x1, hen, x2, x3⟩ fun b o hb hnf => x4 b o ((other b (noRecord b o hb hnf)).trans hb) hnf
end
theorem funFrames_but {B h h' : Heap} {C : Addr} {oC : Obj} (hB : B.get? C = some oC) (sb : Heap.SameBut C h h') : ∀ {l : List Env}, h.FunFrames B l → h'.FunFrames B l
  | [], _ => trivial
  | _ :: _, ⟨hk, ⟨L, o, hf, hn, ho, hd⟩, hr⟩ => ⟨hk, ⟨L, o, hf, hn, (sb.2 L (fun z => by rw [z, hB] at hn; cases hn)).trans ho, hd⟩, funFrames_but hB sb hr⟩
theorem un_flown2 {fs : List Addr} {H0 H1 : Hp} {h0 h1 h2 B : Heap} (u : Un fs [] H0 H1 h0 h1) (dom2 : ∀ b o, h0.get? b = some o → b ∉ fs → ∃ ob, B.get? b = some ob ∧ (H0 b = none → ob = o))
    (bh' : B.StaysIn h2) (sl : ∀ b ∈ fs, ∀ o, h1.get? b = some o → (∀ vs, o.data ≠ .fields vs) → ∃ sl, h2.get? b = some { o with slots := sl }) (hfr : ∀ b ∈ fs, ∀ o, h1.get? b = some o → ∀ vs, o.data ≠ .fields vs) : Un fs [] H0 H1 h0 h2 where
  keep := fun b o e n hb _ => by
    obtain ⟨ob, e1, e2⟩ := dom2 b o e hb
    rw [e2 n] at e1
    exact bh' b o e1
  slot := fun b o e n hb hx => by
    obtain ⟨s1, e1⟩ := u.slot b o e n hb hx
    obtain ⟨s2, e2⟩ := sl b hb _ e1 (hfr b hb _ e1)
    exact ⟨s2, e2⟩
  free := u.free
  there := fun b o e hx => by
    by_cases hb : b ∈ fs
    · obtain ⟨o1, e1⟩ := u.there b o e hx
      obtain ⟨s2, e2⟩ := sl b hb _ e1 (hfr b hb _ e1)
      exact ⟨_, e2⟩
    · obtain ⟨ob, e1, _⟩ := dom2 b o e hb
      exact ⟨ob, bh' b ob e1⟩
  tups := u.tups
  frzs := u.frzs
  tbls := u.tbls
section
variable {X : Cx} {pins : List (Addr × Obj)} {σ : St} {H : Hp} {s : Shared}
theorem stk_lt (I : Inv X pins σ H s) {b : Addr} (hb : b ∈ frs X.stack) : b < s.heap.objs.size := by
  obtain ⟨_, o, e, _⟩ := I.stack.mem hb
  exact Heap.lt_size e
/-- an exception of a callee goes on through a comprehension in a def's body -/
theorem passC {P : Program} {w : World} {K : PySem.W.Frag} {mg : Str → Option Value} {base : Heap} {NN : List Str} {qual : Str} {scp : Scope} {f : Addr} {cd : Value} {A : Around} {outer : List Env} {s0 : Shared} {H0 : Hp} {E : XK} {use : Option (Value → Sem Unit)} {Q : Value → Shared → Prop} {acc : Value} {scope : Scope} {cl : List (Str × Addr)} {C : Addr} {m : Str → Option Value} {e : Value} {s' : Shared}
    (hX : X = cxOf (CX1 P w) P w K mg base NN qual scp f cd A outer s0 H0 E) (I : Inv X pins σ H s) (hn : s.heap.Ns C m) (hf : H C = none) (hC : X.s₀.heap.objs.size ≤ C) (hL : C ≠ X.env.locals) (hS : ∀ b ∈ frs X.stack, b ≠ C)
    (h : CX1 X.prog X.w X.stack H s (fun c _ H' => E c none H') e s') :
    notedBy (model X.prog X.w) X.A (compEnvC scope cl C X.env) (fun x s1 => compPost (model X.prog X.w) X.A X.xe use Q acc C (.error x) s1) e s' := by
  subst hX
  obtain ⟨ea, Ce, a0, B, H', rfl, os, bare, un, hok, fl, hea, dom, dom2, hE1⟩ := h
  obtain ⟨oC, esC, epC, hoC, rC⟩ := hn
  obtain ⟨ob, hBC, hob⟩ := dom2 C oC hoC (fun z => hS C z rfl)
  rw [hob hf] at hBC
  unfold notedBy
  rw [noteFrame_frame (e1 := compEnvC scope cl C (cxOf (CX1 P w) P w K mg base NN qual scp f cd A outer s0 H0 E).env) (e2 := envOfC qual scp s0.heap.objs.size f cd) rfl]
  refine wpAny_looks_onW I.ok.frames rfl fl fun h1 held ups => ?_
  obtain ⟨g1, g2, g3, g4⟩ := held
  have hk : ∃ m, h1.Ns C m ∧ ∀ h', Heap.SameBut C h1 h' → ∀ cenv : Env, cenv.locals = C → wpAny (model P w) (A.deeper (envOfC qual scp s0.heap.objs.size f cd)) (PySem.passOn "comprehension.variables-let-go" (.ref ea) cenv : Sem Value) (fun _ _ => False) (cxOf (CX1 P w) P w K mg base NN qual scp f cd A outer s0 H0 E).xe { s' with heap := h' } := by
    refine ⟨m, ⟨oC, esC, epC, g1 C oC hBC, rC⟩, fun h' sb cenv _ => ?_⟩
    have kB : (PySem.W.hideAll B [C]).StaysIn B := fun b o q => PySem.W.of_hideAll _ q
    have neB : ∀ b o, (PySem.W.hideAll B [C]).get? b = some o → b ≠ C := fun b o q z => by
      rw [z, PySem.W.hideAll_none [C] (by simp)] at q; cases q
    have inB : ∀ b o, B.get? b = some o → b ≠ C → (PySem.W.hideAll B [C]).get? b = some o := fun b o q n => PySem.W.hideAll_get [C] q (by simpa using n)
    have st' : (PySem.W.hideAll B [C]).StaysIn h' := fun b o q => (sb.2 b (neB b o q)).trans (g1 b o (kB b o q))
    have ff' : h'.FunFrames (PySem.W.hideAll B [C]) (envOfC qual scp s0.heap.objs.size f cd :: outer) := PySem.W.funFrames_base kB (funFrames_but hBC sb g3)
    have he' : (PySem.W.hideAll B [C]).get? ea = none := PySem.W.fresh_of_stays kB g2
    have tr' : h'.TracedAtW (PySem.W.hideAll B [C]) ea (.ref Ce) a0 (rawInt s0.heap.objs.size) := by
      obtain ⟨oe, vs, T, oT, ts, a1, a2, a3, a4, a5, a6, a7, a8, a9⟩ := g4
      exact ⟨oe, vs, T, oT, ts, (sb.2 ea (fun z => by rw [z, hBC] at g2; cases g2)).trans a1, a2, a3, a4, PySem.W.fresh_of_stays kB a5, a6, (sb.2 T (fun z => by rw [z, hBC] at a5; cases a5)).trans a7, a8, a9⟩
    unfold PySem.passOn
    have tr2 := tr'
    obtain ⟨oe, vs, T, oT, ts, a1, a2, a3, a4, a5, a6, a7, a8, a9⟩ := tr2
    refine wpAny_bind (wpAny_field (s := { s' with heap := h' }) a1 a3 a4 ?_)
    rw [if_neg (show ¬ ((Value.ref T == Value.none) = true) from by simp)]
    refine wpAny_bind (setFlight_anyW (s := { s' with heap := h' }) (l := envOfC qual scp s0.heap.objs.size f cd :: outer) cenv.frame st' ff' tr' fun h2 b1 b2 b3 b4 => ?_)
    refine wpAny_throw ?_
    show wpAny _ _ (leaving _ (.ref ea)) _ _ _
    refine leaving_anyW (s := { s' with heap := h2 }) I.ok.frames rfl b1 he' b2 b3 fun h3 x1 x2 => ?_
    have hst : s'.heap.FunFrames B (envOfC qual scp s0.heap.objs.size f cd :: outer) := fl.2.2.1
    have un0 : Un (frs outer) [] H0 H s0.heap s.heap := I.base
    have sub : ∀ b ∈ frs outer, b ∈ frs (envOfC qual scp s0.heap.objs.size f cd :: outer) := fun b hb => by
      obtain ⟨env, he, hf⟩ := List.mem_filterMap.mp hb
      exact List.mem_filterMap.mpr ⟨env, List.mem_cons_of_mem _ he, hf⟩
    have notL : ∀ b o, s0.heap.get? b = some o → b ∉ frs outer → b ∉ frs (envOfC qual scp s0.heap.objs.size f cd :: outer) := fun b o q n z => by
      rcases List.mem_cons.mp (I.stkSub b z) with y | y
      · have h1 : s0.heap.objs.size ≤ b := by rw [y]; exact I.ok.above
        exact absurd (Nat.lt_of_lt_of_le (Heap.lt_size q) h1) (Nat.lt_irrefl _)
      · exact n y
    have ut := (un0.mono sub (fun _ z => z)).trans un
    have un1 : Un (frs outer) [] H0 H' s0.heap s'.heap := ⟨fun b o e n hb hx => ut.keep b o e n (notL b o e hb) hx, fun b o e n hb hx => ut.slot b o e n (sub b hb) hx, ut.free, ut.there, ut.tups, ut.frzs, ut.tbls⟩
    have hf' : H' C = none := un.free C oC hoC hf (by simp)
    have dom' : ∀ b o, H' b = some o → ∃ ob, (PySem.W.hideAll B [C]).get? b = some ob := fun b o q => by
      obtain ⟨ob, e1⟩ := dom b o q
      exact ⟨ob, inB b ob e1 (fun z => by rw [z, hf'] at q; cases q)⟩
    have dom2' : ∀ b o, s0.heap.get? b = some o → b ∉ frs outer → ∃ ob, (PySem.W.hideAll B [C]).get? b = some ob ∧ (H0 b = none → ob = o) := fun b o q n => by
      obtain ⟨o1, e1⟩ := un0.there b o q (by simp)
      obtain ⟨ob, k1, k2⟩ := dom2 b o1 e1 (notL b o q n)
      refine ⟨ob, inB b ob k1 (fun z => ?_), fun z => ?_⟩
      · have h1 : s0.heap.objs.size ≤ b := by rw [z]; exact hC
        exact absurd (Nat.lt_of_lt_of_le (Heap.lt_size q) h1) (Nat.lt_irrefl _)
      · have e2 := un0.keep b o q z n (by simp)
        rw [e1] at e2
        cases e2
        exact k2 (un0.free b _ q z (by simp))
    have hfr : ∀ b ∈ frs outer, ∀ o, s'.heap.get? b = some o → ∀ vs, o.data ≠ .fields vs := fun b hb o q => by
      obtain ⟨_, o', e', n'⟩ := hst.mem (b := b) (sub b hb)
      rw [q] at e'; cases e'
      exact n'
    have sl : ∀ b ∈ frs outer, ∀ o, s'.heap.get? b = some o → (∀ vs, o.data ≠ .fields vs) → ∃ sl, h3.get? b = some { o with slots := sl } := fun b hb o q n => by
      obtain ⟨s1, e1⟩ := ups b o q n
      have e2 := (sb.2 b (hS b (sub b hb))).trans e1
      have e3 := b4 b _ e2 n
      obtain ⟨s3, e4⟩ := x2 b _ e3 n
      exact ⟨s3, e4⟩
    exact ⟨ea, Ce, a0, PySem.W.hideAll B [C], H', rfl, os.trans I.os, bare, un_flown2 un1 dom2' x1.1 sl hfr, HOk.flown hok (fun b o q => fl.1 b o (kB b o q)) x1.1 dom', x1, hea, dom', dom2', hE1⟩
  cases use <;> exact hk
end
theorem compLoop_goX {prog : Program} {w : World} {A : Around} {R : Result → Shared → Prop} {s : Shared} {elt target iter : Expr} {ifs : List Expr} {scope : Scope} {pos : Pos} {it acc : Value} {env : Env} (I : Nat → Shared → Prop)
    (turn : ∀ n s, I n s → wpAny (model prog w) A (pyNext it) (fun r s₁ => match r with
      | none => R (.ok .next) s₁
      | some v => wpAny (model prog w) A (letOwnedTupleGo target it v) (fun _ s₁' => wpAny (model prog w) A (assign target env v) (fun _ s₂ =>
          wpAny (model prog w) A (forIn ifs true fun c r => if r = true then do let ok ← isTrue c env (eval c env); pure (ForInStep.yield ok) else pure (ForInStep.yield r)) (fun ok s₃ =>
            if ok = true then wpAny (model prog w) A (eval elt env) (fun x s₄ =>
              wpAny (model prog w) A (call (.builtin "list.append") [acc, x]) (fun _ s₅ => ∃ m, m < n ∧ I m s₅) (fun _ _ => False) s₄) (notedBy (model prog w) A env fun x s' => R (.error x) s') s₃
            else ∃ m, m < n ∧ I m s₃) (fun _ _ => False) s₂) (fun _ _ => False) s₁') (fun _ _ => False) s₁) (fun _ _ => False) s)
    (n : Nat) (h : I n s) :
    codeAny (model prog w) A (.compLoop (.ListComp elt [⟨target, iter, ifs, 0⟩] scope pos) 0 it acc env) R s := by
  refine codeAny_loop rfl I (fun n s hI => ?_) n h
  show wpAny _ A ((compTurn (.ListComp elt [⟨target, iter, ifs, 0⟩] scope pos) 0 it acc env).onRaise (fun x => do noteFrame x env; theTreesLotGoes x)) _ _ s
  refine wpAny_noted ?_
  rw [compTurn_list]
  refine wpAny_bind (wpAny_standAt (wpAny_bind (wpAny_mono (turn n s hI) (fun r s₁ h₁ => ?_) fun _ _ f => f.elim)))
  cases r with
  | none => exact wpAny_pure h₁
  | some v =>
    refine wpAny_bind (wpAny_mono h₁ (fun _ s₁' h₁' => ?_) fun _ _ f => f.elim)
    refine wpAny_bind (wpAny_mono h₁' (fun _ s₂ h₂ => wpAny_bind (wpAny_mono h₂ (fun ok s₃ h₃ => ?_) fun _ _ f => f.elim)) fun _ _ f => f.elim)
    cases ok with
    | false => exact wpAny_pure ⟨rfl, h₃⟩
    | true =>
      exact wpAny_bind (wpAny_bind (wpAny_mono h₃ (fun x s₄ h₄ => wpAny_bind (wpAny_mono h₄ (fun _ s₅ h₅ => wpAny_pure (wpAny_pure ⟨rfl, h₅⟩)) fun _ _ f => f.elim)) fun _ _ f => f))
section
variable {X : Cx} {pins : List (Addr × Obj)} {σ : St} {H2 : Hp} {s₂ : Shared} {scope : Scope} {ts N2 : List Str} {cl : List (Str × Addr)} {C D : Addr} {fp : List Addr}
theorem comp_out (I2 : Inv X pins σ H2 s₂) (f2 : ∀ b ∈ fp, FpOk X pins H2 b) {σ' : St} {H' : Hp} {s' : Shared} {pl : List (Addr × Obj)}
    (J : Inv (compCx X scope (ts ++ N2) ⟨cl, C, s₂, H2, fp⟩) pl σ' H' s') : Inv X pins σ H' s' :=
  I2.call' (ch := fp) J.os J.base J.hok J.bare fun b hb => by
    obtain ⟨f0, f1, f3, f4, f5, f6⟩ := f2 b hb
    exact ⟨f4, f1, f5, f6⟩
theorem comp_blockX {Ex : Value → Hp → Prop} {E : Value → Shared → Prop} {tg elt iter : Expr} {ifs : List Expr} {pos : Pos} {it : Addr} {tn : Nat → Heap → Prop} {J : It} {g : Dyn → TG} {tt : Dyn → TT} {te : Dyn → TE} {RR : Value → Addr → Result → Shared → Prop} {Fin : List V → Hp → Prop}
    (I2 : Inv X pins σ H2 s₂) (hc : X.calm = true) (T : Turn X.prog X.w X.K tg J fp it tn) (st : tn 0 s₂.heap) (f2 : ∀ b ∈ fp, FpOk X pins H2 b) (hkind : scope.kind = .function) (hown : okOwn scope.names = true) (hfree : okFree scope.names X.env = true) (hout : okOuts scope.names N2 X.N = true)
    (hcl1 : ∀ x c, cl.lookup x = some c → X.env.cells.lookup x = some c) (hcl2 : ∀ y ∈ scope.names, y.2 = .free → ∃ c, cl.lookup y.1 = some c)
    (hg : ∀ d, PG (compCx X scope (ts ++ N2) d) tg (g d)) (ht : ∀ d, PTs (compCx X scope (ts ++ N2) d) ifs (tt d)) (he : ∀ d pn, PE (tryCx (compCx X scope (ts ++ N2) d) pn fun _ c H' => Ex c H') elt (te d))
    (hW : ∀ d, CompW J σ ts.length (g d) (tt d) (te d) H2 Fin)
    (hRR : ∀ D C s' H' ys, s₂.heap.objs.size ≤ C → C ≠ D → Inv X pins σ (upd H' D (.lst ys)) s' → H' D = none → H' C = none → (∃ m, s'.heap.Ns C m) → ys.length ≤ sizeLine → Fin ys H' → RR (.ref D) C (.ok .next) s')
    (hRE : ∀ acc C H' s' e s'' m, s₂.heap.objs.size ≤ C → Inv X pins σ H' s' → s'.heap.Ns C m → H' C = none → CX1 X.prog X.w X.stack H' s' (fun c _ H'' => Ex c H'') e s'' → notedBy (model X.prog X.w) X.A (compEnvC scope cl C X.env) (fun x s1 => RR acc C (.error x) s1) e s'') :
    wpAny (model X.prog X.w) X.A (newList []) (fun acc s₃ => wpAny (model X.prog X.w) X.A (newFunctionEnv scope X.env.globals cl [] X.env.qual none .none (some X.env)) (fun cenv s₄ =>
      codeAny (model X.prog X.w) X.A (.compStart (.ListComp elt [⟨tg, iter, ifs, 0⟩] scope pos) 0 (.ref it) acc { cenv with scope := relabel scope X.env }) (RR acc cenv.locals) s₄) E s₃) E s₂ := by
  refine wpAny_newObj_type (wpAny_newFunctionEnv (okOwn_cell hown) (by intro y hy; simp at hy) (fun h₁ hns₁ hsb₁ => ?_) hkind)
  dsimp only at hns₁ hsb₁ ⊢
  generalize hH2 : s₂.heap.push { cls := .type "list", dict := none, data := .seq ([] : List Value).toArray } = HP at hns₁ hsb₁ ⊢
  have hC : HP.objs.size = s₂.heap.objs.size + 1 := by rw [← hH2, Heap.size_push]
  have hDC : s₂.heap.objs.size ≠ HP.objs.size := by rw [hC]; exact Nat.ne_of_lt (Nat.lt_succ_self _)
  have hCle : s₂.heap.objs.size ≤ HP.objs.size := by rw [hC]; exact Nat.le_succ _
  have below : ∀ b, b < s₂.heap.objs.size → b ≠ HP.objs.size ∧ b ≠ s₂.heap.objs.size := fun b hb => ⟨by rw [hC]; exact Nat.ne_of_lt (Nat.lt_succ_of_lt hb), Nat.ne_of_lt hb⟩
  have old : ∀ b o, s₂.heap.get? b = some o → h₁.get? b = some o := fun b o e => hsb₁.extBut b o (below b (Heap.lt_size e)).1 (Heap.get?_push_of_some _ (hH2 ▸ Heap.get?_push_of_some _ e))
  have hacc : h₁.get? s₂.heap.objs.size = some (lobj []) := hsb₁.extBut _ _ hDC (Heap.get?_push_of_some _ (hH2 ▸ Heap.get?_push_size _ rfl))
  have flt : ∀ b ∈ fp, b < s₂.heap.objs.size := fun b hb => by
    obtain ⟨o, e, _⟩ := T.obj _ _ st b hb
    exact Heap.lt_size e
  generalize hDD : s₂.heap.objs.size = D at *
  generalize hCC : HP.objs.size = C at *
  have hDle : s₂.heap.objs.size ≤ D := Nat.le_of_eq hDD
  have I4 := fun (tk : Nat) => comp_start (ts := ts) (D := D) (C := C) (tk := tk) I2 hc (fun b hb => ⟨f2 b hb, by rw [hDD]; exact flt b hb⟩) hkind hown hfree hout hcl1 hcl2 (by rw [hDD]; exact hCle) hDC hDle hns₁ old hacc
  generalize hd : (⟨cl, C, s₂, H2, fp⟩ : Dyn) = d at *
  obtain ⟨W, ⟨m0, w0⟩, turn⟩ := hW d
  have Xs : ∀ {pl : List (Addr × Obj)} {H' : Hp}, (∀ b ∈ fp, H' b = none) → (∀ p ∈ pl, p.1 = D) → ∀ b ∈ fp, FpOk (compCx X scope (ts ++ N2) d) pl H' b := fun {pl H'} hn hp b hb => by
    subst hd
    obtain ⟨f0, f1, f3, f4, f5, f6⟩ := f2 b hb
    refine ⟨hn b hb, (below b (flt b hb)).1, fun z => ?_, .inl hb, fun x c e => f5 x c (hcl1 x c e), fun p hp' => ?_⟩
    · rcases List.mem_cons.mp (I2.stkSub b z) with z | z
      · exact f1 z
      · exact f3 z
    · rw [hp p (by simpa using hp')]
      exact Ne.symm (below b (flt b hb)).2
  have loop : ∀ s₃ : Shared, s₃ = { s₂ with heap := h₁, toks := s₂.toks + ([] : List (Str × Value)).length } →
      codeAny (model X.prog X.w) X.A (.compLoop (.ListComp elt [⟨tg, iter, ifs, 0⟩] scope pos) 0 (.ref it) (.ref D) (compEnvC scope cl C X.env)) (RR (.ref D) C) s₃ := by
    rintro s₃ rfl
    refine compLoop_goX (fun n s' => ∃ i ys H' its, Inv (compCx X scope (ts ++ N2) d) [(D, lobj its)] (List.replicate ts.length none ++ σ) H' s' ∧ tn i s'.heap ∧ (∀ b ∈ fp, H' b = none) ∧ Vals ys its ∧ W i n ys H') ?_ m0
      ⟨0, [], H2, [], I4 _, T.keep _ _ _ st fun b _ o e => old b o e, fun b hb => (f2 b hb).1, .nil, w0⟩
    rintro n s3 ⟨i, ys, H3, its, I3, st3, fr3, hv3, w3⟩
    obtain ⟨hlen, tr⟩ := turn i n ys H3 w3
    have one : ∀ p ∈ [(D, lobj its)], p.1 = D := fun p hp => by
      have e : p = (D, lobj its) := by simpa using hp
      rw [e]
    have eenv : (compCx X scope (ts ++ N2) d).env = compEnvC scope cl C X.env := by subst hd; rfl
    rcases tr with ⟨stop, fin⟩ | ⟨go, N, hN, step⟩
    · refine thn (T.done (compCx X scope (ts ++ N2) d) rfl rfl rfl rfl i _ s3 _ H3 (fun _ _ => False) I3 (Xs fr3 one) st3 stop) fun r s4 ⟨hr, J4⟩ => ?_
      subst hr
      show RR (.ref D) C (.ok .next) s4
      obtain ⟨pe, pn, _⟩ := J4.pin (D, lobj its) (by simp)
      have fC : H3 C = none := by have := J4.free; rw [eenv] at this; exact this
      have nC : ∃ m, s4.heap.Ns C m := by
        obtain ⟨m, z, _⟩ := J4.loc
        rw [eenv] at z
        exact ⟨m, z⟩
      subst hd
      exact hRR D C s4 H3 ys hCle (Ne.symm hDC) (comp_end I2 f2 hDle J4 pe pn hv3 hlen) pn fC nC hlen fin
    · refine thn (T.item (compCx X scope (ts ++ N2) d) rfl rfl rfl rfl i _ s3 _ H3 (fun _ _ => False) I3 (Xs fr3 one) st3 go) fun r s4 ⟨u, hr, h4⟩ => ?_
      subst hr
      refine thn h4 fun _ s5 ⟨x, H5, I5, r5, y5, st5, fr5⟩ => ?_
      have I5' := I5.pinned (Xs fr5 one) (T.obj _ _ st5)
      rw [← eenv]
      refine thn (hg d _ s5 _ H5 x u _ I5' r5 (step x H5 y5)) fun _ s6 ⟨σ6, H6, I6, hdrop, q6⟩ => ?_
      have back : ∀ {ys' : List V} {its' : List Value} {H' : Hp} {s' : Shared} {pl : List (Addr × Obj)}, Inv (compCx X scope (ts ++ N2) d) ([(D, lobj its')] ++ pl) σ6 H' s' → Inv (compCx X scope (ts ++ N2) d) [(D, lobj its')] (List.replicate ts.length none ++ σ) H' s' := fun {ys' its' H' s' pl} I' => by
        have hl : σ6.length = (ts ++ N2).length := I'.len
        refine (I'.pins_of (pins' := [(D, lobj its')]) fun p hp => I'.pin p (List.mem_append_right _ (List.mem_append_left _ hp))).weak ?_ ?_
        · rw [hl]; exact I3.len
        · intro j v e
          by_cases hj : j < ts.length
          · rw [List.getElem?_append_left (by simpa using hj), List.getElem?_replicate] at e
            split at e <;> cases e
          · have hj' : ts.length ≤ j := Nat.not_lt.mp hj
            rw [List.getElem?_append_right (by simpa using hj'), List.length_replicate, ← hdrop, List.getElem?_drop] at e
            rw [show ts.length + (j - ts.length) = j by omega] at e
            exact e
      refine thn (ht d _ s6 σ6 H6 _ I6 q6) fun b s7 ⟨H7, I7, q7⟩ => ?_
      have pinsOf : ∀ {its' : List Value} {H' : Hp} {s' : Shared}, Inv (compCx X scope (ts ++ N2) d) ([(D, lobj its')] ++ pinsAt fp s5.heap) σ6 H' s' → (∀ b ∈ fp, ∀ o, s5.heap.get? b = some o → s'.heap.get? b = some o) ∧ ∀ b ∈ fp, H' b = none := fun {its' H' s'} I' => by
        refine ⟨fun b hb o e => (I'.pin (b, o) (List.mem_append_right _ (List.mem_append_right _ (mem_pinsAt hb e)))).1, fun b hb => ?_⟩
        obtain ⟨o, e, _⟩ := T.obj _ _ st5 b hb
        exact (I'.pin (b, o) (List.mem_append_right _ (List.mem_append_right _ (mem_pinsAt hb e)))).2.1
      cases b with
      | false =>
        have q7' : N ys H7 := by simpa using q7
        obtain ⟨m', hm, w7⟩ := hN _ _ q7'
        obtain ⟨k1, k2⟩ := pinsOf I7
        show ∃ m, m < n ∧ _
        exact ⟨m', hm, i + 1, ys, H7, its, back (ys' := ys) I7, T.keep _ _ _ st5 k1, k2, hv3, w7⟩
      | true =>
        have q7' : te d σ6 H7 fun v H4 => N (ys ++ [v]) H4 := by simpa using q7
        show wpAny _ _ _ _ _ _
        refine wpAny_mono (he d _ _ s7 σ6 H7 _ (I7.intry fun _ c H' => Ex c H') q7') (fun y s8 ⟨v, H8, I8', r8, n8⟩ => ?_) (fun e s8 hx9 => by
          obtain ⟨pl9, σ9, H9, s9, J9, cx9⟩ := hx9
          have K9 := Inv.outtry (X := compCx X scope (ts ++ N2) d) J9
          obtain ⟨m9, n9, _⟩ := id K9.loc
          rw [eenv] at n9
          have f9 := K9.free
          rw [eenv] at f9
          have I9 : Inv X pins σ H9 s9 := by
            subst hd
            exact comp_out I2 f2 K9
          rw [eenv]
          exact hRE (.ref D) C H9 s9 e s8 m9 hCle I9 n9 f9 cx9)
        have I8 := Inv.outtry (X := compCx X scope (ts ++ N2) d) I8'
        obtain ⟨m', hm, w8⟩ := hN _ _ n8
        obtain ⟨k1, k2⟩ := pinsOf I8
        obtain ⟨pe, pn, pC, pf, pd⟩ := I8.pin (D, lobj its) (by simp)
        have hsz : its.toArray.size ≤ sizeLine := by rw [List.size_toArray, ← hv3.length]; exact hlen
        refine append_at (hsz := hsz) pe fun h9 sb9 e9 => ?_
        have J8 : Inv (compCx X scope (ts ++ N2) d) [] σ6 H8 s8 := I8.pins_of fun p hp => nomatch hp
        have hDs : (compCx X scope (ts ++ N2) d).s₀.heap.objs.size ≤ D := by subst hd; exact hDle
        have J9 : Inv (compCx X scope (ts ++ N2) d) [] σ6 H8 { s8 with heap := h9 } := J8.turned (t' := s8.toks) (it := D) (fun b o hb e => sb9.extBut b o hb e) pn pC (.inr hDs)
          (fun x c e => by
            obtain ⟨v', z⟩ := I3.cell x c e
            subst hd
            obtain ⟨v2, z2⟩ := I2.cell x c (hcl1 x c e)
            exact Nat.ne_of_lt (Nat.lt_of_lt_of_le z2.lt hDle)) (fun p hp => nomatch hp)
        have e9' : h9.get? D = some (lobj (its ++ [y])) := by
          rw [e9]
          show some ({ cls := .type "list", data := .seq (its.toArray.push y) (its.length + 1) } : Obj) = some { cls := .type "list", data := .seq (its ++ [y]).toArray (its ++ [y]).length }
          rw [List.length_append, List.length_singleton, List.push_toArray]
        have J9' : Inv (compCx X scope (ts ++ N2) d) ([(D, lobj (its ++ [y]))] ++ []) σ6 H8 { s8 with heap := h9 } := J9.pins_of fun p hp => by
          have e : p = (D, lobj (its ++ [y])) := by simpa using hp
          subst e
          exact ⟨e9', pn, pC, pf, fun v z => by cases z⟩
        refine ⟨m', hm, i + 1, ys ++ [v], H8, its ++ [y], back (ys' := ys) J9', ?_, k2, hv3.append (.cons r8 .nil), w8⟩
        exact T.keep _ _ _ st5 fun b hb o e => sb9.extBut b o (below b (flt b hb)).2 (k1 b hb o e)
  exact codeAny_compStart_list (loop _ rfl) (T.self _ 0 _ _ _ (T.keep _ _ _ st fun b _ o e => old b o e) (loop _ rfl))
end
theorem ps_setCX {X : Cx} {P : Program} {w : World} {K : PySem.W.Frag} {mg : Str → Option Value} {base : Heap} {NN : List Str} {qual : Str} {scp : Scope} {f : Addr} {cd : Value} {A : Around} {outer : List Env} {s0 : Shared} {H0 : Hp} {E : XK} (hX : X = cxOf (CX1 P w) P w K mg base NN qual scp f cd A outer s0 H0 E) {tg elt iter : Expr} {ifs : List Expr} {scope : Scope} {pos spos py : Pos} {i : Nat} {y : Str} (ts N2 : List Str) {wi : TI} {g : Dyn → TG} {tt : Dyn → TT} {te : Dyn → TE} (hN : X.N.Nodup) (hi' : X.N[i]? = some y) (hy : X.env.scope.names.lookup y = some .local) (hc : X.calm = true) (hi : PI X tg iter wi)
    (hg : ∀ d, PG (compCx X scope (ts ++ N2) d) tg (g d)) (ht : ∀ d, PTs (compCx X scope (ts ++ N2) d) ifs (tt d)) (he : ∀ d pn, PE (tryCx (compCx X scope (ts ++ N2) d) pn fun _ c H' => E c none H') elt (te d))
    (hkind : scope.kind = .function) (hown : okOwn scope.names = true) (hfree : okFree scope.names X.env = true) (hout : okOuts scope.names N2 X.N = true)
    (hsw : swapsWith (.ListComp elt [⟨tg, iter, ifs, 0⟩] scope pos) (some (.Name y py)) spos.line X.env = pure true)
    (hs : ∀ x, foldedSetIterable iter X.env x = pure x := by intro _; rfl) : PS X (.Assign [.Name y py] (.ListComp elt [⟨tg, iter, ifs, 0⟩] scope pos) spos) (tSetC i (tComp ts.length wi g tt te)) := by
  intro pins s σ H D0 I h
  obtain ⟨cl, hclos, hcl1, hcl2⟩ := closure_of (scope := scope) (env := X.env) fun z hz hf => I.ok.has z.1 (okFree_has hfree hz hf)
  rw [exec_Assign_Name_used _ _ _ _ hsw]
  refine wpAny_bind (wpAny_standAt (wpAny_bind ?_))
  show wpAny _ X.A (do let _ ← comprehension (.ListComp elt [⟨tg, iter, ifs, 0⟩] scope pos) scope X.env _ (newList []) false (eval iter X.env) (some (assign (.Name y py) X.env))) _ _ s
  refine wpAny_bind (wpAny_mono (wpAny_comprehension_free (use := some (assign (.Name y py) X.env)) (Q := fun _ s' => SP X pins D0 .next s') rfl hs hclos hkind (okOwn_local hown)
    (thn (hi pins s σ H _ I h) fun v s1 h1 => thn h1 fun itv s2 h2 => ?_)) (fun _ s' hq => wpAny_pure (wpAny_pure hq)) fun _ _ e => e)
  obtain ⟨it, fp, tn, J, H2, e, I2, T, st2, f2, hW⟩ := h2
  subst e
  refine comp_blockX (Ex := fun c H' => E c none H') (RR := fun acc C => compPost (model X.prog X.w) X.A X.xe (some (assign (.Name y py) X.env)) (fun _ s' => SP X pins D0 .next s') acc C) I2 hc T st2 f2 hkind hown hfree hout hcl1 hcl2 hg ht he hW ?_ (fun acc C H' s' e s'' m hC I' hn hf cx => passC hX I' hn hf (Nat.le_trans I2.sz hC) (Nat.ne_of_gt (Nat.lt_of_lt_of_le I2.lt hC)) (fun b hb z => absurd (Nat.lt_of_lt_of_le (stk_lt I2 hb) hC) (by rw [z]; exact Nat.lt_irrefl _)) cx)
  intro D C s' H' ys hC hCD I' hD hCn hNs hl fin
  obtain ⟨m, hm⟩ := hNs
  show wpAny _ _ _ _ _ _
  have hcl : C ≠ X.env.locals := Nat.ne_of_gt (Nat.lt_of_lt_of_le I2.lt hC)
  have hcc : ∀ x c, X.env.cells.lookup x = some c → c ≠ C := fun x c e => by
    obtain ⟨v, q⟩ := I2.cell x c e
    exact Nat.ne_of_lt (Nat.lt_of_lt_of_le q.lt hC)
  refine wpAny_assign_Name (store_ok2 I' hN hi' (.inl hy) (v := .ref D) (u := .ref D) rfl (fun s'' I'' ⟨a, sb, ha⟩ => ?_) (.inr hy))
  have haC : C ≠ a := by
    rcases ha with z | z
    · rw [z]; exact hcl
    · exact Ne.symm (hcc y a z)
  refine ⟨m, hm.sameBut sb haC, fun h' sb' => ?_⟩
  have I3 : Inv X pins (σ.set i (some (.ref D))) (upd H' D (.lst ys)) { s'' with heap := h' } := by
    refine I''.turned (t' := s''.toks) (it := C) (fun b o hb e => sb'.extBut b o hb e) (by rw [upd_ne hCD]; exact hCn) hcl (.inr (Nat.le_trans I2.sz hC)) hcc fun p hp => ?_
    exact Nat.ne_of_lt (Nat.lt_of_lt_of_le (Heap.lt_size (I2.pin p hp).1) hC)
  exact ⟨_, _, I3, fin D hD⟩
end L2

set_option Elab.async false
set_option maxRecDepth 100000
/-! str.split(sep); what is split is what was joined; while. -/
namespace L2
open PySem PySem.Spec PyProof.Rows
theorem at_here {x y : Str} {a c : Nat} {pre post r : List Nat} (hy : y.cps.toList = c :: r) (hd : x.cps.toList.drop a = pre ++ (y.cps.toList ++ post)) : StrLaws.At x y x.length (a + pre.length) := by
  have hl : x.cps.toList.length = x.length := by simp [Str.length]
  have hly : y.cps.toList.length = y.length := by simp [Str.length]
  have h1 : 1 ≤ y.length := by rw [← hly, hy]; simp
  have e : (x.cps.toList.drop a).length = pre.length + (y.length + post.length) := by rw [hd]; simp [hly]
  rw [List.length_drop, hl] at e
  have hd2 : x.cps.toList.drop (a + pre.length) = y.cps.toList ++ post := by
    rw [← List.drop_drop, hd, List.drop_left]
  refine ⟨by omega, ?_⟩
  rw [StrLaws.subAt_eq, hd2, ← hly, List.take_left]
  simp
theorem at_first {x y : Str} {c k : Nat} {r : List Nat} (hy : y.cps.toList = c :: r) (h : StrLaws.At x y x.length k) : x.cps.toList[k]? = some c := by
  have h2 := h.2
  rw [StrLaws.subAt_eq] at h2
  have h3 : (x.cps.toList.drop k).take y.length = c :: r := by rw [← hy]; exact eq_of_beq h2
  have h4 : ((x.cps.toList.drop k).take y.length)[0]? = some c := by rw [h3]; rfl
  have hly : 0 < y.length := by
    have : y.cps.toList.length = y.length := by simp [Str.length]
    rw [← this, hy]; simp
  rw [List.getElem?_take_of_lt hly, List.getElem?_drop] at h4
  exact h4
theorem parts_join {y : Str} {c : Nat} {r : List Nat} (hy : y.cps.toList = c :: r) (x : Str) : ∀ (ps : List Str) (cuts : List Nat) (a f : Nat), ps ≠ [] → (∀ p ∈ ps, c ∉ p.cps.toList) → a ≤ x.length → x.cps.toList.drop a = (Str.join y ps).cps.toList → StrLaws.ChainG x y x.length a cuts f → (∀ k, f ≤ k → ¬ StrLaws.At x y x.length k) → StrLaws.partsFrom x y.length a cuts = ps
  | [], _, _, _, h, _, _, _, _, _ => absurd rfl h
  | [p], cuts, a, f, _, hf, ha, hd, hG, hn => by
    have hl : x.cps.toList.length = x.length := by simp [Str.length]
    have hd' : x.cps.toList.drop a = p.cps.toList := hd
    cases cuts with
    | nil =>
      show [Builtin.Str.strSub x a x.length] = [p]
      congr 1
      apply Str.ext'
      apply Array.toList_inj.mp
      rw [StrLaws.strSub_toList, hd', List.take_of_length_le]
      rw [← hd', List.length_drop, hl]
      omega
    | cons k rest =>
      exfalso
      have hc := at_first hy hG.2.1
      have : (x.cps.toList.drop a)[k - a]? = some c := by rw [List.getElem?_drop, show a + (k - a) = k by have := hG.1; omega]; exact hc
      rw [hd'] at this
      exact hf p List.mem_cons_self (List.mem_of_getElem? this)
  | p :: q :: ps, cuts, a, f, _, hf, ha, hd, hG, hn => by
    have hl : x.cps.toList.length = x.length := by simp [Str.length]
    have hly : y.cps.toList.length = y.length := by simp [Str.length]
    have hlp : p.cps.toList.length = p.length := by simp [Str.length]
    have hd' : x.cps.toList.drop a = p.cps.toList ++ (y.cps.toList ++ (Str.join y (q :: ps)).cps.toList) := by
      rw [hd]
      show (p ++ y ++ Str.join y (q :: ps)).cps.toList = _
      simp only [Str.cps_append, Array.toList_append, List.append_assoc]
    have hA := at_here hy hd'
    rw [hlp] at hA
    cases cuts with
    | nil =>
      have e : f = a := hG
      exact absurd hA (hn _ (by omega))
    | cons k rest =>
      obtain ⟨g1, g2, g3, g4⟩ := hG
      have hc := at_first hy g2
      have h1 : k ≤ a + p.length := Nat.not_lt.mp fun z => g3 _ (Nat.le_add_right _ _) z hA
      have h2 : ¬ k - a < p.length := fun z => by
        have : (x.cps.toList.drop a)[k - a]? = some c := by rw [List.getElem?_drop, show a + (k - a) = k by omega]; exact hc
        rw [hd', List.getElem?_append_left (by rw [hlp]; exact z)] at this
        exact hf p List.mem_cons_self (List.mem_of_getElem? this)
      have ek : k = a + p.length := by omega
      subst ek
      have hk := g2.1
      have ih := parts_join hy x (q :: ps) rest (a + p.length + y.length) f (by simp) (fun z hz => hf z (List.mem_cons_of_mem _ hz)) (by omega) (by
        rw [Nat.add_assoc, ← List.drop_drop, hd', ← List.append_assoc]
        have e2 : (p.cps.toList ++ y.cps.toList).length = p.length + y.length := by rw [List.length_append, hlp, hly]
        rw [← e2, List.drop_left]) g4 hn
      show Builtin.Str.strSub x a (a + p.length) :: StrLaws.partsFrom x y.length (a + p.length + y.length) rest = p :: q :: ps
      rw [ih]
      congr 1
      apply Str.ext'
      apply Array.toList_inj.mp
      rw [StrLaws.strSub_toList, hd', Nat.add_sub_cancel_left, ← hlp, List.take_left]
theorem kind_pos (x : Str) : 1 ≤ Builtin.Str.strKind x := by
  unfold Builtin.Str.strKind
  split
  · exact Nat.le_refl _
  · split <;> omega
/-- what was joined is split again -/
theorem split_join {y : Str} {c : Nat} {r : List Nat} (hy : y.cps.toList = c :: r) (hk : Builtin.Str.strKind y = 1) {ps : List Str} (h0 : ps ≠ []) (hf : ∀ p ∈ ps, c ∉ p.cps.toList) : Txt.split (Str.join y ps) y = ps := by
  generalize hx : Str.join y ps = x
  have hly : y.cps.toList.length = y.length := by simp [Str.length]
  have h1 : 1 ≤ y.length := by rw [← hly, hy]; simp
  obtain ⟨f, hG, hn⟩ := StrLaws.occ_tight x y h1
  have key := parts_join hy x ps _ 0 f h0 hf (Nat.zero_le _) (by rw [List.drop_zero, hx]) hG hn
  unfold Txt.split
  split
  · rename_i hc
    rw [Bool.or_eq_true, decide_eq_true_eq, decide_eq_true_eq] at hc
    rcases hc with hc | hc
    · match ps, h0, hx with
      | [p], _, hx => rw [← hx]; rfl
      | p :: q :: ps, _, hx =>
        exfalso
        have : (p ++ y ++ Str.join y (q :: ps)) = x := hx
        have e := congrArg Str.length this
        rw [Str.length_append, Str.length_append] at e
        omega
    · have := kind_pos x
      omega
  · split
    · rename_i he
      have e0 := List.isEmpty_iff.mp he
      rw [e0] at key
      have : [Builtin.Str.strSub x 0 x.length] = ps := key
      rw [StrLaws.sub_whole] at this
      exact this
    · rw [StrLaws.partsBetween_eq]
      exact key
theorem txt_join (y : Str) (ps : List Str) : Txt.join y ps = Str.join y ps := StrLaws.glued_eq_join y ps
theorem vals_strsFrom : ∀ (k : Nat) (ps : List Str), Vals (ps.map V.str) (strsFrom k ps)
  | _, [] => .nil
  | k, p :: ps => .cons ⟨k, rfl⟩ (vals_strsFrom (k + 1) ps)
section
variable {X : Cx}
def rSplit : V → List V → Hp → VK → Prop := fun x vs H Q => ∃ z y, x = .str z ∧ vs = [.str y] ∧ (y.length == 0) = false ∧ z.length ≤ sizeLine ∧ (Txt.split z y).length ≤ sizeLine ∧ ∀ l, H l = none → Q (.ref l) (upd H l (.lst ((Txt.split z y).map V.str)))
theorem mt_split : MtM X "str.split" rSplit := by
  intro pins s σ H x vs v us Q I rx rv h
  obtain ⟨z, y, rfl, rfl, hy, hz, hn, q⟩ := h
  obtain ⟨t, rfl⟩ := rx
  obtain ⟨u, rfl, ru⟩ := rv.one
  obtain ⟨t2, rfl⟩ := ru
  have fin : ∀ (its : List Value) (tk : Nat), Vals ((Txt.split z y).map V.str) its → EP X pins σ Q (.ref s.heap.objs.size) { s with heap := s.heap.push { cls := .type "list", data := .seq its.toArray }, toks := tk } := fun its tk r =>
    ⟨.ref s.heap.objs.size, _, I.laid (t' := tk) (fun b o e => Heap.get?_push_of_some _ e) (Nat.le_refl _) (show ObjOk X.prog X.w _ _ _ (.lst ((Txt.split z y).map V.str)) from ⟨by rw [List.length_map]; exact hn, its, _, r, Heap.get?_push_size _ rfl⟩), rfl, q _ (I.hok.fresh (Nat.le_refl _))⟩
  by_cases h1 : (decide (z.length < y.length) || decide (Builtin.Str.strKind z < Builtin.Str.strKind y)) = true
  · have e : Txt.split z y = [z] := by unfold Txt.split; rw [if_pos h1]
    rw [e] at fin
    exact call_meets F.slot_str_split (typeIs_str _ _ _) F.entry_str_split (F.args_str_split_2 _ _) (meets_str_split_cannot_occur z y t t2 h1) (fin [.str z t] s.toks (.cons ⟨t, rfl⟩ .nil))
  · by_cases h2 : (Builtin.Str.occurrences z y 0 z.length (z.length + 1)).isEmpty = true
    · have e : Txt.split z y = [z] := by unfold Txt.split; rw [if_neg h1, if_pos h2]
      rw [e] at fin
      exact call_meets F.slot_str_split (typeIs_str _ _ _) F.entry_str_split (F.args_str_split_2 _ _) (meets_str_split_not_found z y t t2 (Bool.eq_false_iff.mpr h1) hy h2) (fin [.str z t] s.toks (.cons ⟨t, rfl⟩ .nil))
    · have e : Txt.split z y = Builtin.Str.partsBetween z (Builtin.Str.occurrences z y 0 z.length (z.length + 1)) y.length := by unfold Txt.split; rw [if_neg h1, if_neg h2]
      rw [e] at fin hn
      exact call_meets F.slot_str_split (typeIs_str _ _ _) F.entry_str_split (F.args_str_split_2 _ _) (meets_str_split_sep z y t t2 (Bool.eq_false_iff.mpr h1) hy (Bool.eq_false_iff.mpr h2) hz hn) (fin _ _ (vals_strsFrom _ _))
theorem e_split {x : V} {vs : List V} {H : Hp} {Q : VK} : rSplit x vs H Q = ∃ z y, x = .str z ∧ vs = [.str y] ∧ (y.length == 0) = false ∧ z.length ≤ sizeLine ∧ (Txt.split z y).length ≤ sizeLine ∧ ∀ l, H l = none → Q (.ref l) (upd H l (.lst ((Txt.split z y).map V.str))) := rfl
end
end L2
namespace L2
open PySem PySem.Spec PyProof.Rows
theorem e_while {c : TT} {tb : TS} {D : Ends} {σ : St} {H : Hp} : tWhile c tb D σ H = ∃ W : Nat → St → Hp → Prop, (∃ m, W m σ H) ∧ ∀ m σ H, W m σ H →
  c σ H fun b H1 => if b = true then ∃ N : St → Hp → Prop, (∀ σ' H', N σ' H' → ∃ m', m' < m ∧ W m' σ' H') ∧ tb { D with nx := N, ct := N, bk := D.nx } σ H1 else D.nx σ H1 := rfl
end L2
/-! a tuple that the module holds. -/
namespace L2
open PySem PySem.Spec PyProof.Rows
def tGlT (K : PySem.W.Frag) (xs : List V) : TE := fun _ H Q => ∀ p, SqT K H p xs → Q (.ref p) H
theorem e_glT {K : PySem.W.Frag} {xs : List V} {σ : St} {H : Hp} {Q : VK} : tGlT K xs σ H Q = ∀ p, SqT K H p xs → Q (.ref p) H := rfl
end L2

namespace Mine
open PySem PySem.Spec PyProof.Rows L2
def runs1 := And.intro @e_var (And.intro @e_C (And.intro @e_op (And.intro @e_un (And.intro @e_rI (And.intro @e_rI0 (And.intro @e_rU (And.intro @e_rEq (And.intro @e_rNe (And.intro @e_ixL (And.intro @e_ixT (And.intro @e_set (And.intro @e_cat (And.intro @e_test (And.intro @e_B (And.intro @e_and (And.intro @e_or (And.intro @e_not (And.intro @e_andV (And.intro @e_orV (And.intro @e_notV (And.intro @e_ifE (And.intro @e_all (And.intro @e_next (And.intro @e_seq (And.intro @e_brk (And.intro @e_cnt (And.intro @e_drop (And.intro @e_ret (And.intro @e_retN (And.intro @e_ifS (And.intro @e_asg (And.intro @e_gName (And.intro @e_setC (And.intro @e_augS (And.intro @e_ipI (And.intro @e_nil (And.intro @e_cons (And.intro @e_tup (And.intro @e_lst (And.intro @e_call (And.intro @e_CB (And.intro @e_BM (And.intro @e_app (And.intro @e_rng1 (And.intro @e_rng2 (And.intro @e_iL (And.intro @e_for (And.intro @e_comp (And.intro @cxK (And.intro @e_zip (And.intro @e_gTup (And.intro @e_gNil (And.intro @e_gCons (And.intro @e_rep (And.intro @e_gSub (And.intro @e_slL (And.intro @e_tSl (And.intro @e_noPart (And.intro @e_part (And.intro @e_rng3 (And.intro @e_dnew0 (And.intro @e_pop (And.intro @e_BM0 (And.intro @e_chain (And.intro @e_in (And.intro @e_enum (And.intro @e_minK (And.intro @e_callX (And.intro @e_raise (And.intro @e_tryAs (And.intro @e_try0 (And.intro @suK (And.intro @noxK (And.intro @tryK (And.intro @e_eqD (And.intro @e_inD (And.intro @e_iStr (And.intro @e_mulS (And.intro @e_ixS (And.intro @e_join (And.intro @e_rev (And.intro @e_clear (And.intro @e_popAt (And.intro @e_iT (And.intro @e_iSeq (And.intro @e_tupL (And.intro @e_disp (And.intro @e_pairs0 (And.intro @e_pairs (And.intro @e_minL (And.intro @e_maxL (And.intro @e_listRev (And.intro @e_listRng (And.intro @e_lenSet (And.intro @e_leS (And.intro @e_vI0 (And.intro @e_vI (And.intro @e_ints (And.intro @e_isB (And.intro @e_catH (And.intro @e_extend (And.intro @e_rngD (And.intro @e_slH (And.intro @e_slT (And.intro @e_indexT (And.intro @e_indexL (And.intro @e_inK (And.intro @e_setD (And.intro @e_dnewT (And.intro @e_dget (And.intro @e_zip3 (And.intro @e_zip2 (And.intro @e_BMT (And.intro @e_dictP (And.intro @e_maxK (And.intro @e_dictK (And.intro @e_eqK (And.intro @e_countT (And.intro @e_dg1 (And.intro @e_dg2 (And.intro @e_neI (And.intro @e_split (And.intro @e_while (@e_glT))))))))))))))))))))))))))))))))))))))))))))))))))))))))))))))))))))))))))))))))))))))))))))))))))))))))))))))))))))))))))))
def top (i : Nat) : Stmt := PySem.Challenge.pw_trueword_k69_bounds_of_a_rule.main.body.getD i (.Pass ⟨0, 0, 0, 0⟩)
abbrev s_is_whole : Stmt := top 6
theorem sc_is_whole : FnScope ["thing"] ["thing"] (defScope s_is_whole) := ⟨rfl, rfl, rfl, by decide +kernel, rfl, by decide +kernel, by decide +kernel⟩
abbrev s_is_bounded : Stmt := top 7
theorem sc_is_bounded : FnScope ["thing"] ["thing"] (defScope s_is_bounded) := ⟨rfl, rfl, rfl, by decide +kernel, rfl, by decide +kernel, by decide +kernel⟩
abbrev s_is_grid_row : Stmt := top 8
theorem sc_is_grid_row : FnScope ["thing", "width"] ["thing", "width"] (defScope s_is_grid_row) := ⟨rfl, rfl, rfl, by decide +kernel, rfl, by decide +kernel, by decide +kernel⟩
abbrev s_is_name : Stmt := top 14
theorem sc_is_name : FnScope ["thing"] ["thing"] (defScope s_is_name) := ⟨rfl, rfl, rfl, by decide +kernel, rfl, by decide +kernel, by decide +kernel⟩
abbrev s_are_names : Stmt := top 15
theorem sc_are_names : FnScope ["thing", "most"] ["thing", "most"] (defScope s_are_names) := ⟨rfl, rfl, rfl, by decide +kernel, rfl, by decide +kernel, by decide +kernel⟩
abbrev s_are_worths : Stmt := top 16
theorem sc_are_worths : FnScope ["thing", "height", "width"] ["thing", "height", "width"] (defScope s_are_worths) := ⟨rfl, rfl, rfl, by decide +kernel, rfl, by decide +kernel, by decide +kernel⟩
abbrev s_is_hand : Stmt := top 17
theorem sc_is_hand : FnScope ["thing", "width"] ["thing", "width"] (defScope s_is_hand) := ⟨rfl, rfl, rfl, by decide +kernel, rfl, by decide +kernel, by decide +kernel⟩
abbrev s_name_of : Stmt := top 18
theorem sc_name_of : FnScope ["hand"] ["hand"] (defScope s_name_of) := ⟨rfl, rfl, rfl, by decide +kernel, rfl, by decide +kernel, by decide +kernel⟩
abbrev s_names_of : Stmt := top 19
theorem sc_names_of : FnScope ["hands"] ["hands"] (defScope s_names_of) := ⟨rfl, rfl, rfl, by decide +kernel, rfl, by decide +kernel, by decide +kernel⟩
abbrev s_words_of_hand : Stmt := top 20
theorem sc_words_of_hand : FnScope ["hand"] ["hand"] (defScope s_words_of_hand) := ⟨rfl, rfl, rfl, by decide +kernel, rfl, by decide +kernel, by decide +kernel⟩
abbrev s_worths_of_hand : Stmt := top 21
theorem sc_worths_of_hand : FnScope ["hand"] ["hand"] (defScope s_worths_of_hand) := ⟨rfl, rfl, rfl, by decide +kernel, rfl, by decide +kernel, by decide +kernel⟩
abbrev s_count_of_rows : Stmt := top 22
theorem sc_count_of_rows : FnScope ["hands", "count", "hand"] ["hands"] (defScope s_count_of_rows) := ⟨rfl, rfl, rfl, by decide +kernel, rfl, by decide +kernel, by decide +kernel⟩
abbrev s_makes_house : Stmt := top 23
theorem sc_makes_house : FnScope ["outcomes", "hands"] ["outcomes", "hands"] (defScope s_makes_house) := ⟨rfl, rfl, rfl, by decide +kernel, rfl, by decide +kernel, by decide +kernel⟩
abbrev s_kept_hand : Stmt := top 24
theorem sc_kept_hand : FnScope ["hand", "worths"] ["hand"] (defScope s_kept_hand) := ⟨rfl, rfl, rfl, by decide +kernel, rfl, by decide +kernel, by decide +kernel⟩
abbrev s_house_of : Stmt := top 25
theorem sc_house_of : FnScope ["outcomes", "hands"] ["outcomes", "hands"] (defScope s_house_of) := ⟨rfl, rfl, rfl, by decide +kernel, rfl, by decide +kernel, by decide +kernel⟩
abbrev s_outcomes_of : Stmt := top 26
theorem sc_outcomes_of : FnScope ["house"] ["house"] (defScope s_outcomes_of) := ⟨rfl, rfl, rfl, by decide +kernel, rfl, by decide +kernel, by decide +kernel⟩
abbrev s_hands_of : Stmt := top 27
theorem sc_hands_of : FnScope ["house"] ["house"] (defScope s_hands_of) := ⟨rfl, rfl, rfl, by decide +kernel, rfl, by decide +kernel, by decide +kernel⟩
abbrev s_condition_of : Stmt := top 32
theorem sc_condition_of : FnScope ["told"] ["told"] (defScope s_condition_of) := ⟨rfl, rfl, rfl, by decide +kernel, rfl, by decide +kernel, by decide +kernel⟩
abbrev s_place_of : Stmt := top 33
theorem sc_place_of : FnScope ["told"] ["told"] (defScope s_place_of) := ⟨rfl, rfl, rfl, by decide +kernel, rfl, by decide +kernel, by decide +kernel⟩
abbrev s_word_at : Stmt := top 34
theorem sc_word_at : FnScope ["words", "place"] ["words", "place"] (defScope s_word_at) := ⟨rfl, rfl, rfl, by decide +kernel, rfl, by decide +kernel, by decide +kernel⟩
abbrev s_read_says : Stmt := top 35
theorem sc_read_says : FnScope ["house", "name", "word", "names", "k"] ["house", "name", "word"] (defScope s_read_says) := ⟨rfl, rfl, rfl, by decide +kernel, rfl, by decide +kernel, by decide +kernel⟩
abbrev s_read_count : Stmt := top 36
theorem sc_read_count : FnScope ["house", "figure", "word"] ["house", "figure", "word"] (defScope s_read_count) := ⟨rfl, rfl, rfl, by decide +kernel, rfl, by decide +kernel, by decide +kernel⟩
abbrev s_read_condition : Stmt := top 37
theorem sc_read_condition : FnScope ["house", "words", "place", "kind", "told", "one", "other"] ["house", "words", "place"] (defScope s_read_condition) := ⟨rfl, rfl, rfl, by decide +kernel, rfl, by decide +kernel, by decide +kernel⟩
abbrev s_read_deal : Stmt := top 38
theorem sc_read_deal : FnScope ["house", "words"] ["house", "words"] (defScope s_read_deal) := ⟨rfl, rfl, rfl, by decide +kernel, rfl, by decide +kernel, by decide +kernel⟩
abbrev s_read_clause : Stmt := top 39
theorem sc_read_clause : FnScope ["house", "words", "told"] ["house", "words"] (defScope s_read_clause) := ⟨rfl, rfl, rfl, by decide +kernel, rfl, by decide +kernel, by decide +kernel⟩
abbrev s_clauses_in : Stmt := top 40
theorem sc_clauses_in : FnScope ["text", "clauses"] ["text"] (defScope s_clauses_in) := ⟨rfl, rfl, rfl, by decide +kernel, rfl, by decide +kernel, by decide +kernel⟩
abbrev s_read_rule : Stmt := top 41
theorem sc_read_rule : FnScope ["house", "text", "clauses", "rule"] ["house", "text"] (defScope s_read_rule) := ⟨rfl, rfl, rfl, by decide +kernel, rfl, by decide +kernel, by decide +kernel⟩
abbrev s_holds : Stmt := top 43
theorem sc_holds : FnScope ["condition", "row", "kind"] ["condition", "row"] (defScope s_holds) := ⟨rfl, rfl, rfl, by decide +kernel, rfl, by decide +kernel, by decide +kernel⟩
abbrev s_dealt : Stmt := top 44
theorem sc_dealt : FnScope ["rule", "row"] ["rule", "row"] (defScope s_dealt) := ⟨rfl, rfl, rfl, by decide +kernel, rfl, by decide +kernel, by decide +kernel⟩
abbrev s_law_cell_at : Stmt := top 46
theorem sc_law_cell_at : FnScope ["script", "k"] ["script", "k"] (defScope s_law_cell_at) := ⟨rfl, rfl, rfl, by decide +kernel, rfl, by decide +kernel, by decide +kernel⟩
abbrev s_law_depth : Stmt := top 47
theorem sc_law_depth : FnScope ["condition", "depth"] ["condition"] (defScope s_law_depth) := ⟨rfl, rfl, rfl, by decide +kernel, rfl, by decide +kernel, by decide +kernel⟩
abbrev s_law_clause : Stmt := top 48
theorem sc_law_clause : FnScope ["depth", "outcome"] ["depth", "outcome"] (defScope s_law_clause) := ⟨rfl, rfl, rfl, by decide +kernel, rfl, by decide +kernel, by decide +kernel⟩
abbrev s_law_read : Stmt := top 49
theorem sc_law_read : FnScope ["found", "depths", "k", "word", "due", "depth"] ["found", "depths"] (defScope s_law_read) := ⟨rfl, rfl, rfl, by decide +kernel, rfl, by decide +kernel, by decide +kernel⟩
abbrev s_law : Stmt := top 50
theorem sc_law : FnScope ["script", "hands", "house", "first", "many", "far", "depths", "cell", "deep", "text", "good", "found", "refused", "e"] ["script"] (defScope s_law) := ⟨rfl, rfl, rfl, by decide +kernel, rfl, by decide +kernel, by decide +kernel⟩
structure Bt (mg : Str → Option Value) : Prop where
  «abs» : mg "abs" = none
  «all» : mg "all" = none
  «bool» : mg "bool" = none
  «int» : mg "int" = none
  «isinstance» : mg "isinstance" = none
  «len» : mg "len" = none
  «list» : mg "list" = none
  «max» : mg "max" = none
  «range» : mg "range" = none
  «set» : mg "set" = none
  «str» : mg "str" = none
  «tuple» : mg "tuple" = none
  k_MOST_WORDS : ∃ t, mg "MOST_WORDS" = some (Value.int 8 t)
  k_MOST_LETTERS : ∃ t, mg "MOST_LETTERS" = some (Value.int 8 t)
  k_MOST_OUTCOMES : ∃ t, mg "MOST_OUTCOMES" = some (Value.int 8 t)
  k_MOST_HANDS : ∃ t, mg "MOST_HANDS" = some (Value.int 4 t)
  k_MOST_ROWS : ∃ t, mg "MOST_ROWS" = some (Value.int 256 t)
  k_MOST_CLAUSES : ∃ t, mg "MOST_CLAUSES" = some (Value.int 20 t)
  k_MOST_CLAUSE_WORDS : ∃ t, mg "MOST_CLAUSE_WORDS" = some (Value.int 40 t)
structure Ad where
  NoHouse : Addr
  NoRule : Addr
  TrueError : Addr
structure Ct (K : PySem.W.Frag) (mg : Str → Option Value) (a : Ad) : Prop where
  m_NoHouse : mg "NoHouse" = some (.ref a.NoHouse)
  q_NoHouse : ErrQ K a.NoHouse
  m_NoRule : mg "NoRule" = some (.ref a.NoRule)
  q_NoRule : ErrQ K a.NoRule
  m_TrueError : mg "TrueError" = some (.ref a.TrueError)
  s_NoRule_NoRule : PySem.W.mroIn K a.NoRule (.ref a.NoRule) = some true
  k_NoRule_NoRule : PySem.W.kitOne K (.ref a.NoRule) (.ref a.NoRule) = some true
  s_NoRule_TrueError : PySem.W.mroIn K a.NoRule (.ref a.TrueError) = some true
  k_NoRule_TrueError : PySem.W.kitOne K (.ref a.NoRule) (.ref a.TrueError) = some true


/-! ### the data: a grid that was made, by its shape -/
structure NewGrid (H H' : Hp) (b : Addr) (bs : List Addr) (rows : List (List Int)) (k n : Nat) : Prop where
  same : Same H H'
  nb : H b = none
  nr : ∀ r ∈ bs, H r = none
  nd : bs.Nodup
  ne : b ∉ bs
  at' : H' b = some (.lst (bs.map V.ref))
  lb : bs.length = k
  lr : rows.length = k
  row : ∀ (i : Nat) (r : Addr) (ns : List Int), bs[i]? = some r → rows[i]? = some ns → H' r = some (.lst (ns.map V.int)) ∧ ns.length = n
theorem NewGrid.grid {K : PySem.W.Frag} {H H' : Hp} {b : Addr} {bs : List Addr} {rows : List (List Int)} {k n : Nat} (g : NewGrid H H' b bs rows k n) : GridL K H' b bs rows :=
  ⟨.of g.at', g.lb.trans g.lr.symm, fun i r ns e1 e2 => .of (g.row i r ns e1 e2).1⟩
theorem Same.upd {H H' : Hp} (s : Same H H') {a : Addr} {o : HO} (n : H a = none) : Same H (upd H' a o) := fun b u e => by
  rw [upd_ne (ne_of_none e n)]; exact s b u e
theorem NewGrid.nil {H H' : Hp} {b : Addr} {n : Nat} (s : Same H H') (nb : H' b = none) : NewGrid H (upd H' b (.lst [])) b [] [] 0 n :=
  ⟨Same.upd s (s.free nb), s.free nb, (fun _ z => nomatch z), List.nodup_nil, (fun z => nomatch z), upd_same, rfl, rfl, (fun i r ns e => by simp at e)⟩
/-- another thing is laid -/
theorem NewGrid.laid {H H' : Hp} {b c : Addr} {bs : List Addr} {rows : List (List Int)} {k n : Nat} {o : HO} (g : NewGrid H H' b bs rows k n) (nc : H' c = none) : NewGrid H (L2.upd H' c o) b bs rows k n :=
  ⟨Same.upd g.same (g.same.free nc), g.nb, g.nr, g.nd, g.ne, by rw [upd_ne (ne_of_none g.at' nc)]; exact g.at', g.lb, g.lr, fun i r ns e1 e2 => by
    obtain ⟨q, l⟩ := g.row i r ns e1 e2
    exact ⟨by rw [upd_ne (ne_of_none q nc)]; exact q, l⟩⟩
/-- a row is laid -/
theorem NewGrid.snoc {H H' : Hp} {b c : Addr} {bs : List Addr} {rows : List (List Int)} {k n : Nat} {ns : List Int} (g : NewGrid H H' b bs rows k n) (hn : H c = none) (hc : H' c = some (.lst (ns.map V.int))) (hl : ns.length = n) (hb : c ∉ bs) (hcb : c ≠ b) :
    NewGrid H (L2.upd H' b (.lst (bs.map V.ref ++ [.ref c]))) b (bs ++ [c]) (rows ++ [ns]) (k + 1) n := by
  refine ⟨Same.upd g.same g.nb, g.nb, fun r hr => ?_, ?_, ?_, ?_, by rw [List.length_append, g.lb]; rfl, by rw [List.length_append, g.lr]; rfl, fun i r ms e1 e2 => ?_⟩
  · rcases List.mem_append.mp hr with z | z
    · exact g.nr r z
    · rw [List.mem_singleton.mp z]; exact hn
  · refine List.nodup_append.mpr ⟨g.nd, by simp, fun x hx y hy => ?_⟩
    rw [List.mem_singleton.mp hy]
    rintro rfl
    exact hb hx
  · intro z
    rcases List.mem_append.mp z with z | z
    · exact g.ne z
    · exact hcb (List.mem_singleton.mp z).symm
  · rw [upd_same, List.map_append]; rfl
  · have nb' : ∀ r, r ∈ bs ++ [c] → r ≠ b := fun r hr => by
      rcases List.mem_append.mp hr with z | z
      · rintro rfl; exact g.ne z
      · rw [List.mem_singleton.mp z]; exact hcb
    have hr : r ∈ bs ++ [c] := List.mem_of_getElem? e1
    rw [upd_ne (nb' r hr)]
    by_cases hi : i < bs.length
    · rw [List.getElem?_append_left hi] at e1
      rw [List.getElem?_append_left (by rw [g.lr, ← g.lb]; exact hi)] at e2
      exact g.row i r ms e1 e2
    · have hi' : bs.length ≤ i := Nat.not_lt.mp hi
      rw [List.getElem?_append_right hi'] at e1
      rw [List.getElem?_append_right (by rw [g.lr, ← g.lb]; exact hi')] at e2
      have e0 : i - bs.length = 0 := by
        have := (List.getElem?_eq_some_iff.mp e1).1
        simp at this; omega
      rw [e0] at e1
      have e0' : i - rows.length = 0 := by rw [g.lr, ← g.lb]; exact e0
      rw [e0'] at e2
      simp at e1 e2
      subst e1 e2
      exact ⟨hc, hl⟩
theorem NewGrid.trans {H H1 H' : Hp} {b : Addr} {bs : List Addr} {rows : List (List Int)} {k n : Nat} (s : Same H H1) (g : NewGrid H1 H' b bs rows k n) : NewGrid H H' b bs rows k n :=
  ⟨s.trans g.same, s.free g.nb, fun r hr => s.free (g.nr r hr), g.nd, g.ne, g.at', g.lb, g.lr, g.row⟩

/-! ### the promises of the law's own helpers, as far as shapes go -/
def spCell (K : PySem.W.Frag) : Sp := fun vs H Q _ => ∃ (a : Addr) (ns : List Int) (k : Int), vs = [.ref a, .int k] ∧ SqL K H a (ns.map V.int) ∧ 0 ≤ k ∧ ∀ v : Int, Q (.int v) H
def spLaw (K : PySem.W.Frag) : Sp := fun vs H Q _ => ∃ (a : Addr) (ns : List Int), vs = [.ref a] ∧ SqL K H a (ns.map V.int) ∧ ns.length ≤ 63 ∧ ∀ H', Q (.bl true) H'
theorem ixN_nat {n j : Nat} (h : j < n) : ixN n (j : Int) = some j := by
  unfold ixN
  rw [if_pos (by omega), if_pos (by omega)]
  simp
theorem law_binds {K : PySem.W.Frag} {f : Addr} {fd : FuncData} (F : Fun K "law" "law" s_law f fd) (s : Shared) (u : Value) : BindsTo s fd ⟨[u], []⟩ [("script", u)] := by
  obtain ⟨oc, od, kV, doc, pm, an, cdv, ct, osl, rfl, lk, hcd⟩ := F.ex
  exact .of_eq rfl
/-- a copy that grows, row by row -/
structure Copy (H1 H2 : Hp) (rows : List (List Int)) (i : Nat) (cs : List Addr) : Prop where
  same : Same H1 H2
  len : cs.length = i
  row : ∀ (j : Nat) (c : Addr) (ns : List Int), cs[j]? = some c → rows[j]? = some ns → H2 c = some (.lst (ns.map V.int))
theorem Copy.snoc {H1 H2 : Hp} {rows : List (List Int)} {i : Nat} {cs : List Addr} {l : Addr} {ns : List Int} (C : Copy H1 H2 rows i cs) (hl : H2 l = none) (e : rows[i]? = some ns) : Copy H1 (upd H2 l (.lst (ns.map V.int))) rows (i + 1) (cs ++ [l]) := by
  refine ⟨Same.upd C.same (C.same.free hl), by rw [List.length_append, C.len]; rfl, fun j c ms e1 e2 => ?_⟩
  by_cases hj : j < cs.length
  · rw [List.getElem?_append_left hj] at e1
    have q := C.row j c ms e1 e2
    rw [upd_ne (ne_of_none q hl)]; exact q
  · have hj' : cs.length ≤ j := Nat.not_lt.mp hj
    rw [List.getElem?_append_right hj'] at e1
    have h0 : j - cs.length = 0 := by
      have := (List.getElem?_eq_some_iff.mp e1).1
      simp at this; omega
    rw [h0] at e1
    simp at e1
    subst e1
    have hji : j = i := by rw [← C.len]; omega
    subst hji
    rw [e] at e2; cases e2
    exact upd_same
theorem GridL.mono {K : PySem.W.Frag} {H H' : Hp} {g : Addr} {as : List Addr} {rows : List (List Int)} (S : Same H H') (G : GridL K H g as rows) : GridL K H' g as rows := ⟨S.seq G.1, G.2.1, fun i r ns e1 e2 => S.seq (G.2.2 i r ns e1 e2)⟩
theorem NewGrid.width {H H' : Hp} {b : Addr} {bs : List Addr} {rows : List (List Int)} {n : Nat} (G : NewGrid H H' b bs rows n n) : ∀ i : Nat, i < n → ∃ ns : List Int, rows[i]? = some ns ∧ ns.length = n := fun i hi => by
  have hr2 : i < rows.length := by rw [G.lr]; exact hi
  have hb2 : i < bs.length := by rw [G.lb]; exact hi
  exact ⟨rows[i], by simp [hr2], (G.row i bs[i] rows[i] (by simp [hb2]) (by simp [hr2])).2⟩
/-! ### conditions -/
inductive Cd where
  | says (k : Nat) (w : Str)
  | count (n : Nat) (w : Str)
  | no (c : Cd)
  | an (c d : Cd)
  | orr (c d : Cd)
def dep : Cd → Nat
  | .says _ _ => 0
  | .count _ _ => 0
  | .no c => dep c + 1
  | .an c d => max (dep c) (dep d) + 1
  | .orr c d => max (dep c) (dep d) + 1
def fit (n : Nat) : Cd → Prop
  | .says k _ => k < n
  | .count _ _ => True
  | .no c => fit n c
  | .an c d => fit n c ∧ fit n d
  | .orr c d => fit n c ∧ fit n d
def ev (r : List Str) : Cd → Bool
  | .says k w => decide (r[k]? = some w)
  | .count n w => decide ((n : Int) ≤ ((r.map V.str).countP fun z => eqV z (V.str w) : Nat))
  | .no c => !ev r c
  | .an c d => ev r c && ev r d
  | .orr c d => ev r c || ev r d
def CondAt (H : Hp) : Cd → V → Prop
  | .says k w, v => ∃ t, v = .ref t ∧ H t = some (.tup [.str (Str.ofString "says"), .int k, .str w])
  | .count n w, v => ∃ t, v = .ref t ∧ H t = some (.tup [.str (Str.ofString "count"), .int n, .str w])
  | .no c, v => ∃ t x, v = .ref t ∧ H t = some (.tup [.str (Str.ofString "not"), x]) ∧ CondAt H c x
  | .an c d, v => ∃ t x y, v = .ref t ∧ H t = some (.tup [.str (Str.ofString "and"), x, y]) ∧ CondAt H c x ∧ CondAt H d y
  | .orr c d, v => ∃ t x y, v = .ref t ∧ H t = some (.tup [.str (Str.ofString "or"), x, y]) ∧ CondAt H c x ∧ CondAt H d y
theorem CondAt.mono {H H' : Hp} (S : Same H H') : ∀ {c : Cd} {v : V}, CondAt H c v → CondAt H' c v
  | .says _ _, _, h => by obtain ⟨t, e, h⟩ := h; exact ⟨t, e, S _ _ h⟩
  | .count _ _, _, h => by obtain ⟨t, e, h⟩ := h; exact ⟨t, e, S _ _ h⟩
  | .no _, _, h => by obtain ⟨t, x, e, h, h1⟩ := h; exact ⟨t, x, e, S _ _ h, CondAt.mono S h1⟩
  | .an _ _, _, h => by obtain ⟨t, x, y, e, h, h1, h2⟩ := h; exact ⟨t, x, y, e, S _ _ h, CondAt.mono S h1, CondAt.mono S h2⟩
  | .orr _ _, _, h => by obtain ⟨t, x, y, e, h, h1, h2⟩ := h; exact ⟨t, x, y, e, S _ _ h, CondAt.mono S h1, CondAt.mono S h2⟩
/-- a condition or none -/
def CoAt (H : Hp) : Option Cd → V → Prop
  | none, v => v = .non
  | some c, v => CondAt H c v
def evo (r : List Str) : Option Cd → Bool
  | none => true
  | some c => ev r c
def depo : Option Cd → Nat
  | none => 0
  | some c => dep c
def fito (n : Nat) : Option Cd → Prop
  | none => True
  | some c => fit n c
def spHolds (K : PySem.W.Frag) (d : Nat) : Sp := fun vs H Q _ => ∃ (v : V) (r : Addr) (row : List Str) (c : Option Cd), vs = [v, .ref r] ∧ CoAt H c v ∧ H r = some (.tup (row.map V.str)) ∧ fito row.length c ∧ depo c < d ∧ Q (.bl (evo row c)) H
theorem flat_strs (zs : List Str) : (zs.map V.str).all flatV = true := by
  rw [List.all_eq_true]
  intro x hx
  obtain ⟨z, _, rfl⟩ := List.mem_map.mp hx
  rfl
section
variable {P : Program} {w : World} {K : PySem.W.Frag} {mg : Str → Option Value} {base : Heap}
set_option maxHeartbeats 4000000
theorem f_holds (D : DefIn K mg "holds" s_holds ["condition", "row"]) : ∀ d, FnAt P w K mg base "holds" (d + 1) ["condition", "row"] (spHolds K d)
  | 0 => by
    refine FnAt.of D sc_holds (fun vs H Q E h => ?_) (fun f cdv A outer s H vs Q E hr h => ?_)
    · obtain ⟨v, r, row, c, rfl, _⟩ := h
      rfl
    · obtain ⟨v, r, row, c, _, _, _, _, h, _⟩ := h
      omega
  | d + 1 => by
    have f_holds := f_holds D d
    refine FnAt.of D sc_holds (fun vs H Q E h => ?_) (fun f cdv A outer s H vs Q E hr h => ?_)
    · obtain ⟨v, r, row, c, rfl, _⟩ := h
      rfl
    · obtain ⟨v, r, row, c, rfl, hc, hrow, hf, hd, q⟩ := h
      refine ⟨_, (@pss_cons _ _ _ _ _ (@ps_if _ _ _ _ _ _ _ _ (@pt_cmpR _ _ _ _ _ _ _ _ op_isN (pv 0) (@pe_non _ _ _) (nomark _)) (@pss_one _ _ _ (@ps_ret _ _ _ _ (@pe_bl _ _ _ _))) (@pss_nil _)) (@pss_cons _ _ _ _ _ (ps_set (i := 2) sc_holds.nd rfl (Or.inl rfl) (@pe_ix _ _ _ _ _ _ _ ix_tup (pv 0) (@pe_int _ _ _ _) (fun _ _ => rfl))) (@pss_cons _ _ _ _ _ (@ps_if _ _ _ _ _ _ _ _ (@pt_cmpR _ _ _ _ _ _ _ _ op_eq (pv 2) (@pe_str _ _ _ _) (nomark _)) (@pss_one _ _ _ (@ps_ret _ _ _ _ (@pe_cmpR _ _ _ _ _ _ _ _ op_eq (@pe_ix _ _ _ _ _ _ _ ix_tup (pv 1) (@pe_ix _ _ _ _ _ _ _ ix_tup (pv 0) (@pe_int _ _ _ _) (fun _ _ => rfl)) (fun _ _ => rfl)) (@pe_ix _ _ _ _ _ _ _ ix_tup (pv 0) (@pe_int _ _ _ _) (fun _ _ => rfl)) (nomark _)))) (@pss_nil _)) (@pss_cons _ _ _ _ _ (@ps_if _ _ _ _ _ _ _ _ (@pt_cmpR _ _ _ _ _ _ _ _ op_eq (pv 2) (@pe_str _ _ _ _) (nomark _)) (@pss_one _ _ _ (@ps_ret _ _ _ _ (@pe_cmpR _ _ _ _ _ _ _ _ op_ge (pe_bmT PySem.F.plainAttrs_tuple PySem.F.slot_tuple_count PySem.F.type_tuple_count mt_countT (pv 1) (pa_cons (@pe_ix _ _ _ _ _ _ _ ix_tup (pv 0) (@pe_int _ _ _ _) (fun _ _ => rfl)) (@pa_nil _))) (@pe_ix _ _ _ _ _ _ _ ix_tup (pv 0) (@pe_int _ _ _ _) (fun _ _ => rfl)) (nomark _)))) (@pss_nil _)) (@pss_cons _ _ _ _ _ (@ps_if _ _ _ _ _ _ _ _ (@pt_cmpR _ _ _ _ _ _ _ _ op_eq (pv 2) (@pe_str _ _ _ _) (nomark _)) (@pss_one _ _ _ (@ps_ret _ _ _ _ (@pe_not _ _ _ _ (pe_callA f_holds (hr.mono (by omega)) rfl (pa_cons (@pe_ix _ _ _ _ _ _ _ ix_tup (pv 0) (@pe_int _ _ _ _) (fun _ _ => rfl)) (pa_cons (pv 1) (@pa_nil _))))))) (@pss_nil _)) (@pss_cons _ _ _ _ _ (@ps_if _ _ _ _ _ _ _ _ (@pt_cmpR _ _ _ _ _ _ _ _ op_eq (pv 2) (@pe_str _ _ _ _) (nomark _)) (@pss_one _ _ _ (@ps_ret _ _ _ _ (@pe_and _ _ _ _ _ _ _ (pe_callA f_holds (hr.mono (by omega)) rfl (pa_cons (@pe_ix _ _ _ _ _ _ _ ix_tup (pv 0) (@pe_int _ _ _ _) (fun _ _ => rfl)) (pa_cons (pv 1) (@pa_nil _)))) (@pe_one _ _ _ _ _ (pe_callA f_holds (hr.mono (by omega)) rfl (pa_cons (@pe_ix _ _ _ _ _ _ _ ix_tup (pv 0) (@pe_int _ _ _ _) (fun _ _ => rfl)) (pa_cons (pv 1) (@pa_nil _)))))))) (@pss_nil _)) (@pss_one _ _ _ (@ps_ret _ _ _ _ (@pe_or _ _ _ _ _ _ _ (pe_callA f_holds (hr.mono (by omega)) rfl (pa_cons (@pe_ix _ _ _ _ _ _ _ ix_tup (pv 0) (@pe_int _ _ _ _) (fun _ _ => rfl)) (pa_cons (pv 1) (@pa_nil _)))) (@pe_one _ _ _ _ _ (pe_callA f_holds (hr.mono (by omega)) rfl (pa_cons (@pe_ix _ _ _ _ _ _ _ ix_tup (pv 0) (@pe_int _ _ _ _) (fun _ _ => rfl)) (pa_cons (pv 1) (@pa_nil _)))))))))))))), ?_⟩
      rw [show start ["condition", "row", "kind"] [v, V.ref r] = [some v, some (V.ref r), none] from rfl]
      simp only [runs1, List.length_cons, List.length_nil, Nat.zero_add, List.replicate_succ, List.replicate_zero, List.drop_succ_cons, List.drop_zero, Int.zero_add, List.getElem?_cons_zero, List.getElem?_cons_succ, List.set_cons_zero, List.set_cons_succ, Option.some.injEq, V.int.injEq, V.ref.injEq, V.bl.injEq, V.ty.injEq, V.str.injEq, List.cons.injEq, List.append_nil, List.cons_append, List.nil_append, exists_eq, exists_eq', exists_eq_left, exists_eq_left', exists_and_left, exists_and_right, and_assoc, true_and, and_true, ↓reduceIte]
      cases c with
      | none =>
        cases hc
        exact ite2 (fun _ => q) (fun z => absurd (decide_eq_true rfl) z)
      | some c =>
        cases c with
        | says k w =>
          obtain ⟨t, rfl, ht⟩ := hc
          have hk : k < row.length := hf
          refine ite2 (fun z => absurd (of_decide_eq_true z) (by simp)) (fun _ => ⟨t, rfl, _, .of ht, _, atI_nat (j := 0) rfl, rfl, ite2 (fun _ => ?_) (fun z => absurd (decide_eq_true rfl) z)⟩)
          refine ⟨t, rfl, _, .of ht, _, atI_nat (j := 1) rfl, _, _, rfl, .of hrow, _, atI_nat (j := k) (by rw [List.getElem?_map, List.getElem?_eq_getElem hk]; rfl), t, rfl, _, .of ht, _, atI_nat (j := 2) rfl, rfl, ?_⟩
          have e : decide (V.str row[k] = V.str w) = evo row (some (.says k w)) := by
            show _ = decide (row[k]? = some w)
            rw [List.getElem?_eq_getElem hk]
            simp
          rw [e]
          exact q
        | count n w =>
          obtain ⟨t, rfl, ht⟩ := hc
          refine ite2 (fun z => absurd (of_decide_eq_true z) (by simp)) (fun _ => ⟨t, rfl, _, .of ht, _, atI_nat (j := 0) rfl, rfl, ite2 (fun z => absurd (of_decide_eq_true z) (by simp; decide)) (fun _ => ⟨rfl, ite2 (fun _ => ?_) (fun z => absurd (decide_eq_true rfl) z)⟩)⟩)
          exact ⟨⟨_, .of hrow⟩, t, rfl, _, .of ht, _, atI_nat (j := 2) rfl, _, .of hrow, rfl, flat_strs row, t, rfl, _, .of ht, _, atI_nat (j := 1) rfl, _, rfl, q⟩
        | no c =>
          obtain ⟨t, x, rfl, ht, h1⟩ := hc
          have hd' : dep c + 1 < d + 1 := hd
          refine ite2 (fun z => absurd (of_decide_eq_true z) (by simp)) (fun _ => ⟨t, rfl, _, .of ht, _, atI_nat (j := 0) rfl, rfl, ite2 (fun z => absurd (of_decide_eq_true z) (by simp; decide)) (fun _ => ⟨rfl, ite2 (fun z => absurd (of_decide_eq_true z) (by simp; decide)) (fun _ => ⟨rfl, ite2 (fun _ => ?_) (fun z => absurd (decide_eq_true rfl) z)⟩)⟩)⟩)
          exact ⟨t, rfl, _, .of ht, _, atI_nat (j := 1) rfl, x, r, row, some c, rfl, h1, hrow, hf, (show dep c < d by omega), _, rfl, q⟩
        | an c d' =>
          obtain ⟨t, x, y, rfl, ht, h1, h2⟩ := hc
          have hd' : max (dep c) (dep d') + 1 < d + 1 := hd
          refine ite2 (fun z => absurd (of_decide_eq_true z) (by simp)) (fun _ => ⟨t, rfl, _, .of ht, _, atI_nat (j := 0) rfl, rfl, ite2 (fun z => absurd (of_decide_eq_true z) (by simp; decide)) (fun _ => ⟨rfl, ite2 (fun z => absurd (of_decide_eq_true z) (by simp; decide)) (fun _ => ⟨rfl, ite2 (fun z => absurd (of_decide_eq_true z) (by simp; decide)) (fun _ => ⟨rfl, ite2 (fun _ => ?_) (fun z => absurd (decide_eq_true rfl) z)⟩)⟩)⟩)⟩)
          refine ⟨t, rfl, _, .of ht, _, atI_nat (j := 1) rfl, x, r, row, some c, rfl, h1, hrow, hf.1, (show dep c < d by omega), ?_⟩
          have e : evo row (some (.an c d')) = (evo row (some c) && evo row (some d')) := rfl
          rw [e] at q
          refine ⟨_, rfl, ite2 (fun z => ?_) (fun z => ?_)⟩
          · rw [z, Bool.true_and] at q
            exact ⟨t, rfl, _, .of ht, _, atI_nat (j := 2) rfl, y, r, row, some d', rfl, h2, hrow, hf.2, (show dep d' < d by omega), q⟩
          · rw [Bool.eq_false_iff.mpr z, Bool.false_and] at q
            exact q
        | orr c d' =>
          obtain ⟨t, x, y, rfl, ht, h1, h2⟩ := hc
          have hd' : max (dep c) (dep d') + 1 < d + 1 := hd
          refine ite2 (fun z => absurd (of_decide_eq_true z) (by simp)) (fun _ => ⟨t, rfl, _, .of ht, _, atI_nat (j := 0) rfl, rfl, ite2 (fun z => absurd (of_decide_eq_true z) (by simp; decide)) (fun _ => ⟨rfl, ite2 (fun z => absurd (of_decide_eq_true z) (by simp; decide)) (fun _ => ⟨rfl, ite2 (fun z => absurd (of_decide_eq_true z) (by simp; decide)) (fun _ => ⟨rfl, ite2 (fun z => absurd (of_decide_eq_true z) (by simp; decide)) (fun _ => ?_)⟩)⟩)⟩)⟩)
          refine ⟨t, rfl, _, .of ht, _, atI_nat (j := 1) rfl, x, r, row, some c, rfl, h1, hrow, hf.1, (show dep c < d by omega), ?_⟩
          have e : evo row (some (.orr c d')) = (evo row (some c) || evo row (some d')) := rfl
          rw [e] at q
          refine ⟨_, rfl, ite2 (fun z => ?_) (fun z => ?_)⟩
          · rw [z, Bool.true_or] at q
            exact q
          · rw [Bool.eq_false_iff.mpr z, Bool.false_or] at q
            exact ⟨t, rfl, _, .of ht, _, atI_nat (j := 2) rfl, y, r, row, some d', rfl, h2, hrow, hf.2, (show dep d' < d by omega), q⟩
end

/-! ### what a rule deals -/
structure RuleAt (H : Hp) (l : Addr) (rl : List (Addr × Option Cd × Str)) (n : Nat) : Prop where
  at' : H l = some (.lst (rl.map fun c => V.ref c.1))
  cl : ∀ c ∈ rl, (∃ x, H c.1 = some (.tup [x, .str c.2.2]) ∧ CoAt H c.2.1 x) ∧ fito n c.2.1 ∧ depo c.2.1 < 40
def dealtP (rl : List (Addr × Option Cd × Str)) (row : List Str) : List Str := (rl.filter fun c => evo row c.2.1).map fun c => c.2.2
theorem CoAt.mono {H H' : Hp} (S : Same H H') : ∀ {c : Option Cd} {v : V}, CoAt H c v → CoAt H' c v
  | none, _, h => h
  | some _, _, h => CondAt.mono S h
theorem RuleAt.mono {H H' : Hp} {l : Addr} {rl : List (Addr × Option Cd × Str)} {n : Nat} (S : Same H H') (h : RuleAt H l rl n) : RuleAt H' l rl n := ⟨S _ _ h.at', fun c hc => by
  obtain ⟨⟨x, h1, h2⟩, h3⟩ := h.cl c hc
  exact ⟨⟨x, S _ _ h1, h2.mono S⟩, h3⟩⟩
def spDealt (K : PySem.W.Frag) : Sp := fun vs H Q _ => ∃ (l r : Addr) (rl : List (Addr × Option Cd × Str)) (row : List Str) (z : Str) (zs : List Str), vs = [.ref l, .ref r] ∧ RuleAt H l rl row.length ∧ rl.length ≤ 60 ∧ H r = some (.tup (row.map V.str)) ∧ dealtP rl row = z :: zs ∧ ∀ H', Same H H' → Q (.str z) H'
def PvDl (H : Hp) (rl : List (Addr × Option Cd × Str)) (row : List Str) (i : Nat) (ys : List V) (H' : Hp) : Prop := H' = H ∧ ys = (dealtP (rl.take i) row).map V.str
theorem dealtP_snoc {rl : List (Addr × Option Cd × Str)} {row : List Str} {i : Nat} {c : Addr × Option Cd × Str} (h : rl[i]? = some c) : dealtP (rl.take (i + 1)) row = dealtP (rl.take i) row ++ if evo row c.2.1 = true then [c.2.2] else [] := by
  rw [dealtP, List.take_add_one, h, List.filter_append, List.map_append]
  show dealtP (rl.take i) row ++ List.map _ (List.filter _ [c]) = _
  rw [List.filter_cons, List.filter_nil]
  cases evo row c.2.1 <;> rfl
theorem dealtP_len (rl : List (Addr × Option Cd × Str)) (row : List Str) : (dealtP rl row).length ≤ rl.length := by
  rw [dealtP, List.length_map]
  exact List.length_filter_le _ _
section
variable {P : Program} {w : World} {K : PySem.W.Frag} {mg : Str → Option Value} {base : Heap}
set_option maxHeartbeats 4000000
theorem f_dealt (f_holds : FnAt P w K mg base "holds" 42 ["condition", "row"] (spHolds K 41)) (D : DefIn K mg "dealt" s_dealt ["rule", "row"]) : FnAt P w K mg base "dealt" 43 ["rule", "row"] (spDealt K) := by
  refine FnAt.of D sc_dealt (fun vs H Q E h => ?_) (fun f cdv A outer s H vs Q E hr h => ?_)
  · obtain ⟨l, r, rl, row, z, zs, rfl, _⟩ := h
    rfl
  · obtain ⟨l, r, rl, row, z, zs, rfl, hR, l60, hrow, hz, q⟩ := h
    refine ⟨_, (@pss_one _ _ _ (@ps_ret _ _ _ _ (@pe_ix _ _ _ _ _ _ _ ix_list (pe_comp ["condition", "outcome"] ["rule", "row"] rfl (@pi_list _ _ _ _ (pv 0)) (fun _ => (pg_tup rfl (pgs_cons (pg_name (i := 0) (show (["condition", "outcome", "rule", "row"] : List Str).Nodup by decide +kernel) rfl (Or.inl rfl)) (pgs_cons (pg_name (i := 1) (show (["condition", "outcome", "rule", "row"] : List Str).Nodup by decide +kernel) rfl (Or.inl rfl)) (@pgs_nil _))))) (fun _ => (@pts_one _ _ _ (pt_val (pe_callA f_holds (hr.mono (by decide)) rfl (pa_cons (pv 0) (pa_cons (pv 3) (@pa_nil _))))))) (fun _ => (pv 1)) rfl (by decide +kernel) rfl rfl) (@pe_int _ _ _ _) (fun _ _ => rfl)))), ?_⟩
    rw [show start ["rule", "row"] [V.ref l, V.ref r] = [some (V.ref l), some (V.ref r)] from rfl]
    simp only [runs1, List.length_cons, List.length_nil, Nat.zero_add, List.replicate_succ, List.replicate_zero, List.drop_succ_cons, List.drop_zero, Int.zero_add, List.getElem?_cons_zero, List.getElem?_cons_succ, List.set_cons_zero, List.set_cons_succ, Option.some.injEq, V.int.injEq, V.ref.injEq, V.bl.injEq, V.ty.injEq, V.str.injEq, List.cons.injEq, List.append_nil, List.cons_append, List.nil_append, exists_eq, exists_eq', exists_eq_left, exists_eq_left', exists_and_left, exists_and_right, and_assoc, true_and, and_true, ↓reduceIte]
    refine ⟨⟨_, .of hR.at'⟩, fun d => ?_⟩
    refine comp_list (xs := rl.map fun c => V.ref c.1) (PvDl H rl row) ⟨rfl, rfl⟩ ?_ ?_ ?_
    · rintro i ys H2 hi ⟨rfl, rfl⟩
      refine ⟨?_, .of hR.at'⟩
      rw [List.length_map]
      have := dealtP_len (rl.take i) row
      rw [List.length_take] at this
      exact Nat.le_trans (show _ ≤ 100 by omega) (by decide)
    · rintro i x ys H2 hx ⟨rfl, rfl⟩
      rw [List.getElem?_map] at hx
      obtain ⟨c, hc⟩ : ∃ y, rl[i]? = some y := by
        cases e : rl[i]? with
        | none => rw [e] at hx; cases hx
        | some y => exact ⟨y, rfl⟩
      rw [hc] at hx
      cases hx
      obtain ⟨⟨x, h1, h2⟩, h3, h4⟩ := hR.cl c (List.mem_of_getElem? hc)
      simp only [runs1, List.length_cons, List.length_nil, Nat.zero_add, List.replicate_succ, List.replicate_zero, List.drop_succ_cons, List.drop_zero, Int.zero_add, List.getElem?_cons_zero, List.getElem?_cons_succ, List.set_cons_zero, List.set_cons_succ, Option.some.injEq, V.int.injEq, V.ref.injEq, V.bl.injEq, V.ty.injEq, V.str.injEq, List.cons.injEq, List.append_nil, List.cons_append, List.nil_append, exists_eq, exists_eq', exists_eq_left, exists_eq_left', exists_and_left, exists_and_right, and_assoc, true_and, and_true, ↓reduceIte]
      refine ⟨_, .of h1, rfl, _, _, rfl, _, _, rfl, rfl, x, r, row, c.2.1, rfl, h2, hrow, h3, by omega, _, rfl, ite2 (fun y => ⟨rfl, ?_⟩) (fun y => ⟨rfl, ?_⟩)⟩
      · rw [dealtP_snoc hc, if_pos y, List.map_append]; rfl
      · rw [dealtP_snoc hc, if_neg y, List.append_nil]
    · rintro ys H2 ⟨rfl, rfl⟩ l2 hl2
      rw [List.length_map, List.take_length, hz]
      exact ⟨_, .of upd_same, _, atI_nat (j := 0) rfl, q _ (Same.upd (Same.refl _) hl2)⟩
end

structure HX where
  t : Addr
  w : Addr
  g : Addr
  gs : List Addr
structure HD where
  name : Str
  words : List Str
  worths : List (List Int)
structure HandAt (H : Hp) (x : HX) (d : HD) : Prop where
  tup : H x.t = some (.tup [.str d.name, .ref x.w, .ref x.g])
  words : H x.w = some (.lst (d.words.map V.str))
  grid : H x.g = some (.lst (x.gs.map V.ref))
  len : x.gs.length = d.worths.length
  row : ∀ (i : Nat) (r : Addr) (ns : List Int), x.gs[i]? = some r → d.worths[i]? = some ns → H r = some (.lst (ns.map V.int))
theorem HandAt.mono {H H' : Hp} {x : HX} {d : HD} (S : Same H H') (h : HandAt H x d) : HandAt H' x d :=
  ⟨S _ _ h.tup, S _ _ h.words, S _ _ h.grid, h.len, fun i r ns e1 e2 => S _ _ (h.row i r ns e1 e2)⟩
def GoodN (z : Str) : Prop := 1 ≤ z.length ∧ z.length ≤ 8 ∧ ∀ c ∈ z.cps.toList, 97 ≤ c ∧ c ≤ 122
def strT (z : Str) : Tr := .lf (.str z)
def intT (i : Int) : Tr := .lf (.int i)
def rowT (ns : List Int) : Tr := .tp (ns.map intT)
def handT (d : HD) : Tr := .tp [strT d.name, .tp (d.words.map strT), .tp (d.worths.map rowT)]
def houseT (outs : List Str) (ds : List HD) : Tr := .tp [.tp (outs.map strT), .tp (ds.map handT)]
structure HandsL (H : Hp) (b : Addr) (xs : List HX) (ds : List HD) : Prop where
  at' : H b = some (.lst (xs.map fun x => V.ref x.t))
  len : xs.length = ds.length
  hand : ∀ (i : Nat) (x : HX) (d : HD), xs[i]? = some x → ds[i]? = some d → HandAt H x d
theorem HandsL.mono {H H' : Hp} {b : Addr} {xs : List HX} {ds : List HD} (S : Same H H') (g : HandsL H b xs ds) : HandsL H' b xs ds := ⟨S _ _ g.at', g.len, fun i x d e1 e2 => (g.hand i x d e1 e2).mono S⟩
theorem strs_at {K : PySem.W.Frag} {H : Hp} : ∀ (zs : List Str), TrsAt K H (zs.map strT) (zs.map V.str)
  | [] => TrsAt.nil
  | z :: zs => TrsAt.cons (TrAt.lf rfl) (strs_at zs)
theorem ints_at {K : PySem.W.Frag} {H : Hp} : ∀ (zs : List Int), TrsAt K H (zs.map intT) (zs.map V.int)
  | [] => TrsAt.nil
  | z :: zs => TrsAt.cons (TrAt.lf rfl) (ints_at zs)
def PvD (K : PySem.W.Frag) (ds : List HD) (H1 : Hp) (i : Nat) (ys : List V) (H' : Hp) : Prop := Same H1 H' ∧ ys.length = i ∧ TrsAt K H' ((ds.take i).map handT) ys
def PvE (K : PySem.W.Frag) (rows : List (List Int)) (H1 : Hp) (i : Nat) (ys : List V) (H' : Hp) : Prop := Same H1 H' ∧ ys.length = i ∧ TrsAt K H' ((rows.take i).map rowT) ys
structure GoodHouse (outs : List Str) (ds : List HD) : Prop where
  outs1 : 1 ≤ outs.length ∧ outs.length ≤ 8
  outsG : ∀ z ∈ outs, GoodN z
  outsD : outs.Nodup
  hands : 1 ≤ ds.length ∧ ds.length ≤ 4
  handsG : ∀ d ∈ ds, GoodN d.name
  handsD : (ds.map HD.name).Nodup
  words1 : ∀ d ∈ ds, 1 ≤ d.words.length ∧ d.words.length ≤ 8
  wordsG : ∀ d ∈ ds, ∀ z ∈ d.words, GoodN z
  wordsD : ∀ d ∈ ds, d.words.Nodup
  rows : ∀ d ∈ ds, d.worths.length = d.words.length
  cols : ∀ d ∈ ds, ∀ r ∈ d.worths, r.length = outs.length
  nums : ∀ d ∈ ds, ∀ r ∈ d.worths, ∀ n ∈ r, -(10 ^ 60) < n ∧ n < 10 ^ 60
  few : (ds.map fun d => d.words.length).prod ≤ 256
def spHouse (K : PySem.W.Frag) : Sp := fun vs H Q _ => ∃ (o b : Addr) (outs : List Str) (xs : List HX) (ds : List HD), vs = [.ref o, .ref b] ∧ H o = some (.lst (outs.map V.str)) ∧ HandsL H b xs ds ∧ GoodHouse outs ds ∧
  ∀ H' p us, Same H H' → H' p = some (.tup us) → TrAt K H' (houseT outs ds) (.ref p) → Q (.ref p) H'
/-! ### house_of, of what makes a house -/
def GoodI (i : Int) : Prop := -(10 ^ 60) < i ∧ i < 10 ^ 60
def qWhole : Sp := fun vs H Q _ => ∃ i : Int, vs = [.int i] ∧ Q (.bl true) H
def qBound : Sp := fun vs H Q _ => ∃ i : Int, vs = [.int i] ∧ GoodI i ∧ Q (.bl true) H
def qRow : Sp := fun vs H Q _ => ∃ (r : Addr) (ns : List Int) (n : Nat), vs = [.ref r, .int n] ∧ H r = some (.lst (ns.map V.int)) ∧ ns.length = n ∧ n ≤ 8 ∧ (∀ i ∈ ns, GoodI i) ∧ ∀ H', Same H H' → Q (.bl true) H'
def qName : Sp := fun vs H Q _ => ∃ z : Str, vs = [.str z] ∧ GoodN z ∧ ∀ H', Same H H' → Q (.bl true) H'
def qNames : Sp := fun vs H Q _ => ∃ (l : Addr) (zs : List Str) (m : Nat), vs = [.ref l, .int m] ∧ H l = some (.lst (zs.map V.str)) ∧ 1 ≤ zs.length ∧ zs.length ≤ m ∧ m ≤ 8 ∧ (∀ z ∈ zs, GoodN z) ∧ zs.Nodup ∧ ∀ H', Same H H' → Q (.bl true) H'
def qWorths : Sp := fun vs H Q _ => ∃ (g : Addr) (gs : List Addr) (rows : List (List Int)) (h n : Nat), vs = [.ref g, .int h, .int n] ∧ H g = some (.lst (gs.map V.ref)) ∧ gs.length = h ∧ rows.length = h ∧ h ≤ 8 ∧ n ≤ 8 ∧ (∀ (i : Nat) (r : Addr) (ns : List Int), gs[i]? = some r → rows[i]? = some ns → H r = some (.lst (ns.map V.int))) ∧
  (∀ r ∈ rows, r.length = n ∧ ∀ i ∈ r, GoodI i) ∧ ∀ H', Same H H' → Q (.bl true) H'
structure GoodD (d : HD) (n : Nat) : Prop where
  name : GoodN d.name
  words : 1 ≤ d.words.length ∧ d.words.length ≤ 8
  wordsG : ∀ z ∈ d.words, GoodN z
  wordsD : d.words.Nodup
  rows : d.worths.length = d.words.length
  cols : ∀ r ∈ d.worths, r.length = n ∧ ∀ i ∈ r, GoodI i
theorem GoodHouse.hand {outs : List Str} {ds : List HD} (g : GoodHouse outs ds) {d : HD} (h : d ∈ ds) : GoodD d outs.length :=
  ⟨g.handsG d h, g.words1 d h, g.wordsG d h, g.wordsD d h, g.rows d h, fun r hr => ⟨g.cols d h r hr, fun i hi => g.nums d h r hr i hi⟩⟩
def qHand : Sp := fun vs H Q _ => ∃ (x : HX) (d : HD) (n : Nat), vs = [.ref x.t, .int n] ∧ HandAt H x d ∧ GoodD d n ∧ n ≤ 8 ∧ ∀ H', Same H H' → Q (.bl true) H'
def qPart (f : HX → HD → V) : Sp := fun vs H Q _ => ∃ (x : HX) (d : HD), vs = [.ref x.t] ∧ HandAt H x d ∧ Q (f x d) H
def qCount : Sp := fun vs H Q _ => ∃ (b : Addr) (xs : List HX) (ds : List HD), vs = [.ref b] ∧ HandsL H b xs ds ∧ (∀ d ∈ ds, d.words.length ≤ 8) ∧ ds.length ≤ 4 ∧ Q (.int ((ds.map fun d => d.words.length).prod : Nat)) H
def qMakes : Sp := fun vs H Q _ => ∃ (o b : Addr) (outs : List Str) (xs : List HX) (ds : List HD), vs = [.ref o, .ref b] ∧ H o = some (.lst (outs.map V.str)) ∧ HandsL H b xs ds ∧ GoodHouse outs ds ∧ ∀ H', Same H H' → Q (.bl true) H'
def qKept (K : PySem.W.Frag) : Sp := fun vs H Q _ => ∃ (x : HX) (d : HD), vs = [.ref x.t] ∧ HandAt H x d ∧ d.worths.length ≤ 8 ∧ ∀ H' p, Same H H' → TrAt K H' (handT d) (.ref p) → Q (.ref p) H'
def allT (n : Nat) : List Bool := List.replicate n true
def PvAT (H : Hp) (i : Nat) (ys : List V) (H' : Hp) : Prop := Same H H' ∧ ys = (allT i).map V.bl
theorem allT_succ (n : Nat) : (allT n).map V.bl ++ [V.bl true] = (allT (n + 1)).map V.bl := by
  rw [allT, allT, List.replicate_succ', List.map_append]; rfl
theorem allT_all (n : Nat) : (allT n).all id = true := by
  rw [List.all_eq_true]
  intro x hx
  exact List.eq_of_mem_replicate hx
theorem allT_len (n : Nat) : ((allT n).map V.bl).length = n := by rw [List.length_map, allT, List.length_replicate]
theorem seen_nd {zs : List Str} (hd : zs.Nodup) : ∀ i, i ≤ zs.length → seen (fun j => zs.getD j ⟨#[]⟩) i = zs.take i
  | 0, _ => rfl
  | i + 1, h => by
    have ih := seen_nd hd i (by omega)
    have hi : i < zs.length := by omega
    have e : zs.getD i ⟨#[]⟩ = zs[i] := by simp [List.getD_eq_getElem?_getD, hi]
    show (if zs.getD i ⟨#[]⟩ ∈ seen (fun j => zs.getD j ⟨#[]⟩) i then _ else seen (fun j => zs.getD j ⟨#[]⟩) i ++ [zs.getD i ⟨#[]⟩]) = _
    rw [ih, e, if_neg, List.take_add_one]
    · simp [hi]
    · intro hm
      obtain ⟨j, hj, ej⟩ := List.getElem_of_mem hm
      rw [List.length_take] at hj
      rw [List.getElem_take] at ej
      have := (List.getElem_inj hd).mp ej
      omega
theorem kit_hss : kit0 "str" "str" = some true := by decide +kernel
theorem kit_hll : kit0 "list" "list" = some true := by decide +kernel
theorem kit_htt : kit0 "tuple" "tuple" = some true := by decide +kernel
theorem kit_hii : kit0 "int" "int" = some true := by decide +kernel
theorem kit_hib : kit0 "int" "bool" = some false := by decide +kernel
theorem sign_ok {c : Nat} (h1 : 97 ≤ c) (h2 : c ≤ 122) : (!decide ((chr1 c).cps.toList < (Str.ofString "a").cps.toList)) = true ∧ (!decide ((Str.ofString "z").cps.toList < (chr1 c).cps.toList)) = true := by
  have ea : (Str.ofString "a").cps.toList = [97] := by decide +kernel
  have ez : (Str.ofString "z").cps.toList = [122] := by decide +kernel
  have ec : (chr1 c).cps.toList = [c] := rfl
  rw [ea, ez, ec]
  constructor
  · rw [decide_eq_false]
    · rfl
    · intro z
      rw [List.cons_lt_cons_iff] at z
      rcases z with z | ⟨_, z⟩
      · omega
      · exact absurd z (by simp)
  · rw [decide_eq_false]
    · rfl
    · intro z
      rw [List.cons_lt_cons_iff] at z
      rcases z with z | ⟨_, z⟩
      · omega
      · exact absurd z (by simp)
def PvNm (H : Hp) (ds : List HD) (i : Nat) (ys : List V) (H' : Hp) : Prop := H' = H ∧ ys = ((ds.take i).map HD.name).map V.str
def PvCt (H : Hp) (b : Addr) (ds : List HD) (i : Nat) (σ : L2.St) (H4 : Hp) : Prop := H4 = H ∧ ∃ v, σ = [some (.ref b), some (.int (((ds.take i).map fun d => d.words.length).prod : Nat)), v]
section
variable {P : Program} {w : World} {K : PySem.W.Frag} {mg : Str → Option Value} {base : Heap} {a : Ad}
set_option maxHeartbeats 4000000
theorem f_is_whole (B : Bt mg) (D : DefIn K mg "is_whole" s_is_whole ["thing"]) : FnAt P w K mg base "is_whole" 1 ["thing"] qWhole := by
  refine FnAt.of D sc_is_whole (fun vs H Q E h => ?_) (fun f cdv A outer s H vs Q E hr h => ?_)
  · obtain ⟨x, rfl, _⟩ := h
    rfl
  · obtain ⟨x, rfl, q⟩ := h
    refine ⟨_, (@pss_one _ _ _ (@ps_ret _ _ _ _ (@pe_and _ _ _ _ _ _ _ (pe_callB call_isinst rfl B.isinstance bt_isinstance (pa_cons (pv 0) (pa_cons (pe_ty rfl B.int bt_int) (@pa_nil _)))) (@pe_one _ _ _ _ _ (@pe_not _ _ _ _ (pe_callB call_isinst rfl B.isinstance bt_isinstance (pa_cons (pv 0) (pa_cons (pe_ty rfl B.bool bt_bool) (@pa_nil _))))))))), ?_⟩
    rw [show start ["thing"] [V.int x] = [some (V.int x)] from rfl]
    simp only [runs1, List.length_cons, List.length_nil, Nat.zero_add, List.replicate_succ, List.replicate_zero, List.drop_succ_cons, List.drop_zero, Int.zero_add, List.getElem?_cons_zero, List.getElem?_cons_succ, List.set_cons_zero, List.set_cons_succ, Option.some.injEq, V.int.injEq, V.ref.injEq, V.bl.injEq, V.ty.injEq, V.str.injEq, List.cons.injEq, List.append_nil, List.cons_append, List.nil_append, exists_eq, exists_eq', exists_eq_left, exists_eq_left', exists_and_left, exists_and_right, and_assoc, true_and, and_true, ↓reduceIte]
    exact ⟨_, .int _, true, kit_hii, iteT ⟨_, .int _, false, kit_hib, q⟩⟩
theorem f_is_bounded (B : Bt mg) (f_is_whole : FnAt P w K mg base "is_whole" 1 ["thing"] qWhole) (D : DefIn K mg "is_bounded" s_is_bounded ["thing"]) : FnAt P w K mg base "is_bounded" 2 ["thing"] qBound := by
  refine FnAt.of D sc_is_bounded (fun vs H Q E h => ?_) (fun f cdv A outer s H vs Q E hr h => ?_)
  · obtain ⟨x, rfl, _⟩ := h
    rfl
  · obtain ⟨x, rfl, g, q⟩ := h
    refine ⟨_, (@pss_one _ _ _ (@ps_ret _ _ _ _ (@pe_and _ _ _ _ _ _ _ (pe_callA f_is_whole (hr.mono (by decide)) rfl (pa_cons (pv 0) (@pa_nil _))) (@pe_one _ _ _ _ _ (@pe_cmpR _ _ _ _ _ _ _ _ op_lt (pe_callB call_abs rfl B.abs bt_abs (pa_cons (pv 0) (@pa_nil _))) (@pe_op _ _ _ _ _ _ _ _ op_pow (@pe_int _ _ _ _) (@pe_int _ _ _ _)) (nomark _)))))), ?_⟩
    rw [show start ["thing"] [V.int x] = [some (V.int x)] from rfl]
    simp only [runs1, List.length_cons, List.length_nil, Nat.zero_add, List.replicate_succ, List.replicate_zero, List.drop_succ_cons, List.drop_zero, Int.zero_add, List.getElem?_cons_zero, List.getElem?_cons_succ, List.set_cons_zero, List.set_cons_succ, Option.some.injEq, V.int.injEq, V.ref.injEq, V.bl.injEq, V.ty.injEq, V.str.injEq, List.cons.injEq, List.append_nil, List.cons_append, List.nil_append, exists_eq, exists_eq', exists_eq_left, exists_eq_left', exists_and_left, exists_and_right, and_assoc, true_and, and_true, ↓reduceIte]
    refine ⟨x, rfl, _, rfl, iteT ⟨⟨by decide, by decide, by decide⟩, ?_⟩⟩
    rw [decide_eq_true]
    · exact q
    · have h1 := g.1
      have h2 := g.2
      show _ < (10 : Int) ^ 60
      split <;> omega
theorem f_is_grid_row (B : Bt mg) (f_is_bounded : FnAt P w K mg base "is_bounded" 2 ["thing"] qBound) (D : DefIn K mg "is_grid_row" s_is_grid_row ["thing", "width"]) : FnAt P w K mg base "is_grid_row" 3 ["thing", "width"] qRow := by
  refine FnAt.of D sc_is_grid_row (fun vs H Q E h => ?_) (fun f cdv A outer s H vs Q E hr h => ?_)
  · obtain ⟨r, ns, n, rfl, _⟩ := h
    rfl
  · obtain ⟨r, ns, n, rfl, hr1, ln, n8, hg, q⟩ := h
    refine ⟨_, (@pss_cons _ _ _ _ _ (@ps_if _ _ _ _ _ _ _ _ (PW.pt (@pw_or _ _ _ _ _ _ _ (@pt_not _ _ _ _ (pt_val (pe_callB call_isinst rfl B.isinstance bt_isinstance (pa_cons (pv 0) (pa_cons (pe_ty rfl B.list bt_list) (@pa_nil _)))))) (@pw_or1 _ _ _ _ (@pt_cmpR _ _ _ _ _ _ _ _ op_ne (pe_callB call_len_seq rfl B.len bt_len (pa_cons (pv 0) (@pa_nil _))) (pv 1) (nomark _))))) (@pss_one _ _ _ (@ps_ret _ _ _ _ (@pe_bl _ _ _ _))) (@pss_nil _)) (@pss_one _ _ _ (@ps_ret _ _ _ _ (pe_callB (call_allL rfl) rfl B.all bt_all (pa_cons (pe_comp ["worth"] ["thing", "width"] rfl (@pi_list _ _ _ _ (pv 0)) (fun _ => (pg_name (i := 0) (show (["worth", "thing", "width"] : List Str).Nodup by decide +kernel) rfl (Or.inl rfl))) (fun _ => (@pts_nil _)) (fun _ => (pe_callA f_is_bounded (hr.mono (by decide)) rfl (pa_cons (pv 0) (@pa_nil _)))) rfl (by decide +kernel) rfl rfl) (@pa_nil _)))))), ?_⟩
    rw [show start ["thing", "width"] [V.ref r, V.int n] = [some (V.ref r), some (V.int n)] from rfl]
    simp only [runs1, List.length_cons, List.length_nil, Nat.zero_add, List.replicate_succ, List.replicate_zero, List.drop_succ_cons, List.drop_zero, Int.zero_add, List.getElem?_cons_zero, List.getElem?_cons_succ, List.set_cons_zero, List.set_cons_succ, Option.some.injEq, V.int.injEq, V.ref.injEq, V.bl.injEq, V.ty.injEq, V.str.injEq, List.cons.injEq, List.append_nil, List.cons_append, List.nil_append, exists_eq, exists_eq', exists_eq_left, exists_eq_left', exists_and_left, exists_and_right, and_assoc, true_and, and_true, ↓reduceIte]
    refine ⟨_, .lst hr1, true, kit_hll, iteF ⟨_, .inl (.of hr1), rfl, ?_⟩⟩
    rw [List.length_map, ln]
    refine iteNS rfl ⟨⟨_, .of hr1⟩, fun d => ?_⟩
    refine comp_list (xs := ns.map V.int) (PvAT H) ⟨Same.refl _, rfl⟩ ?_ ?_ ?_
    · rintro i ys H2 hi ⟨S, rfl⟩
      rw [List.length_map] at hi
      exact ⟨by rw [allT_len]; exact Nat.le_trans hi (Nat.le_trans (show ns.length ≤ 8 by omega) (by decide)), S.seq (.of hr1)⟩
    · rintro i x ys H2 hx ⟨S, rfl⟩
      rw [List.getElem?_map] at hx
      obtain ⟨y, hy⟩ : ∃ y, ns[i]? = some y := by
        cases e : ns[i]? with
        | none => rw [e] at hx; cases hx
        | some y => exact ⟨y, rfl⟩
      rw [hy] at hx
      cases hx
      simp only [runs1, List.length_cons, List.length_nil, Nat.zero_add, List.replicate_succ, List.replicate_zero, List.drop_succ_cons, List.drop_zero, Int.zero_add, List.getElem?_cons_zero, List.getElem?_cons_succ, List.set_cons_zero, List.set_cons_succ, Option.some.injEq, V.int.injEq, V.ref.injEq, V.bl.injEq, V.ty.injEq, V.str.injEq, List.cons.injEq, List.append_nil, List.cons_append, List.nil_append, exists_eq, exists_eq', exists_eq_left, exists_eq_left', exists_and_left, exists_and_right, and_assoc, true_and, and_true, ↓reduceIte]
      exact ⟨y, rfl, hg y (List.mem_of_getElem? hy), S, allT_succ i⟩
    · rintro ys H2 ⟨S, rfl⟩ l hl
      refine ⟨_, .of upd_same, ?_⟩
      rw [allT_all]
      exact q _ (S.trans (Same.upd (Same.refl _) hl))
theorem f_is_name (B : Bt mg) (D : DefIn K mg "is_name" s_is_name ["thing"]) : FnAt P w K mg base "is_name" 1 ["thing"] qName := by
  refine FnAt.of D sc_is_name (fun vs H Q E h => ?_) (fun f cdv A outer s H vs Q E hr h => ?_)
  · obtain ⟨x, rfl, _⟩ := h
    rfl
  · obtain ⟨z, rfl, g, q⟩ := h
    refine ⟨_, (@pss_cons _ _ _ _ _ (@ps_if _ _ _ _ _ _ _ _ (PW.pt (@pw_or _ _ _ _ _ _ _ (@pt_not _ _ _ _ (pt_val (pe_callB call_isinst rfl B.isinstance bt_isinstance (pa_cons (pv 0) (pa_cons (pe_ty rfl B.str bt_str) (@pa_nil _)))))) (@pw_or1 _ _ _ _ (@pt_not _ _ _ _ (pt_chain op_le op_le (@pe_int _ _ _ _) (pe_callB call_len_str rfl B.len bt_len (pa_cons (pv 0) (@pa_nil _))) (pe_globI rfl B.k_MOST_LETTERS)))))) (@pss_one _ _ _ (@ps_ret _ _ _ _ (@pe_bl _ _ _ _))) (@pss_nil _)) (@pss_one _ _ _ (@ps_ret _ _ _ _ (pe_callB (call_allL rfl) rfl B.all bt_all (pa_cons (pe_comp ["sign"] ["thing"] rfl (@pi_str _ _ _ _ (pv 0)) (fun _ => (pg_name (i := 0) (show (["sign", "thing"] : List Str).Nodup by decide +kernel) rfl (Or.inl rfl))) (fun _ => (@pts_nil _)) (fun _ => (pe_chain op_leS op_leS (@pe_str _ _ _ _) (pv 0) (@pe_str _ _ _ _))) rfl (by decide +kernel) rfl rfl) (@pa_nil _)))))), ?_⟩
    rw [show start ["thing"] [V.str z] = [some (V.str z)] from rfl]
    simp only [runs1, List.length_cons, List.length_nil, Nat.zero_add, List.replicate_succ, List.replicate_zero, List.drop_succ_cons, List.drop_zero, Int.zero_add, List.getElem?_cons_zero, List.getElem?_cons_succ, List.set_cons_zero, List.set_cons_succ, Option.some.injEq, V.int.injEq, V.ref.injEq, V.bl.injEq, V.ty.injEq, V.str.injEq, List.cons.injEq, List.append_nil, List.cons_append, List.nil_append, exists_eq, exists_eq', exists_eq_left, exists_eq_left', exists_and_left, exists_and_right, and_assoc, true_and, and_true, ↓reduceIte]
    obtain ⟨g1, g2, g3⟩ := g
    refine ⟨_, .str _, true, kit_hss, iteF ?_⟩
    refine ⟨Nat.le_trans g2 (by decide), ite2 (fun _ => ite2 (fun h => ?_) fun _ => ?_) fun h => (h (decide_eq_true (by omega))).elim⟩
    · rw [decide_eq_true (show (z.length : Int) ≤ 8 by omega)] at h
      cases h
    · intro d
      refine comp_str (PvAT H) ⟨Same.refl _, rfl⟩ ?_ ?_ ?_
      · rintro i ys H' hi ⟨S, rfl⟩
        rw [allT_len]
        exact Nat.le_trans hi (Nat.le_trans (show z.cps.size ≤ 8 from g2) (by decide))
      · rintro i c ys H' hc ⟨S, rfl⟩
        have hm : c ∈ z.cps.toList := by
          obtain ⟨hi, e⟩ := Array.getElem?_eq_some_iff.mp hc
          rw [← e]
          exact Array.getElem_mem_toList hi
        obtain ⟨o1, o2⟩ := sign_ok (g3 c hm).1 (g3 c hm).2
        simp only [runs1, List.length_cons, List.length_nil, Nat.zero_add, List.replicate_succ, List.replicate_zero, List.drop_succ_cons, List.drop_zero, Int.zero_add, List.getElem?_cons_zero, List.getElem?_cons_succ, List.set_cons_zero, List.set_cons_succ, Option.some.injEq, V.int.injEq, V.ref.injEq, V.bl.injEq, V.ty.injEq, V.str.injEq, List.cons.injEq, List.append_nil, List.cons_append, List.nil_append, exists_eq, exists_eq', exists_eq_left, exists_eq_left', exists_and_left, exists_and_right, and_assoc, true_and, and_true, ↓reduceIte]
        rw [if_pos o1, o2]
        exact ⟨S, allT_succ i⟩
      · rintro ys H' ⟨S, rfl⟩ l hl
        refine ⟨_, .of upd_same, ?_⟩
        rw [allT_all]
        exact q _ (S.trans (Same.upd (Same.refl _) hl))
theorem f_are_names (B : Bt mg) (f_is_name : FnAt P w K mg base "is_name" 1 ["thing"] qName) (D : DefIn K mg "are_names" s_are_names ["thing", "most"]) : FnAt P w K mg base "are_names" 2 ["thing", "most"] qNames := by
  refine FnAt.of D sc_are_names (fun vs H Q E h => ?_) (fun f cdv A outer s H vs Q E hr h => ?_)
  · obtain ⟨l, zs, m, rfl, _⟩ := h
    rfl
  · obtain ⟨l, zs, m, rfl, hl, g1, g2, g3, gG, gD, q⟩ := h
    refine ⟨_, (@pss_cons _ _ _ _ _ (@ps_if _ _ _ _ _ _ _ _ (PW.pt (@pw_or _ _ _ _ _ _ _ (@pt_not _ _ _ _ (pt_val (pe_callB call_isinst rfl B.isinstance bt_isinstance (pa_cons (pv 0) (pa_cons (pe_ty rfl B.list bt_list) (@pa_nil _)))))) (@pw_or1 _ _ _ _ (@pt_not _ _ _ _ (pt_chain op_le op_le (@pe_int _ _ _ _) (pe_callB call_len_seq rfl B.len bt_len (pa_cons (pv 0) (@pa_nil _))) (pv 1)))))) (@pss_one _ _ _ (@ps_ret _ _ _ _ (@pe_bl _ _ _ _))) (@pss_nil _)) (@pss_one _ _ _ (@ps_ret _ _ _ _ (@pe_and _ _ _ _ _ _ _ (pe_callB (call_allL rfl) rfl B.all bt_all (pa_cons (pe_comp ["one"] ["thing", "most"] rfl (@pi_list _ _ _ _ (pv 0)) (fun _ => (pg_name (i := 0) (show (["one", "thing", "most"] : List Str).Nodup by decide +kernel) rfl (Or.inl rfl))) (fun _ => (@pts_nil _)) (fun _ => (pe_callA f_is_name (hr.mono (by decide)) rfl (pa_cons (pv 0) (@pa_nil _)))) rfl (by decide +kernel) rfl rfl) (@pa_nil _))) (@pe_one _ _ _ _ _ (@pe_cmpR _ _ _ _ _ _ _ _ op_eq (pe_lenSet rfl rfl B.len rfl B.set (pa_cons (pv 0) (@pa_nil _))) (pe_callB call_len_seq rfl B.len bt_len (pa_cons (pv 0) (@pa_nil _))) (nomark _))))))), ?_⟩
    rw [show start ["thing", "most"] [V.ref l, V.int m] = [some (V.ref l), some (V.int m)] from rfl]
    simp only [runs1, List.length_cons, List.length_nil, Nat.zero_add, List.replicate_succ, List.replicate_zero, List.drop_succ_cons, List.drop_zero, Int.zero_add, List.getElem?_cons_zero, List.getElem?_cons_succ, List.set_cons_zero, List.set_cons_succ, Option.some.injEq, V.int.injEq, V.ref.injEq, V.bl.injEq, V.ty.injEq, V.str.injEq, List.cons.injEq, List.append_nil, List.cons_append, List.nil_append, exists_eq, exists_eq', exists_eq_left, exists_eq_left', exists_and_left, exists_and_right, and_assoc, true_and, and_true, ↓reduceIte]
    refine ⟨_, .lst hl, true, kit_hll, iteF ⟨_, .inl (.of hl), ?_⟩⟩
    rw [List.length_map]
    refine ite2 (fun _ => ite2 (fun h => ?_) fun _ => ?_) fun h => (h (decide_eq_true (by omega))).elim
    · rw [decide_eq_true (show (zs.length : Int) ≤ m by omega)] at h
      cases h
    · refine ⟨⟨_, .of hl⟩, fun d => ?_⟩
      refine comp_list (xs := zs.map V.str) (PvAT H) ⟨Same.refl _, rfl⟩ ?_ ?_ ?_
      · rintro i ys H2 hi ⟨S, rfl⟩
        rw [List.length_map] at hi
        exact ⟨by rw [allT_len]; exact Nat.le_trans hi (Nat.le_trans (show zs.length ≤ 8 by omega) (by decide)), S.seq (.of hl)⟩
      · rintro i x ys H2 hx ⟨S, rfl⟩
        rw [List.getElem?_map] at hx
        obtain ⟨y, hy⟩ : ∃ y, zs[i]? = some y := by
          cases e : zs[i]? with
          | none => rw [e] at hx; cases hx
          | some y => exact ⟨y, rfl⟩
        rw [hy] at hx
        cases hx
        simp only [runs1, List.length_cons, List.length_nil, Nat.zero_add, List.replicate_succ, List.replicate_zero, List.drop_succ_cons, List.drop_zero, Int.zero_add, List.getElem?_cons_zero, List.getElem?_cons_succ, List.set_cons_zero, List.set_cons_succ, Option.some.injEq, V.int.injEq, V.ref.injEq, V.bl.injEq, V.ty.injEq, V.str.injEq, List.cons.injEq, List.append_nil, List.cons_append, List.nil_append, exists_eq, exists_eq', exists_eq_left, exists_eq_left', exists_and_left, exists_and_right, and_assoc, true_and, and_true, ↓reduceIte]
        exact ⟨y, rfl, gG y (List.mem_of_getElem? hy), fun H3 S3 => ⟨S.trans S3, allT_succ i⟩⟩
      · rintro ys H2 ⟨S, rfl⟩ p hp
        have S2 : Same H (upd H2 p (.lst ((allT (zs.map V.str).length).map V.bl))) := S.trans (Same.upd (Same.refl _) hp)
        refine ⟨_, .of upd_same, ?_⟩
        rw [allT_all]
        generalize upd H2 p (.lst ((allT (zs.map V.str).length).map V.bl)) = H3 at *
        refine ⟨zs, S2.seq (.of hl), by omega, _, .inl (S2.seq (.of hl)), rfl, ?_⟩
        rw [seen_nd gD _ (Nat.le_refl _), List.take_length, List.length_map, decide_eq_true rfl]
        exact q _ S2
theorem f_are_worths (B : Bt mg) (f_is_grid_row : FnAt P w K mg base "is_grid_row" 3 ["thing", "width"] qRow) (D : DefIn K mg "are_worths" s_are_worths ["thing", "height", "width"]) : FnAt P w K mg base "are_worths" 4 ["thing", "height", "width"] qWorths := by
  refine FnAt.of D sc_are_worths (fun vs H Q E h => ?_) (fun f cdv A outer s H vs Q E hr h => ?_)
  · obtain ⟨g, gs, rows, ht, n, rfl, _⟩ := h
    rfl
  · obtain ⟨g, gs, rows, ht, n, rfl, hg, l1, l2, b1, b2, hrow, hG, q⟩ := h
    refine ⟨_, (@pss_cons _ _ _ _ _ (@ps_if _ _ _ _ _ _ _ _ (PW.pt (@pw_or _ _ _ _ _ _ _ (@pt_not _ _ _ _ (pt_val (pe_callB call_isinst rfl B.isinstance bt_isinstance (pa_cons (pv 0) (pa_cons (pe_ty rfl B.list bt_list) (@pa_nil _)))))) (@pw_or1 _ _ _ _ (@pt_cmpR _ _ _ _ _ _ _ _ op_ne (pe_callB call_len_seq rfl B.len bt_len (pa_cons (pv 0) (@pa_nil _))) (pv 1) (nomark _))))) (@pss_one _ _ _ (@ps_ret _ _ _ _ (@pe_bl _ _ _ _))) (@pss_nil _)) (@pss_one _ _ _ (@ps_ret _ _ _ _ (pe_callB (call_allL rfl) rfl B.all bt_all (pa_cons (pe_comp ["row"] ["thing", "height", "width"] rfl (@pi_list _ _ _ _ (pv 0)) (fun _ => (pg_name (i := 0) (show (["row", "thing", "height", "width"] : List Str).Nodup by decide +kernel) rfl (Or.inl rfl))) (fun _ => (@pts_nil _)) (fun _ => (pe_callA f_is_grid_row (hr.mono (by decide)) rfl (pa_cons (pv 0) (pa_cons (pv 3) (@pa_nil _))))) rfl (by decide +kernel) rfl rfl) (@pa_nil _)))))), ?_⟩
    rw [show start ["thing", "height", "width"] [V.ref g, V.int ht, V.int n] = [some (V.ref g), some (V.int ht), some (V.int n)] from rfl]
    simp only [runs1, List.length_cons, List.length_nil, Nat.zero_add, List.replicate_succ, List.replicate_zero, List.drop_succ_cons, List.drop_zero, Int.zero_add, List.getElem?_cons_zero, List.getElem?_cons_succ, List.set_cons_zero, List.set_cons_succ, Option.some.injEq, V.int.injEq, V.ref.injEq, V.bl.injEq, V.ty.injEq, V.str.injEq, List.cons.injEq, List.append_nil, List.cons_append, List.nil_append, exists_eq, exists_eq', exists_eq_left, exists_eq_left', exists_and_left, exists_and_right, and_assoc, true_and, and_true, ↓reduceIte]
    refine ⟨_, .lst hg, true, kit_hll, iteF ⟨_, .inl (.of hg), rfl, ?_⟩⟩
    rw [List.length_map, l1]
    refine iteNS rfl ⟨⟨_, .of hg⟩, fun d => ?_⟩
    refine comp_list (xs := gs.map V.ref) (PvAT H) ⟨Same.refl _, rfl⟩ ?_ ?_ ?_
    · rintro i ys H2 hi ⟨S, rfl⟩
      rw [List.length_map] at hi
      exact ⟨by rw [allT_len]; exact Nat.le_trans hi (Nat.le_trans (show gs.length ≤ 8 by omega) (by decide)), S.seq (.of hg)⟩
    · rintro i x ys H2 hx ⟨S, rfl⟩
      rw [List.getElem?_map] at hx
      obtain ⟨r, hr'⟩ : ∃ y, gs[i]? = some y := by
        cases e : gs[i]? with
        | none => rw [e] at hx; cases hx
        | some y => exact ⟨y, rfl⟩
      rw [hr'] at hx
      cases hx
      have hi : i < rows.length := by have := (List.getElem?_eq_some_iff.mp hr').1; omega
      have e2 : rows[i]? = some rows[i] := by simp [hi]
      have hm := hG rows[i] (List.getElem_mem hi)
      simp only [runs1, List.length_cons, List.length_nil, Nat.zero_add, List.replicate_succ, List.replicate_zero, List.drop_succ_cons, List.drop_zero, Int.zero_add, List.getElem?_cons_zero, List.getElem?_cons_succ, List.set_cons_zero, List.set_cons_succ, Option.some.injEq, V.int.injEq, V.ref.injEq, V.bl.injEq, V.ty.injEq, V.str.injEq, List.cons.injEq, List.append_nil, List.cons_append, List.nil_append, exists_eq, exists_eq', exists_eq_left, exists_eq_left', exists_and_left, exists_and_right, and_assoc, true_and, and_true, ↓reduceIte]
      exact ⟨r, rows[i], n, rfl, S _ _ (hrow i r rows[i] hr' e2), hm.1, b2, hm.2, fun H3 S3 => ⟨S.trans S3, allT_succ i⟩⟩
    · rintro ys H2 ⟨S, rfl⟩ l hl
      refine ⟨_, .of upd_same, ?_⟩
      rw [allT_all]
      exact q _ (S.trans (Same.upd (Same.refl _) hl))
theorem f_is_hand (B : Bt mg) (f_is_name : FnAt P w K mg base "is_name" 1 ["thing"] qName) (f_are_names : FnAt P w K mg base "are_names" 2 ["thing", "most"] qNames) (f_are_worths : FnAt P w K mg base "are_worths" 4 ["thing", "height", "width"] qWorths) (D : DefIn K mg "is_hand" s_is_hand ["thing", "width"]) : FnAt P w K mg base "is_hand" 5 ["thing", "width"] qHand := by
  refine FnAt.of D sc_is_hand (fun vs H Q E h => ?_) (fun f cdv A outer s H vs Q E hr h => ?_)
  · obtain ⟨x, d, n, rfl, _⟩ := h
    rfl
  · obtain ⟨x, d, n, rfl, hx, g, n8, q⟩ := h
    refine ⟨_, (@pss_cons _ _ _ _ _ (@ps_if _ _ _ _ _ _ _ _ (PW.pt (@pw_or _ _ _ _ _ _ _ (@pt_not _ _ _ _ (pt_val (pe_callB call_isinst rfl B.isinstance bt_isinstance (pa_cons (pv 0) (pa_cons (pe_ty rfl B.tuple bt_tuple) (@pa_nil _)))))) (@pw_or1 _ _ _ _ (@pt_cmpR _ _ _ _ _ _ _ _ op_ne (pe_callB call_len_seq rfl B.len bt_len (pa_cons (pv 0) (@pa_nil _))) (@pe_int _ _ _ _) (nomark _))))) (@pss_one _ _ _ (@ps_ret _ _ _ _ (@pe_bl _ _ _ _))) (@pss_nil _)) (@pss_one _ _ _ (@ps_ret _ _ _ _ (@pe_and _ _ _ _ _ _ _ (pe_callA f_is_name (hr.mono (by decide)) rfl (pa_cons (@pe_ix _ _ _ _ _ _ _ ix_tup (pv 0) (@pe_int _ _ _ _) (fun _ _ => rfl)) (@pa_nil _))) (@pe_and _ _ _ _ _ _ _ (pe_callA f_are_names (hr.mono (by decide)) rfl (pa_cons (@pe_ix _ _ _ _ _ _ _ ix_tup (pv 0) (@pe_int _ _ _ _) (fun _ _ => rfl)) (pa_cons (pe_globI rfl B.k_MOST_WORDS) (@pa_nil _)))) (@pe_one _ _ _ _ _ (pe_callA f_are_worths (hr.mono (by decide)) rfl (pa_cons (@pe_ix _ _ _ _ _ _ _ ix_tup (pv 0) (@pe_int _ _ _ _) (fun _ _ => rfl)) (pa_cons (pe_callB call_len_seq rfl B.len bt_len (pa_cons (@pe_ix _ _ _ _ _ _ _ ix_tup (pv 0) (@pe_int _ _ _ _) (fun _ _ => rfl)) (@pa_nil _))) (pa_cons (pv 1) (@pa_nil _))))))))))), ?_⟩
    rw [show start ["thing", "width"] [V.ref x.t, V.int n] = [some (V.ref x.t), some (V.int n)] from rfl]
    simp only [runs1, List.length_cons, List.length_nil, Nat.zero_add, List.replicate_succ, List.replicate_zero, List.drop_succ_cons, List.drop_zero, Int.zero_add, List.getElem?_cons_zero, List.getElem?_cons_succ, List.set_cons_zero, List.set_cons_succ, Option.some.injEq, V.int.injEq, V.ref.injEq, V.bl.injEq, V.ty.injEq, V.str.injEq, List.cons.injEq, List.append_nil, List.cons_append, List.nil_append, exists_eq, exists_eq', exists_eq_left, exists_eq_left', exists_and_left, exists_and_right, and_assoc, true_and, and_true, ↓reduceIte]
    refine ⟨_, .tup hx.tup, true, kit_htt, iteF ⟨_, .inr (.of hx.tup), rfl, iteNS rfl ?_⟩⟩
    refine ⟨_, .of hx.tup, _, atI_nat (j := 0) rfl, d.name, rfl, g.name, fun H1 S1 => ?_⟩
    have hx1 := hx.mono S1
    refine ⟨_, rfl, iteT ⟨_, .of hx1.tup, _, atI_nat (j := 1) rfl, x.w, d.words, 8, rfl, hx1.words, g.words.1, g.words.2, Nat.le_refl _, g.wordsG, g.wordsD, fun H2 S2 => ?_⟩⟩
    have hx2 := hx1.mono S2
    refine ⟨_, rfl, iteT ⟨_, .of hx2.tup, _, atI_nat (j := 2) rfl, _, .of hx2.tup, _, atI_nat (j := 1) rfl, x.w, rfl, _, .inl (.of hx2.words), ?_⟩⟩
    rw [List.length_map]
    have hw := g.words.2
    have hr2 := g.rows
    exact ⟨x.g, x.gs, d.worths, d.words.length, n, rfl, hx2.grid, by rw [hx2.len]; exact hr2, hr2, hw, n8, hx2.row, g.cols, fun H3 S3 => q H3 (S1.trans (S2.trans S3))⟩
theorem f_name_of (D : DefIn K mg "name_of" s_name_of ["hand"]) : FnAt P w K mg base "name_of" 1 ["hand"] (qPart fun _ d => .str d.name) := by
  refine FnAt.of D sc_name_of (fun vs H Q E h => ?_) (fun f cdv A outer s H vs Q E hr h => ?_)
  · obtain ⟨x, d, rfl, _⟩ := h
    rfl
  · obtain ⟨x, d, rfl, hx, q⟩ := h
    refine ⟨_, (@pss_one _ _ _ (@ps_ret _ _ _ _ (@pe_ix _ _ _ _ _ _ _ ix_tup (pv 0) (@pe_int _ _ _ _) (fun _ _ => rfl)))), ?_⟩
    rw [show start ["hand"] [V.ref x.t] = [some (V.ref x.t)] from rfl]
    simp only [runs1, List.length_cons, List.length_nil, Nat.zero_add, List.replicate_succ, List.replicate_zero, List.drop_succ_cons, List.drop_zero, Int.zero_add, List.getElem?_cons_zero, List.getElem?_cons_succ, List.set_cons_zero, List.set_cons_succ, Option.some.injEq, V.int.injEq, V.ref.injEq, V.bl.injEq, V.ty.injEq, V.str.injEq, List.cons.injEq, List.append_nil, List.cons_append, List.nil_append, exists_eq, exists_eq', exists_eq_left, exists_eq_left', exists_and_left, exists_and_right, and_assoc, true_and, and_true, ↓reduceIte]
    exact ⟨_, .of hx.tup, _, atI_nat (j := 0) rfl, q⟩
theorem f_words_of_hand (D : DefIn K mg "words_of_hand" s_words_of_hand ["hand"]) : FnAt P w K mg base "words_of_hand" 1 ["hand"] (qPart fun x _ => .ref x.w) := by
  refine FnAt.of D sc_words_of_hand (fun vs H Q E h => ?_) (fun f cdv A outer s H vs Q E hr h => ?_)
  · obtain ⟨x, d, rfl, _⟩ := h
    rfl
  · obtain ⟨x, d, rfl, hx, q⟩ := h
    refine ⟨_, (@pss_one _ _ _ (@ps_ret _ _ _ _ (@pe_ix _ _ _ _ _ _ _ ix_tup (pv 0) (@pe_int _ _ _ _) (fun _ _ => rfl)))), ?_⟩
    rw [show start ["hand"] [V.ref x.t] = [some (V.ref x.t)] from rfl]
    simp only [runs1, List.length_cons, List.length_nil, Nat.zero_add, List.replicate_succ, List.replicate_zero, List.drop_succ_cons, List.drop_zero, Int.zero_add, List.getElem?_cons_zero, List.getElem?_cons_succ, List.set_cons_zero, List.set_cons_succ, Option.some.injEq, V.int.injEq, V.ref.injEq, V.bl.injEq, V.ty.injEq, V.str.injEq, List.cons.injEq, List.append_nil, List.cons_append, List.nil_append, exists_eq, exists_eq', exists_eq_left, exists_eq_left', exists_and_left, exists_and_right, and_assoc, true_and, and_true, ↓reduceIte]
    exact ⟨_, .of hx.tup, _, atI_nat (j := 1) rfl, q⟩
theorem f_worths_of_hand (D : DefIn K mg "worths_of_hand" s_worths_of_hand ["hand"]) : FnAt P w K mg base "worths_of_hand" 1 ["hand"] (qPart fun x _ => .ref x.g) := by
  refine FnAt.of D sc_worths_of_hand (fun vs H Q E h => ?_) (fun f cdv A outer s H vs Q E hr h => ?_)
  · obtain ⟨x, d, rfl, _⟩ := h
    rfl
  · obtain ⟨x, d, rfl, hx, q⟩ := h
    refine ⟨_, (@pss_one _ _ _ (@ps_ret _ _ _ _ (@pe_ix _ _ _ _ _ _ _ ix_tup (pv 0) (@pe_int _ _ _ _) (fun _ _ => rfl)))), ?_⟩
    rw [show start ["hand"] [V.ref x.t] = [some (V.ref x.t)] from rfl]
    simp only [runs1, List.length_cons, List.length_nil, Nat.zero_add, List.replicate_succ, List.replicate_zero, List.drop_succ_cons, List.drop_zero, Int.zero_add, List.getElem?_cons_zero, List.getElem?_cons_succ, List.set_cons_zero, List.set_cons_succ, Option.some.injEq, V.int.injEq, V.ref.injEq, V.bl.injEq, V.ty.injEq, V.str.injEq, List.cons.injEq, List.append_nil, List.cons_append, List.nil_append, exists_eq, exists_eq', exists_eq_left, exists_eq_left', exists_and_left, exists_and_right, and_assoc, true_and, and_true, ↓reduceIte]
    exact ⟨_, .of hx.tup, _, atI_nat (j := 2) rfl, q⟩
theorem f_count_of_rows (B : Bt mg) (f_words_of_hand : FnAt P w K mg base "words_of_hand" 1 ["hand"] (qPart fun x _ => .ref x.w)) (D : DefIn K mg "count_of_rows" s_count_of_rows ["hands"]) : FnAt P w K mg base "count_of_rows" 2 ["hands"] qCount := by
  refine FnAt.of D sc_count_of_rows (fun vs H Q E h => ?_) (fun f cdv A outer s H vs Q E hr h => ?_)
  · obtain ⟨b, xs, ds, rfl, _⟩ := h
    rfl
  · obtain ⟨b, xs, ds, rfl, hh, h8, h4, q⟩ := h
    refine ⟨_, (@pss_cons _ _ _ _ _ (ps_set (i := 1) sc_count_of_rows.nd rfl (Or.inl rfl) (@pe_int _ _ _ _)) (@pss_cons _ _ _ _ _ (ps_for PassesOwn.never rfl (@pi_list _ _ _ _ (pv 0)) (pg_name (i := 2) sc_count_of_rows.nd rfl (Or.inl rfl)) (@pss_one _ _ _ (ps_set (i := 1) sc_count_of_rows.nd rfl (Or.inl rfl) (@pe_op _ _ _ _ _ _ _ _ op_mul (pv 1) (pe_callB call_len_seq rfl B.len bt_len (pa_cons (pe_callA f_words_of_hand (hr.mono (by decide)) rfl (pa_cons (pv 2) (@pa_nil _))) (@pa_nil _))))))) (@pss_one _ _ _ (@ps_ret _ _ _ _ (pv 1))))), ?_⟩
    rw [show start ["hands", "count", "hand"] [V.ref b] = [some (V.ref b), none, none] from rfl]
    simp only [runs1, List.length_cons, List.length_nil, Nat.zero_add, List.replicate_succ, List.replicate_zero, List.drop_succ_cons, List.drop_zero, Int.zero_add, List.getElem?_cons_zero, List.getElem?_cons_succ, List.set_cons_zero, List.set_cons_succ, Option.some.injEq, V.int.injEq, V.ref.injEq, V.bl.injEq, V.ty.injEq, V.str.injEq, List.cons.injEq, List.append_nil, List.cons_append, List.nil_append, exists_eq, exists_eq', exists_eq_left, exists_eq_left', exists_and_left, exists_and_right, and_assoc, true_and, and_true, ↓reduceIte]
    refine ⟨⟨_, .of hh.at'⟩, ?_⟩
    refine for_list (xs := xs.map fun x => V.ref x.t) (PvCt H b ds) ⟨rfl, _, rfl⟩ ?_ ?_ ?_
    · rintro i σ H4 hi ⟨rfl, v, rfl⟩
      exact .of hh.at'
    · rintro i x σ H4 hx ⟨rfl, v, rfl⟩
      rw [List.getElem?_map] at hx
      obtain ⟨y, hy⟩ : ∃ y, xs[i]? = some y := by
        cases e : xs[i]? with
        | none => rw [e] at hx; cases hx
        | some y => exact ⟨y, rfl⟩
      rw [hy] at hx
      cases hx
      have hi : i < ds.length := by have := (List.getElem?_eq_some_iff.mp hy).1; have := hh.len; omega
      have e2 : ds[i]? = some ds[i] := by simp [hi]
      have hd := hh.hand i y ds[i] hy e2
      have hw := h8 ds[i] (List.getElem_mem hi)
      simp only [runs1, List.length_cons, List.length_nil, Nat.zero_add, List.replicate_succ, List.replicate_zero, List.drop_succ_cons, List.drop_zero, Int.zero_add, List.getElem?_cons_zero, List.getElem?_cons_succ, List.set_cons_zero, List.set_cons_succ, Option.some.injEq, V.int.injEq, V.ref.injEq, V.bl.injEq, V.ty.injEq, V.str.injEq, List.cons.injEq, List.append_nil, List.cons_append, List.nil_append, exists_eq, exists_eq', exists_eq_left, exists_eq_left', exists_and_left, exists_and_right, and_assoc, true_and, and_true, ↓reduceIte]
      refine ⟨y, ds[i], rfl, hd, ?_⟩
      simp only [runs1, List.length_cons, List.length_nil, Nat.zero_add, List.replicate_succ, List.replicate_zero, List.drop_succ_cons, List.drop_zero, Int.zero_add, List.getElem?_cons_zero, List.getElem?_cons_succ, List.set_cons_zero, List.set_cons_succ, Option.some.injEq, V.int.injEq, V.ref.injEq, V.bl.injEq, V.ty.injEq, V.str.injEq, List.cons.injEq, List.append_nil, List.cons_append, List.nil_append, exists_eq, exists_eq', exists_eq_left, exists_eq_left', exists_and_left, exists_and_right, and_assoc, true_and, and_true, ↓reduceIte]
      refine ⟨_, .inl (.of hd.words), ?_⟩
      rw [List.length_map]
      refine ⟨.inr ⟨by omega, by omega⟩, rfl, some (V.ref y.t), ?_⟩
      rw [List.take_add_one, e2, List.map_append, List.prod_append]
      simp only [Option.toList, List.map_cons, List.map_nil, List.prod_cons, List.prod_nil, Nat.mul_one, Int.natCast_mul]
    · rintro σ H4 ⟨rfl, v, rfl⟩
      simp only [runs1, List.length_cons, List.length_nil, Nat.zero_add, List.replicate_succ, List.replicate_zero, List.drop_succ_cons, List.drop_zero, Int.zero_add, List.getElem?_cons_zero, List.getElem?_cons_succ, List.set_cons_zero, List.set_cons_succ, Option.some.injEq, V.int.injEq, V.ref.injEq, V.bl.injEq, V.ty.injEq, V.str.injEq, List.cons.injEq, List.append_nil, List.cons_append, List.nil_append, exists_eq, exists_eq', exists_eq_left, exists_eq_left', exists_and_left, exists_and_right, and_assoc, true_and, and_true, ↓reduceIte]
      rw [List.length_map, hh.len, List.take_length]
      exact q
def qNamesOf : Sp := fun vs H Q _ => ∃ (b : Addr) (xs : List HX) (ds : List HD), vs = [.ref b] ∧ HandsL H b xs ds ∧ ds.length ≤ 4 ∧ ∀ l, H l = none → Q (.ref l) (upd H l (.lst ((ds.map HD.name).map V.str)))
theorem f_names_of (f_name_of : FnAt P w K mg base "name_of" 1 ["hand"] (qPart fun _ d => .str d.name)) (D : DefIn K mg "names_of" s_names_of ["hands"]) : FnAt P w K mg base "names_of" 2 ["hands"] qNamesOf := by
  refine FnAt.of D sc_names_of (fun vs H Q E h => ?_) (fun f cdv A outer s H vs Q E hr h => ?_)
  · obtain ⟨b, xs, ds, rfl, _⟩ := h
    rfl
  · obtain ⟨b, xs, ds, rfl, hh3, g4, q⟩ := h
    refine ⟨_, (@pss_one _ _ _ (@ps_ret _ _ _ _ (pe_comp ["hand"] ["hands"] rfl (@pi_seq _ _ _ _ (pv 0)) (fun _ => (pg_name (i := 0) (show (["hand", "hands"] : List Str).Nodup by decide +kernel) rfl (Or.inl rfl))) (fun _ => (@pts_nil _)) (fun _ => (pe_callA f_name_of (hr.mono (by decide)) rfl (pa_cons (pv 0) (@pa_nil _)))) rfl (by decide +kernel) rfl rfl))), ?_⟩
    rw [show start ["hands"] [V.ref b] = [some (V.ref b)] from rfl]
    simp only [runs1, List.length_cons, List.length_nil, Nat.zero_add, List.replicate_succ, List.replicate_zero, List.drop_succ_cons, List.drop_zero, Int.zero_add, List.getElem?_cons_zero, List.getElem?_cons_succ, List.set_cons_zero, List.set_cons_succ, Option.some.injEq, V.int.injEq, V.ref.injEq, V.bl.injEq, V.ty.injEq, V.str.injEq, List.cons.injEq, List.append_nil, List.cons_append, List.nil_append, exists_eq, exists_eq', exists_eq_left, exists_eq_left', exists_and_left, exists_and_right, and_assoc, true_and, and_true, ↓reduceIte]
    refine .inl ⟨⟨_, .of hh3.at'⟩, fun d2 => ?_⟩
    refine comp_list (xs := xs.map fun x => V.ref x.t) (PvNm H ds) ⟨rfl, rfl⟩ ?_ ?_ ?_
    · rintro i ys H4 hi ⟨rfl, rfl⟩
      refine ⟨?_, .of hh3.at'⟩
      rw [List.length_map, List.length_map, List.length_take]
      exact Nat.le_trans (Nat.min_le_right _ _) (Nat.le_trans g4 (by decide))
    · rintro i x ys H4 hx ⟨rfl, rfl⟩
      rw [List.getElem?_map] at hx
      obtain ⟨y, hy⟩ : ∃ y, xs[i]? = some y := by
        cases e : xs[i]? with
        | none => rw [e] at hx; cases hx
        | some y => exact ⟨y, rfl⟩
      rw [hy] at hx
      cases hx
      have hi : i < ds.length := by have := (List.getElem?_eq_some_iff.mp hy).1; have := hh3.len; omega
      have e2 : ds[i]? = some ds[i] := by simp [hi]
      simp only [runs1, List.length_cons, List.length_nil, Nat.zero_add, List.replicate_succ, List.replicate_zero, List.drop_succ_cons, List.drop_zero, Int.zero_add, List.getElem?_cons_zero, List.getElem?_cons_succ, List.set_cons_zero, List.set_cons_succ, Option.some.injEq, V.int.injEq, V.ref.injEq, V.bl.injEq, V.ty.injEq, V.str.injEq, List.cons.injEq, List.append_nil, List.cons_append, List.nil_append, exists_eq, exists_eq', exists_eq_left, exists_eq_left', exists_and_left, exists_and_right, and_assoc, true_and, and_true, ↓reduceIte]
      refine ⟨y, ds[i], rfl, hh3.hand i y ds[i] hy e2, rfl, ?_⟩
      rw [List.take_add_one, e2, List.map_append, List.map_append]
      rfl
    · rintro ys H4 ⟨rfl, rfl⟩ l hl
      rw [List.length_map, hh3.len, List.take_length]
      exact q l hl
theorem f_makes_house (B : Bt mg) (f_are_names : FnAt P w K mg base "are_names" 2 ["thing", "most"] qNames) (f_is_hand : FnAt P w K mg base "is_hand" 5 ["thing", "width"] qHand) (f_names_of : FnAt P w K mg base "names_of" 2 ["hands"] qNamesOf) (f_count_of_rows : FnAt P w K mg base "count_of_rows" 2 ["hands"] qCount)
    (D : DefIn K mg "makes_house" s_makes_house ["outcomes", "hands"]) : FnAt P w K mg base "makes_house" 6 ["outcomes", "hands"] qMakes := by
  refine FnAt.of D sc_makes_house (fun vs H Q E h => ?_) (fun f cdv A outer s H vs Q E hr h => ?_)
  · obtain ⟨o, b, outs, xs, ds, rfl, _⟩ := h
    rfl
  · obtain ⟨o, b, outs, xs, ds, rfl, ho, hh, g, q⟩ := h
    refine ⟨_, (@pss_cons _ _ _ _ _ (@ps_if _ _ _ _ _ _ _ _ (PW.pt (@pw_or _ _ _ _ _ _ _ (@pt_not _ _ _ _ (pt_val (pe_callA f_are_names (hr.mono (by decide)) rfl (pa_cons (pv 0) (pa_cons (pe_globI rfl B.k_MOST_OUTCOMES) (@pa_nil _)))))) (@pw_or1 _ _ _ _ (@pt_not _ _ _ _ (pt_val (pe_callB call_isinst rfl B.isinstance bt_isinstance (pa_cons (pv 1) (pa_cons (pe_ty rfl B.list bt_list) (@pa_nil _))))))))) (@pss_one _ _ _ (@ps_ret _ _ _ _ (@pe_bl _ _ _ _))) (@pss_nil _)) (@pss_cons _ _ _ _ _ (@ps_if _ _ _ _ _ _ _ _ (@pt_not _ _ _ _ (pt_val (pe_callB (call_allL rfl) rfl B.all bt_all (pa_cons (pe_comp ["hand"] ["outcomes", "hands"] rfl (@pi_list _ _ _ _ (pv 1)) (fun _ => (pg_name (i := 0) (show (["hand", "outcomes", "hands"] : List Str).Nodup by decide +kernel) rfl (Or.inl rfl))) (fun _ => (@pts_nil _)) (fun _ => (pe_callA f_is_hand (hr.mono (by decide)) rfl (pa_cons (pv 0) (pa_cons (pe_callB call_len_seq rfl B.len bt_len (pa_cons (pv 1) (@pa_nil _))) (@pa_nil _))))) rfl (by decide +kernel) rfl rfl) (@pa_nil _))))) (@pss_one _ _ _ (@ps_ret _ _ _ _ (@pe_bl _ _ _ _))) (@pss_nil _)) (@pss_one _ _ _ (@ps_ret _ _ _ _ (@pe_and _ _ _ _ _ _ _ (pe_callA f_are_names (hr.mono (by decide)) rfl (pa_cons (pe_callA f_names_of (hr.mono (by decide)) rfl (pa_cons (pv 1) (@pa_nil _))) (pa_cons (pe_globI rfl B.k_MOST_HANDS) (@pa_nil _)))) (@pe_one _ _ _ _ _ (@pe_cmpR _ _ _ _ _ _ _ _ op_le (pe_callA f_count_of_rows (hr.mono (by decide)) rfl (pa_cons (pv 1) (@pa_nil _))) (pe_globI rfl B.k_MOST_ROWS) (nomark _)))))))), ?_⟩
    rw [show start ["outcomes", "hands"] [V.ref o, V.ref b] = [some (V.ref o), some (V.ref b)] from rfl]
    simp only [runs1, List.length_cons, List.length_nil, Nat.zero_add, List.replicate_succ, List.replicate_zero, List.drop_succ_cons, List.drop_zero, Int.zero_add, List.getElem?_cons_zero, List.getElem?_cons_succ, List.set_cons_zero, List.set_cons_succ, Option.some.injEq, V.int.injEq, V.ref.injEq, V.bl.injEq, V.ty.injEq, V.str.injEq, List.cons.injEq, List.append_nil, List.cons_append, List.nil_append, exists_eq, exists_eq', exists_eq_left, exists_eq_left', exists_and_left, exists_and_right, and_assoc, true_and, and_true, ↓reduceIte]
    have g1 := g.outs1
    have g2 := g.hands
    refine ⟨o, outs, 8, rfl, ho, g1.1, g1.2, Nat.le_refl _, g.outsG, g.outsD, fun H1 S1 => ?_⟩
    simp only [runs1, List.length_cons, List.length_nil, Nat.zero_add, List.replicate_succ, List.replicate_zero, List.drop_succ_cons, List.drop_zero, Int.zero_add, List.getElem?_cons_zero, List.getElem?_cons_succ, List.set_cons_zero, List.set_cons_succ, Option.some.injEq, V.int.injEq, V.ref.injEq, V.bl.injEq, V.ty.injEq, V.str.injEq, List.cons.injEq, List.append_nil, List.cons_append, List.nil_append, exists_eq, exists_eq', exists_eq_left, exists_eq_left', exists_and_left, exists_and_right, and_assoc, true_and, and_true, ↓reduceIte]
    have hh1 := hh.mono S1
    have ho1 := S1 _ _ ho
    refine iteF ⟨_, .lst hh1.at', true, kit_hll, iteF ⟨⟨_, .of hh1.at'⟩, fun d => ?_⟩⟩
    refine comp_list (xs := xs.map fun x => V.ref x.t) (PvAT H1) ⟨Same.refl _, rfl⟩ ?_ ?_ ?_
    · rintro i ys H2 hi ⟨S, rfl⟩
      rw [List.length_map, hh.len] at hi
      exact ⟨by rw [allT_len]; exact Nat.le_trans hi (Nat.le_trans g2.2 (by decide)), S.seq (.of hh1.at')⟩
    · rintro i x ys H2 hx ⟨S, rfl⟩
      rw [List.getElem?_map] at hx
      obtain ⟨y, hy⟩ : ∃ y, xs[i]? = some y := by
        cases e : xs[i]? with
        | none => rw [e] at hx; cases hx
        | some y => exact ⟨y, rfl⟩
      rw [hy] at hx
      cases hx
      have hi : i < ds.length := by have := (List.getElem?_eq_some_iff.mp hy).1; have := hh.len; omega
      have e2 : ds[i]? = some ds[i] := by simp [hi]
      simp only [runs1, List.length_cons, List.length_nil, Nat.zero_add, List.replicate_succ, List.replicate_zero, List.drop_succ_cons, List.drop_zero, Int.zero_add, List.getElem?_cons_zero, List.getElem?_cons_succ, List.set_cons_zero, List.set_cons_succ, Option.some.injEq, V.int.injEq, V.ref.injEq, V.bl.injEq, V.ty.injEq, V.str.injEq, List.cons.injEq, List.append_nil, List.cons_append, List.nil_append, exists_eq, exists_eq', exists_eq_left, exists_eq_left', exists_and_left, exists_and_right, and_assoc, true_and, and_true, ↓reduceIte]
      refine ⟨_, .inl (S.seq (.of ho1)), ?_⟩
      rw [List.length_map]
      exact ⟨y, ds[i], outs.length, rfl, (hh1.hand i y ds[i] hy e2).mono S, g.hand (List.getElem_mem hi), g1.2, fun H3 S3 => ⟨S.trans S3, allT_succ i⟩⟩
    · rintro ys H2 ⟨S, rfl⟩ p hp
      have S2 : Same H1 (upd H2 p (.lst ((allT (xs.map fun x => V.ref x.t).length).map V.bl))) := S.trans (Same.upd (Same.refl _) hp)
      refine ⟨_, .of upd_same, ?_⟩
      rw [allT_all]
      generalize upd H2 p (.lst ((allT (xs.map fun x => V.ref x.t).length).map V.bl)) = H3 at *
      have hh3 := hh1.mono S2
      refine iteF ⟨b, xs, ds, rfl, hh3, g2.2, fun l hl => ?_⟩
      have S5 : Same H3 (upd H3 l (.lst ((ds.map HD.name).map V.str))) := Same.upd (Same.refl _) hl
      refine ⟨l, ds.map HD.name, 4, rfl, upd_same, by rw [List.length_map]; exact g2.1, by rw [List.length_map]; exact g2.2, by decide, fun z hz => ?_, g.handsD, fun H6 S6 => ?_⟩
      · obtain ⟨d, hd, rfl⟩ := List.mem_map.mp hz
        exact g.handsG d hd
      · generalize upd H3 l (.lst ((ds.map HD.name).map V.str)) = H5 at *
        have S36 := S5.trans S6
        have few := g.few
        refine ⟨_, rfl, iteT ⟨b, xs, ds, rfl, hh3.mono S36, fun d hd => (g.words1 d hd).2, g2.2, _, rfl, ?_⟩⟩
        rw [decide_eq_true (by omega)]
        exact q _ (S1.trans (S2.trans S36))
theorem f_kept_hand (B : Bt mg) (f_name_of : FnAt P w K mg base "name_of" 1 ["hand"] (qPart fun _ d => .str d.name)) (f_words_of_hand : FnAt P w K mg base "words_of_hand" 1 ["hand"] (qPart fun x _ => .ref x.w)) (f_worths_of_hand : FnAt P w K mg base "worths_of_hand" 1 ["hand"] (qPart fun x _ => .ref x.g))
    (D : DefIn K mg "kept_hand" s_kept_hand ["hand"]) : FnAt P w K mg base "kept_hand" 2 ["hand"] (qKept K) := by
  refine FnAt.of D sc_kept_hand (fun vs H Q E h => ?_) (fun f cdv A outer s H vs Q E hr h => ?_)
  · obtain ⟨x, d, rfl, _⟩ := h
    rfl
  · obtain ⟨x, d, rfl, hx, h8, q⟩ := h
    refine ⟨_, (@pss_cons _ _ _ _ _ (ps_set (i := 1) sc_kept_hand.nd rfl (Or.inl rfl) (pe_callTy call_tupL rfl B.tuple bt_tuple (pa_cons (pe_comp ["row"] ["hand", "worths"] rfl (@pi_list _ _ _ _ (pe_callA f_worths_of_hand (hr.mono (by decide)) rfl (pa_cons (pv 0) (@pa_nil _)))) (fun _ => (pg_name (i := 0) (show (["row", "hand", "worths"] : List Str).Nodup by decide +kernel) rfl (Or.inl rfl))) (fun _ => (@pts_nil _)) (fun _ => (pe_callTy call_tupL rfl B.tuple bt_tuple (pa_cons (pv 0) (@pa_nil _)))) rfl (by decide +kernel) rfl rfl) (@pa_nil _)))) (@pss_one _ _ _ (@ps_ret _ _ _ _ (@pe_tup _ _ _ _ _ (pa_cons (pe_callA f_name_of (hr.mono (by decide)) rfl (pa_cons (pv 0) (@pa_nil _))) (pa_cons (pe_callTy call_tupL rfl B.tuple bt_tuple (pa_cons (pe_callA f_words_of_hand (hr.mono (by decide)) rfl (pa_cons (pv 0) (@pa_nil _))) (@pa_nil _))) (pa_cons (pv 1) (@pa_nil _)))))))), ?_⟩
    rw [show start ["hand", "worths"] [V.ref x.t] = [some (V.ref x.t), none] from rfl]
    simp only [runs1, List.length_cons, List.length_nil, Nat.zero_add, List.replicate_succ, List.replicate_zero, List.drop_succ_cons, List.drop_zero, Int.zero_add, List.getElem?_cons_zero, List.getElem?_cons_succ, List.set_cons_zero, List.set_cons_succ, Option.some.injEq, V.int.injEq, V.ref.injEq, V.bl.injEq, V.ty.injEq, V.str.injEq, List.cons.injEq, List.append_nil, List.cons_append, List.nil_append, exists_eq, exists_eq', exists_eq_left, exists_eq_left', exists_and_left, exists_and_right, and_assoc, true_and, and_true, ↓reduceIte]
    refine ⟨x, d, rfl, hx, ?_⟩
    simp only [runs1, List.length_cons, List.length_nil, Nat.zero_add, List.replicate_succ, List.replicate_zero, List.drop_succ_cons, List.drop_zero, Int.zero_add, List.getElem?_cons_zero, List.getElem?_cons_succ, List.set_cons_zero, List.set_cons_succ, Option.some.injEq, V.int.injEq, V.ref.injEq, V.bl.injEq, V.ty.injEq, V.str.injEq, List.cons.injEq, List.append_nil, List.cons_append, List.nil_append, exists_eq, exists_eq', exists_eq_left, exists_eq_left', exists_and_left, exists_and_right, and_assoc, true_and, and_true, ↓reduceIte]
    refine ⟨⟨_, .of hx.grid⟩, fun dd => ?_⟩
    refine comp_list (xs := x.gs.map V.ref) (PvE K d.worths H) ⟨Same.refl _, rfl, TrsAt.nil⟩ ?_ ?_ ?_
    · rintro i ys H2 hi ⟨S, ly, _⟩
      rw [List.length_map, hx.len] at hi
      exact ⟨by rw [ly]; exact Nat.le_trans hi (Nat.le_trans h8 (by decide)), S.seq (.of hx.grid)⟩
    · rintro i y ys H2 hy ⟨S, ly, ty⟩
      rw [List.getElem?_map] at hy
      obtain ⟨r, hr'⟩ : ∃ y, x.gs[i]? = some y := by
        cases e : x.gs[i]? with
        | none => rw [e] at hy; cases hy
        | some y => exact ⟨y, rfl⟩
      rw [hr'] at hy
      cases hy
      have hi : i < d.worths.length := by have := (List.getElem?_eq_some_iff.mp hr').1; have := hx.len; omega
      have e2 : d.worths[i]? = some d.worths[i] := by simp [hi]
      simp only [runs1, List.length_cons, List.length_nil, Nat.zero_add, List.replicate_succ, List.replicate_zero, List.drop_succ_cons, List.drop_zero, Int.zero_add, List.getElem?_cons_zero, List.getElem?_cons_succ, List.set_cons_zero, List.set_cons_succ, Option.some.injEq, V.int.injEq, V.ref.injEq, V.bl.injEq, V.ty.injEq, V.str.injEq, List.cons.injEq, List.append_nil, List.cons_append, List.nil_append, exists_eq, exists_eq', exists_eq_left, exists_eq_left', exists_and_left, exists_and_right, and_assoc, true_and, and_true, ↓reduceIte]
      refine ⟨_, S.seq (.of (hx.row i r _ hr' e2)), fun l hl => ?_⟩
      have S3 : Same H2 (upd H2 l (.tup ((d.worths[i]).map V.int))) := Same.upd (Same.refl _) hl
      refine ⟨S.trans S3, by simp [ly], ?_⟩
      rw [List.take_add_one, e2, List.map_append]
      exact TrsAt.append (TrsAt.mono S3 ty) (TrsAt.cons (TrAt.tp (.of upd_same) (ints_at _)) TrsAt.nil)
    · rintro ys H2 ⟨S, ly, ty⟩ l hl
      rw [List.length_map, hx.len, List.take_length] at ty
      have S3 : Same H2 (upd H2 l (.lst ys)) := Same.upd (Same.refl _) hl
      refine ⟨_, .of upd_same, fun l1 hl1 => ?_⟩
      generalize upd H2 l (.lst ys) = H3 at *
      have S4 : Same H3 (upd H3 l1 (.tup ys)) := Same.upd (Same.refl _) hl1
      have h4 : upd H3 l1 (.tup ys) l1 = some (.tup ys) := upd_same
      generalize upd H3 l1 (.tup ys) = H4 at *
      have S24 := S.trans (S3.trans S4)
      refine ⟨x, d, rfl, hx.mono S24, x, d, rfl, hx.mono S24, x.w, rfl, _, .of (hx.mono S24).words, fun l2 hl2 => ⟨by decide, fun p hp => ?_⟩⟩
      have S5 : Same H4 (upd H4 l2 (.tup (d.words.map V.str))) := Same.upd (Same.refl _) hl2
      have h5 : upd H4 l2 (.tup (d.words.map V.str)) l2 = some (.tup (d.words.map V.str)) := upd_same
      generalize upd H4 l2 (.tup (d.words.map V.str)) = H5 at *
      have S6 : Same H5 (upd H5 p (.tup [V.str d.name, V.ref l2, V.ref l1])) := Same.upd (Same.refl _) hp
      refine q _ p (S24.trans (S5.trans S6)) (TrAt.tp (.of upd_same) (TrsAt.cons (TrAt.lf rfl) (TrsAt.cons (TrAt.tp (.of (S6 _ _ h5)) (strs_at _)) (TrsAt.cons (TrAt.tp (.of ((S5.trans S6) _ _ h4)) (TrsAt.mono (S3.trans (S4.trans (S5.trans S6))) ty)) TrsAt.nil))))
theorem f_house_of (B : Bt mg) (C : Ct K mg a) (f_makes_house : FnAt P w K mg base "makes_house" 6 ["outcomes", "hands"] qMakes) (f_kept_hand : FnAt P w K mg base "kept_hand" 2 ["hand"] (qKept K)) (D : DefIn K mg "house_of" s_house_of ["outcomes", "hands"]) : FnAtX P w K mg base "house_of" 7 ["outcomes", "hands"] (spHouse K) := by
  refine FnAtX.of D sc_house_of (fun vs H Q E h => ?_) (fun f cdv A outer s H vs Q E hr h => ?_)
  · obtain ⟨o, b, outs, xs, ds, rfl, _⟩ := h
    rfl
  · obtain ⟨o, b, outs, xs, ds, rfl, ho, hh, g, q⟩ := h
    refine ⟨_, (@pss_cons _ _ _ _ _ (@ps_if _ _ _ _ _ _ _ _ (@pt_not _ _ _ _ (pt_val (pe_callA f_makes_house (hr.mono (by decide)) rfl (pa_cons (pv 0) (pa_cons (pv 1) (@pa_nil _)))))) (@pss_one _ _ _ (ps_raise rfl C.q_NoHouse.toErr rfl C.m_NoHouse (raises_body rfl) (pa_cons (@pe_str _ _ _ _) (@pa_nil _)))) (@pss_nil _)) (@pss_one _ _ _ (PS.nox (@ps_ret _ _ _ _ (@pe_tup _ _ _ _ _ (pa_cons (pe_callTy call_tupL rfl B.tuple bt_tuple (pa_cons (pv 0) (@pa_nil _))) (pa_cons (pe_callTy call_tupL rfl B.tuple bt_tuple (pa_cons (pe_comp ["hand"] ["outcomes", "hands"] rfl (@pi_list _ _ _ _ (pv 1)) (fun _ => (pg_name (i := 0) (show (["hand", "outcomes", "hands"] : List Str).Nodup by decide +kernel) rfl (Or.inl rfl))) (fun _ => (@pts_nil _)) (fun _ => (pe_callA f_kept_hand (hr.mono (by decide)) rfl (pa_cons (pv 0) (@pa_nil _)))) rfl (by decide +kernel) rfl rfl) (@pa_nil _))) (@pa_nil _)))))))), ?_⟩
    rw [show start ["outcomes", "hands"] [V.ref o, V.ref b] = [some (V.ref o), some (V.ref b)] from rfl]
    simp only [runs1, List.length_cons, List.length_nil, Nat.zero_add, List.replicate_succ, List.replicate_zero, List.drop_succ_cons, List.drop_zero, Int.zero_add, List.getElem?_cons_zero, List.getElem?_cons_succ, List.set_cons_zero, List.set_cons_succ, Option.some.injEq, V.int.injEq, V.ref.injEq, V.bl.injEq, V.ty.injEq, V.str.injEq, List.cons.injEq, List.append_nil, List.cons_append, List.nil_append, exists_eq, exists_eq', exists_eq_left, exists_eq_left', exists_and_left, exists_and_right, and_assoc, true_and, and_true, ↓reduceIte]
    have g2 := g.hands
    refine ⟨o, b, outs, xs, ds, rfl, ho, hh, g, fun H1 S1 => ?_⟩
    simp only [runs1, List.length_cons, List.length_nil, Nat.zero_add, List.replicate_succ, List.replicate_zero, List.drop_succ_cons, List.drop_zero, Int.zero_add, List.getElem?_cons_zero, List.getElem?_cons_succ, List.set_cons_zero, List.set_cons_succ, Option.some.injEq, V.int.injEq, V.ref.injEq, V.bl.injEq, V.ty.injEq, V.str.injEq, List.cons.injEq, List.append_nil, List.cons_append, List.nil_append, exists_eq, exists_eq', exists_eq_left, exists_eq_left', exists_and_left, exists_and_right, and_assoc, true_and, and_true, ↓reduceIte]
    have hh1 := hh.mono S1
    have ho1 := S1 _ _ ho
    refine iteF ⟨_, .of ho1, fun l hl => ?_⟩
    have S2 : Same H1 (upd H1 l (.tup (outs.map V.str))) := Same.upd (Same.refl _) hl
    have h2 : upd H1 l (.tup (outs.map V.str)) l = some (.tup (outs.map V.str)) := upd_same
    generalize upd H1 l (.tup (outs.map V.str)) = H2 at *
    have hh2 := hh1.mono S2
    refine ⟨⟨_, .of hh2.at'⟩, fun d => ?_⟩
    refine comp_list (xs := xs.map fun x => V.ref x.t) (PvD K ds H2) ⟨Same.refl _, rfl, TrsAt.nil⟩ ?_ ?_ ?_
    · rintro i ys H3 hi ⟨S, ly, _⟩
      rw [List.length_map, hh.len] at hi
      exact ⟨by rw [ly]; exact Nat.le_trans hi (Nat.le_trans g2.2 (by decide)), S.seq (.of hh2.at')⟩
    · rintro i y ys H3 hy ⟨S, ly, ty⟩
      rw [List.getElem?_map] at hy
      obtain ⟨x, hx⟩ : ∃ y, xs[i]? = some y := by
        cases e : xs[i]? with
        | none => rw [e] at hy; cases hy
        | some y => exact ⟨y, rfl⟩
      rw [hx] at hy
      cases hy
      have hi : i < ds.length := by have := (List.getElem?_eq_some_iff.mp hx).1; have := hh.len; omega
      have e2 : ds[i]? = some ds[i] := by simp [hi]
      have hm := List.getElem_mem hi
      have r8 : (ds[i]).worths.length ≤ 8 := by rw [g.rows _ hm]; exact (g.words1 _ hm).2
      simp only [runs1, List.length_cons, List.length_nil, Nat.zero_add, List.replicate_succ, List.replicate_zero, List.drop_succ_cons, List.drop_zero, Int.zero_add, List.getElem?_cons_zero, List.getElem?_cons_succ, List.set_cons_zero, List.set_cons_succ, Option.some.injEq, V.int.injEq, V.ref.injEq, V.bl.injEq, V.ty.injEq, V.str.injEq, List.cons.injEq, List.append_nil, List.cons_append, List.nil_append, exists_eq, exists_eq', exists_eq_left, exists_eq_left', exists_and_left, exists_and_right, and_assoc, true_and, and_true, ↓reduceIte]
      refine ⟨x, ds[i], rfl, (hh2.hand i x ds[i] hx e2).mono S, r8, fun H4 p S4 tp => ?_⟩
      refine ⟨S.trans S4, by simp [ly], ?_⟩
      rw [List.take_add_one, e2, List.map_append]
      exact TrsAt.append (TrsAt.mono S4 ty) (TrsAt.cons tp TrsAt.nil)
    · rintro ys H3 ⟨S, ly, ty⟩ l1 hl1
      rw [List.length_map, hh.len, List.take_length] at ty
      have S4 : Same H3 (upd H3 l1 (.lst ys)) := Same.upd (Same.refl _) hl1
      refine ⟨_, .of upd_same, fun l2 hl2 => ⟨by decide, fun p hp => ?_⟩⟩
      generalize upd H3 l1 (.lst ys) = H4 at *
      have S5 : Same H4 (upd H4 l2 (.tup ys)) := Same.upd (Same.refl _) hl2
      have h5 : upd H4 l2 (.tup ys) l2 = some (.tup ys) := upd_same
      generalize upd H4 l2 (.tup ys) = H5 at *
      have S6 : Same H5 (upd H5 p (.tup [V.ref l, V.ref l2])) := Same.upd (Same.refl _) hp
      have S36 := S4.trans (S5.trans S6)
      exact q _ p _ (S1.trans (S2.trans (S.trans S36))) upd_same (TrAt.tp (.of upd_same) (TrsAt.cons (TrAt.tp (.of ((S.trans S36) _ _ h2)) (strs_at _)) (TrsAt.cons (TrAt.tp (.of (S6 _ _ h5)) (TrsAt.mono S36 ty)) TrsAt.nil)))
end

section
variable {α : Type}
end

/-! ### rows of a kept house -/
structure TupsAt (H : Hp) (as : List Addr) (rs : List (List Str)) : Prop where
  len : as.length = rs.length
  at' : ∀ (i : Nat) (a : Addr) (r : List Str), as[i]? = some a → rs[i]? = some r → H a = some (.tup (r.map V.str))
theorem TupsAt.nil {H : Hp} : TupsAt H [] [] := ⟨rfl, fun i a r e => by simp at e⟩
theorem TupsAt.mono {H H' : Hp} {as : List Addr} {rs : List (List Str)} (S : Same H H') (h : TupsAt H as rs) : TupsAt H' as rs := ⟨h.len, fun i a r e1 e2 => S _ _ (h.at' i a r e1 e2)⟩
theorem TupsAt.append {H : Hp} {as bs : List Addr} {rs qs : List (List Str)} (h1 : TupsAt H as rs) (h2 : TupsAt H bs qs) : TupsAt H (as ++ bs) (rs ++ qs) := by
  refine ⟨by simp [h1.len, h2.len], fun i a r e1 e2 => ?_⟩
  by_cases hi : i < as.length
  · rw [List.getElem?_append_left hi] at e1
    rw [List.getElem?_append_left (by rw [← h1.len]; exact hi)] at e2
    exact h1.at' i a r e1 e2
  · rw [List.getElem?_append_right (Nat.not_lt.mp hi)] at e1
    rw [List.getElem?_append_right (by rw [← h1.len]; exact Nat.not_lt.mp hi)] at e2
    rw [h1.len] at e1
    exact h2.at' _ a r e1 e2
theorem TupsAt.one {H : Hp} {a : Addr} {r : List Str} (h : H a = some (.tup (r.map V.str))) : TupsAt H [a] [r] := ⟨rfl, fun i b q e1 e2 => by
  cases i with
  | zero =>
    simp at e1 e2
    subst e1 e2
    exact h
  | succ i => simp at e1⟩
structure RwsAt (H : Hp) (l : Addr) (as : List Addr) (rs : List (List Str)) : Prop where
  lst : H l = some (.lst (as.map V.ref))
  tups : TupsAt H as rs
theorem RwsAt.mono {H H' : Hp} {l : Addr} {as : List Addr} {rs : List (List Str)} (S : Same H H') (h : RwsAt H l as rs) : RwsAt H' l as rs := ⟨S _ _ h.lst, h.tups.mono S⟩
/-- a hand as a house keeps it -/
structure KHand (K : PySem.W.Frag) (H : Hp) (t : Addr) (d : HD) (w g : Addr) (gs : List Addr) : Prop where
  tup : SqT K H t [.str d.name, .ref w, .ref g]
  words : SqT K H w (d.words.map V.str)
  grid : SqT K H g (gs.map V.ref)
  len : gs.length = d.worths.length
  row : ∀ (i : Nat) (r : Addr) (ns : List Int), gs[i]? = some r → d.worths[i]? = some ns → SqT K H r (ns.map V.int)
def KHands (K : PySem.W.Frag) (H : Hp) (hs : List Addr) (ds : List HD) : Prop := hs.length = ds.length ∧ ∀ (i : Nat) (t : Addr) (d : HD), hs[i]? = some t → ds[i]? = some d → ∃ w g gs, KHand K H t d w g gs
structure KHouse (K : PySem.W.Frag) (H : Hp) (p o h : Addr) (hs : List Addr) (outs : List Str) (ds : List HD) : Prop where
  tup : SqT K H p [.ref o, .ref h]
  outs : SqT K H o (outs.map V.str)
  hands : SqT K H h (hs.map V.ref)
  hand : KHands K H hs ds
theorem KHand.mono {K : PySem.W.Frag} {H H' : Hp} {t : Addr} {d : HD} {w g : Addr} {gs : List Addr} (S : Same H H') (h : KHand K H t d w g gs) : KHand K H' t d w g gs :=
  ⟨S.seqT h.tup, S.seqT h.words, S.seqT h.grid, h.len, fun i r ns e1 e2 => S.seqT (h.row i r ns e1 e2)⟩
theorem KHands.mono {K : PySem.W.Frag} {H H' : Hp} {hs : List Addr} {ds : List HD} (S : Same H H') (h : KHands K H hs ds) : KHands K H' hs ds :=
  ⟨h.1, fun i t d e1 e2 => by
    obtain ⟨w, g, gs, q⟩ := h.2 i t d e1 e2
    exact ⟨w, g, gs, q.mono S⟩⟩
theorem KHouse.mono {K : PySem.W.Frag} {H H' : Hp} {p o h : Addr} {hs : List Addr} {outs : List Str} {ds : List HD} (S : Same H H') (q : KHouse K H p o h hs outs ds) : KHouse K H' p o h hs outs ds :=
  ⟨S.seqT q.tup, S.seqT q.outs, S.seqT q.hands, q.hand.mono S⟩
def qItem (K : PySem.W.Frag) (j : Nat) : Sp := fun vs H Q _ => ∃ (t : Addr) (us : List V) (v : V), vs = [.ref t] ∧ SqT K H t us ∧ us[j]? = some v ∧ Q v H
section
variable {P : Program} {w : World} {K : PySem.W.Frag} {mg : Str → Option Value} {base : Heap}
set_option maxHeartbeats 4000000
theorem g_hands_of (D : DefIn K mg "hands_of" s_hands_of ["house"]) : FnAt P w K mg base "hands_of" 1 ["house"] (qItem K 1) := by
  refine FnAt.of D sc_hands_of (fun vs H Q E h => ?_) (fun f cdv A outer s H vs Q E hr h => ?_)
  · obtain ⟨t, us, v, rfl, _⟩ := h
    rfl
  · obtain ⟨t, us, v, rfl, ht, e, q⟩ := h
    refine ⟨_, (@pss_one _ _ _ (@ps_ret _ _ _ _ (@pe_ix _ _ _ _ _ _ _ ix_tup (pv 0) (@pe_int _ _ _ _) (fun _ _ => rfl)))), ?_⟩
    rw [show start ["house"] [V.ref t] = [some (V.ref t)] from rfl]
    simp only [runs1, List.length_cons, List.length_nil, Nat.zero_add, List.replicate_succ, List.replicate_zero, List.drop_succ_cons, List.drop_zero, Int.zero_add, List.getElem?_cons_zero, List.getElem?_cons_succ, List.set_cons_zero, List.set_cons_succ, Option.some.injEq, V.int.injEq, V.ref.injEq, V.bl.injEq, V.ty.injEq, V.str.injEq, List.cons.injEq, List.append_nil, List.cons_append, List.nil_append, exists_eq, exists_eq', exists_eq_left, exists_eq_left', exists_and_left, exists_and_right, and_assoc, true_and, and_true, ↓reduceIte]
    exact ⟨_, ht, _, atI_nat (j := 1) e, q⟩
theorem g_words_of_hand (D : DefIn K mg "words_of_hand" s_words_of_hand ["hand"]) : FnAt P w K mg base "words_of_hand" 1 ["hand"] (qItem K 1) := by
  refine FnAt.of D sc_words_of_hand (fun vs H Q E h => ?_) (fun f cdv A outer s H vs Q E hr h => ?_)
  · obtain ⟨t, us, v, rfl, _⟩ := h
    rfl
  · obtain ⟨t, us, v, rfl, ht, e, q⟩ := h
    refine ⟨_, (@pss_one _ _ _ (@ps_ret _ _ _ _ (@pe_ix _ _ _ _ _ _ _ ix_tup (pv 0) (@pe_int _ _ _ _) (fun _ _ => rfl)))), ?_⟩
    rw [show start ["hand"] [V.ref t] = [some (V.ref t)] from rfl]
    simp only [runs1, List.length_cons, List.length_nil, Nat.zero_add, List.replicate_succ, List.replicate_zero, List.drop_succ_cons, List.drop_zero, Int.zero_add, List.getElem?_cons_zero, List.getElem?_cons_succ, List.set_cons_zero, List.set_cons_succ, Option.some.injEq, V.int.injEq, V.ref.injEq, V.bl.injEq, V.ty.injEq, V.str.injEq, List.cons.injEq, List.append_nil, List.cons_append, List.nil_append, exists_eq, exists_eq', exists_eq_left, exists_eq_left', exists_and_left, exists_and_right, and_assoc, true_and, and_true, ↓reduceIte]
    exact ⟨_, ht, _, atI_nat (j := 1) e, q⟩
end

/-! ### house_of, with all its tuples tracked -/
structure HHand (H : Hp) (t : Addr) (d : HD) (w g : Addr) (gs : List Addr) : Prop where
  tup : H t = some (.tup [.str d.name, .ref w, .ref g])
  words : H w = some (.tup (d.words.map V.str))
  grid : H g = some (.tup (gs.map V.ref))
  len : gs.length = d.worths.length
  row : ∀ (i : Nat) (r : Addr) (ns : List Int), gs[i]? = some r → d.worths[i]? = some ns → H r = some (.tup (ns.map V.int))
theorem HHand.mono {H H' : Hp} {t : Addr} {d : HD} {w g : Addr} {gs : List Addr} (S : Same H H') (h : HHand H t d w g gs) : HHand H' t d w g gs :=
  ⟨S _ _ h.tup, S _ _ h.words, S _ _ h.grid, h.len, fun i r ns e1 e2 => S _ _ (h.row i r ns e1 e2)⟩
theorem HHand.k {K : PySem.W.Frag} {H : Hp} {t : Addr} {d : HD} {w g : Addr} {gs : List Addr} (h : HHand H t d w g gs) : KHand K H t d w g gs :=
  ⟨.of h.tup, .of h.words, .of h.grid, h.len, fun i r ns e1 e2 => .of (h.row i r ns e1 e2)⟩
def HHands (H : Hp) (hs : List Addr) (ds : List HD) : Prop := hs.length = ds.length ∧ ∀ (i : Nat) (t : Addr) (d : HD), hs[i]? = some t → ds[i]? = some d → ∃ w g gs, HHand H t d w g gs
theorem HHands.mono {H H' : Hp} {hs : List Addr} {ds : List HD} (S : Same H H') (h : HHands H hs ds) : HHands H' hs ds :=
  ⟨h.1, fun i t d e1 e2 => by
    obtain ⟨w, g, gs, q⟩ := h.2 i t d e1 e2
    exact ⟨w, g, gs, q.mono S⟩⟩
theorem HHands.snoc {H : Hp} {hs : List Addr} {ds : List HD} {t : Addr} {d : HD} {w g : Addr} {gs : List Addr} (h : HHands H hs ds) (q : HHand H t d w g gs) : HHands H (hs ++ [t]) (ds ++ [d]) := by
  refine ⟨by simp [h.1], fun i a e e1 e2 => ?_⟩
  by_cases hi : i < hs.length
  · rw [List.getElem?_append_left hi] at e1
    rw [List.getElem?_append_left (by rw [← h.1]; exact hi)] at e2
    exact h.2 i a e e1 e2
  · rw [List.getElem?_append_right (Nat.not_lt.mp hi)] at e1
    rw [List.getElem?_append_right (by rw [← h.1]; exact Nat.not_lt.mp hi)] at e2
    have h0 : i - hs.length = 0 := by
      have := (List.getElem?_eq_some_iff.mp e1).1
      simp at this
      omega
    rw [h0] at e1
    rw [← h.1, h0] at e2
    simp at e1 e2
    subst e1 e2
    exact ⟨w, g, gs, q⟩
structure HHouse (H : Hp) (p o h : Addr) (hs : List Addr) (outs : List Str) (ds : List HD) : Prop where
  tup : H p = some (.tup [.ref o, .ref h])
  outs : H o = some (.tup (outs.map V.str))
  hands : H h = some (.tup (hs.map V.ref))
  hand : HHands H hs ds
theorem HHouse.mono {H H' : Hp} {p o h : Addr} {hs : List Addr} {outs : List Str} {ds : List HD} (S : Same H H') (q : HHouse H p o h hs outs ds) : HHouse H' p o h hs outs ds :=
  ⟨S _ _ q.tup, S _ _ q.outs, S _ _ q.hands, q.hand.mono S⟩
theorem HHouse.k {K : PySem.W.Frag} {H : Hp} {p o h : Addr} {hs : List Addr} {outs : List Str} {ds : List HD} (q : HHouse H p o h hs outs ds) : KHouse K H p o h hs outs ds :=
  ⟨.of q.tup, .of q.outs, .of q.hands, q.hand.1, fun i t d e1 e2 => by
    obtain ⟨w, g, gs, z⟩ := q.hand.2 i t d e1 e2
    exact ⟨w, g, gs, z.k⟩⟩
structure IntTs (H : Hp) (ls : List Addr) (ps : List (List Int)) : Prop where
  len : ls.length = ps.length
  at' : ∀ (i : Nat) (l : Addr) (p : List Int), ls[i]? = some l → ps[i]? = some p → H l = some (.tup (p.map V.int))
theorem IntTs.mono {H H' : Hp} {ls : List Addr} {ps : List (List Int)} (S : Same H H') (h : IntTs H ls ps) : IntTs H' ls ps := ⟨h.len, fun i l p e1 e2 => S _ _ (h.at' i l p e1 e2)⟩
theorem IntTs.snoc {H : Hp} {ls : List Addr} {ps : List (List Int)} {l : Addr} {p : List Int} (h : IntTs H ls ps) (hl : H l = some (.tup (p.map V.int))) : IntTs H (ls ++ [l]) (ps ++ [p]) := by
  refine ⟨by simp [h.len], fun i a q e1 e2 => ?_⟩
  by_cases hi : i < ls.length
  · rw [List.getElem?_append_left hi] at e1
    rw [List.getElem?_append_left (by rw [← h.len]; exact hi)] at e2
    exact h.at' i a q e1 e2
  · rw [List.getElem?_append_right (Nat.not_lt.mp hi)] at e1
    rw [List.getElem?_append_right (by rw [← h.len]; exact Nat.not_lt.mp hi)] at e2
    have h0 : i - ls.length = 0 := by
      have := (List.getElem?_eq_some_iff.mp e1).1
      simp at this
      omega
    rw [h0] at e1
    rw [← h.len, h0] at e2
    simp at e1 e2
    subst e1 e2
    exact hl
def qKeptH : Sp := fun vs H Q _ => ∃ (x : HX) (d : HD), vs = [.ref x.t] ∧ HandAt H x d ∧ d.worths.length ≤ 8 ∧ ∀ H' t w g gs, Same H H' → HHand H' t d w g gs → Q (.ref t) H'
def spHouseH : Sp := fun vs H Q _ => ∃ (o b : Addr) (outs : List Str) (xs : List HX) (ds : List HD), vs = [.ref o, .ref b] ∧ H o = some (.lst (outs.map V.str)) ∧ HandsL H b xs ds ∧ GoodHouse outs ds ∧ ∀ H' p o' h hs, Same H H' → HHouse H' p o' h hs outs ds → Q (.ref p) H'
def PvEH (rows : List (List Int)) (H1 : Hp) (i : Nat) (ys : List V) (H' : Hp) : Prop := Same H1 H' ∧ ∃ gs : List Addr, ys = gs.map V.ref ∧ IntTs H' gs (rows.take i)
def PvDH (ds : List HD) (H1 : Hp) (i : Nat) (ys : List V) (H' : Hp) : Prop := Same H1 H' ∧ ∃ hs : List Addr, ys = hs.map V.ref ∧ HHands H' hs (ds.take i)
section
variable {P : Program} {w : World} {K : PySem.W.Frag} {mg : Str → Option Value} {base : Heap} {a : Ad}
set_option maxHeartbeats 4000000
theorem h_kept_hand (B : Bt mg) (f_name_of : FnAt P w K mg base "name_of" 1 ["hand"] (qPart fun _ d => .str d.name)) (f_words_of_hand : FnAt P w K mg base "words_of_hand" 1 ["hand"] (qPart fun x _ => .ref x.w)) (f_worths_of_hand : FnAt P w K mg base "worths_of_hand" 1 ["hand"] (qPart fun x _ => .ref x.g))
    (D : DefIn K mg "kept_hand" s_kept_hand ["hand"]) : FnAt P w K mg base "kept_hand" 2 ["hand"] qKeptH := by
  refine FnAt.of D sc_kept_hand (fun vs H Q E h => ?_) (fun f cdv A outer s H vs Q E hr h => ?_)
  · obtain ⟨x, d, rfl, _⟩ := h
    rfl
  · obtain ⟨x, d, rfl, hx, h8, q⟩ := h
    refine ⟨_, (@pss_cons _ _ _ _ _ (ps_set (i := 1) sc_kept_hand.nd rfl (Or.inl rfl) (pe_callTy call_tupL rfl B.tuple bt_tuple (pa_cons (pe_comp ["row"] ["hand", "worths"] rfl (@pi_list _ _ _ _ (pe_callA f_worths_of_hand (hr.mono (by decide)) rfl (pa_cons (pv 0) (@pa_nil _)))) (fun _ => (pg_name (i := 0) (show (["row", "hand", "worths"] : List Str).Nodup by decide +kernel) rfl (Or.inl rfl))) (fun _ => (@pts_nil _)) (fun _ => (pe_callTy call_tupL rfl B.tuple bt_tuple (pa_cons (pv 0) (@pa_nil _)))) rfl (by decide +kernel) rfl rfl) (@pa_nil _)))) (@pss_one _ _ _ (@ps_ret _ _ _ _ (@pe_tup _ _ _ _ _ (pa_cons (pe_callA f_name_of (hr.mono (by decide)) rfl (pa_cons (pv 0) (@pa_nil _))) (pa_cons (pe_callTy call_tupL rfl B.tuple bt_tuple (pa_cons (pe_callA f_words_of_hand (hr.mono (by decide)) rfl (pa_cons (pv 0) (@pa_nil _))) (@pa_nil _))) (pa_cons (pv 1) (@pa_nil _)))))))), ?_⟩
    rw [show start ["hand", "worths"] [V.ref x.t] = [some (V.ref x.t), none] from rfl]
    simp only [runs1, List.length_cons, List.length_nil, Nat.zero_add, List.replicate_succ, List.replicate_zero, List.drop_succ_cons, List.drop_zero, Int.zero_add, List.getElem?_cons_zero, List.getElem?_cons_succ, List.set_cons_zero, List.set_cons_succ, Option.some.injEq, V.int.injEq, V.ref.injEq, V.bl.injEq, V.ty.injEq, V.str.injEq, List.cons.injEq, List.append_nil, List.cons_append, List.nil_append, exists_eq, exists_eq', exists_eq_left, exists_eq_left', exists_and_left, exists_and_right, and_assoc, true_and, and_true, ↓reduceIte]
    refine ⟨x, d, rfl, hx, ?_⟩
    simp only [runs1, List.length_cons, List.length_nil, Nat.zero_add, List.replicate_succ, List.replicate_zero, List.drop_succ_cons, List.drop_zero, Int.zero_add, List.getElem?_cons_zero, List.getElem?_cons_succ, List.set_cons_zero, List.set_cons_succ, Option.some.injEq, V.int.injEq, V.ref.injEq, V.bl.injEq, V.ty.injEq, V.str.injEq, List.cons.injEq, List.append_nil, List.cons_append, List.nil_append, exists_eq, exists_eq', exists_eq_left, exists_eq_left', exists_and_left, exists_and_right, and_assoc, true_and, and_true, ↓reduceIte]
    refine ⟨⟨_, .of hx.grid⟩, fun dd => ?_⟩
    refine comp_list (xs := x.gs.map V.ref) (PvEH d.worths H) ⟨Same.refl _, [], rfl, rfl, fun i l p e => by simp at e⟩ ?_ ?_ ?_
    · rintro i ys H2 hi ⟨S, gs, rfl, ty⟩
      rw [List.length_map, hx.len] at hi
      have ly : gs.length = i := by rw [ty.len, List.length_take]; omega
      exact ⟨by rw [List.length_map, ly]; exact Nat.le_trans hi (Nat.le_trans h8 (by decide)), S.seq (.of hx.grid)⟩
    · rintro i y ys H2 hy ⟨S, gs, rfl, ty⟩
      rw [List.getElem?_map] at hy
      obtain ⟨r, hr'⟩ : ∃ y, x.gs[i]? = some y := by
        cases e : x.gs[i]? with
        | none => rw [e] at hy; cases hy
        | some y => exact ⟨y, rfl⟩
      rw [hr'] at hy
      cases hy
      have hi : i < d.worths.length := by have := (List.getElem?_eq_some_iff.mp hr').1; have := hx.len; omega
      have e2 : d.worths[i]? = some d.worths[i] := by simp [hi]
      simp only [runs1, List.length_cons, List.length_nil, Nat.zero_add, List.replicate_succ, List.replicate_zero, List.drop_succ_cons, List.drop_zero, Int.zero_add, List.getElem?_cons_zero, List.getElem?_cons_succ, List.set_cons_zero, List.set_cons_succ, Option.some.injEq, V.int.injEq, V.ref.injEq, V.bl.injEq, V.ty.injEq, V.str.injEq, List.cons.injEq, List.append_nil, List.cons_append, List.nil_append, exists_eq, exists_eq', exists_eq_left, exists_eq_left', exists_and_left, exists_and_right, and_assoc, true_and, and_true, ↓reduceIte]
      refine ⟨_, S.seq (.of (hx.row i r _ hr' e2)), fun l hl => ?_⟩
      have S3 : Same H2 (upd H2 l (.tup ((d.worths[i]).map V.int))) := Same.upd (Same.refl _) hl
      refine ⟨S.trans S3, gs ++ [l], by simp, ?_⟩
      rw [List.take_add_one, e2]
      exact (ty.mono S3).snoc upd_same
    · rintro ys H2 ⟨S, gs, rfl, ty⟩ l hl
      rw [List.length_map, hx.len, List.take_length] at ty
      have S3 : Same H2 (upd H2 l (.lst (gs.map V.ref))) := Same.upd (Same.refl _) hl
      refine ⟨_, .of upd_same, fun l1 hl1 => ?_⟩
      generalize upd H2 l (.lst (gs.map V.ref)) = H3 at *
      have S4 : Same H3 (upd H3 l1 (.tup (gs.map V.ref))) := Same.upd (Same.refl _) hl1
      have h4 : upd H3 l1 (.tup (gs.map V.ref)) l1 = some (.tup (gs.map V.ref)) := upd_same
      generalize upd H3 l1 (.tup (gs.map V.ref)) = H4 at *
      have S24 := S.trans (S3.trans S4)
      refine ⟨x, d, rfl, hx.mono S24, x, d, rfl, hx.mono S24, x.w, rfl, _, .of (hx.mono S24).words, fun l2 hl2 => ⟨by decide, fun p hp => ?_⟩⟩
      have S5 : Same H4 (upd H4 l2 (.tup (d.words.map V.str))) := Same.upd (Same.refl _) hl2
      have h5 : upd H4 l2 (.tup (d.words.map V.str)) l2 = some (.tup (d.words.map V.str)) := upd_same
      generalize upd H4 l2 (.tup (d.words.map V.str)) = H5 at *
      have S6 : Same H5 (upd H5 p (.tup [V.str d.name, V.ref l2, V.ref l1])) := Same.upd (Same.refl _) hp
      exact q _ p l2 l1 gs (S24.trans (S5.trans S6)) ⟨upd_same, S6 _ _ h5, (S5.trans S6) _ _ h4, ty.len, fun i r ns e1 e2 => (S3.trans (S4.trans (S5.trans S6))) _ _ (ty.at' i r ns e1 e2)⟩
theorem h_house_of (B : Bt mg) (C : Ct K mg a) (f_makes_house : FnAt P w K mg base "makes_house" 6 ["outcomes", "hands"] qMakes) (f_kept_hand : FnAt P w K mg base "kept_hand" 2 ["hand"] qKeptH) (D : DefIn K mg "house_of" s_house_of ["outcomes", "hands"]) : FnAtX P w K mg base "house_of" 7 ["outcomes", "hands"] spHouseH := by
  refine FnAtX.of D sc_house_of (fun vs H Q E h => ?_) (fun f cdv A outer s H vs Q E hr h => ?_)
  · obtain ⟨o, b, outs, xs, ds, rfl, _⟩ := h
    rfl
  · obtain ⟨o, b, outs, xs, ds, rfl, ho, hh, g, q⟩ := h
    refine ⟨_, (@pss_cons _ _ _ _ _ (@ps_if _ _ _ _ _ _ _ _ (@pt_not _ _ _ _ (pt_val (pe_callA f_makes_house (hr.mono (by decide)) rfl (pa_cons (pv 0) (pa_cons (pv 1) (@pa_nil _)))))) (@pss_one _ _ _ (ps_raise rfl C.q_NoHouse.toErr rfl C.m_NoHouse (raises_body rfl) (pa_cons (@pe_str _ _ _ _) (@pa_nil _)))) (@pss_nil _)) (@pss_one _ _ _ (PS.nox (@ps_ret _ _ _ _ (@pe_tup _ _ _ _ _ (pa_cons (pe_callTy call_tupL rfl B.tuple bt_tuple (pa_cons (pv 0) (@pa_nil _))) (pa_cons (pe_callTy call_tupL rfl B.tuple bt_tuple (pa_cons (pe_comp ["hand"] ["outcomes", "hands"] rfl (@pi_list _ _ _ _ (pv 1)) (fun _ => (pg_name (i := 0) (show (["hand", "outcomes", "hands"] : List Str).Nodup by decide +kernel) rfl (Or.inl rfl))) (fun _ => (@pts_nil _)) (fun _ => (pe_callA f_kept_hand (hr.mono (by decide)) rfl (pa_cons (pv 0) (@pa_nil _)))) rfl (by decide +kernel) rfl rfl) (@pa_nil _))) (@pa_nil _)))))))), ?_⟩
    rw [show start ["outcomes", "hands"] [V.ref o, V.ref b] = [some (V.ref o), some (V.ref b)] from rfl]
    simp only [runs1, List.length_cons, List.length_nil, Nat.zero_add, List.replicate_succ, List.replicate_zero, List.drop_succ_cons, List.drop_zero, Int.zero_add, List.getElem?_cons_zero, List.getElem?_cons_succ, List.set_cons_zero, List.set_cons_succ, Option.some.injEq, V.int.injEq, V.ref.injEq, V.bl.injEq, V.ty.injEq, V.str.injEq, List.cons.injEq, List.append_nil, List.cons_append, List.nil_append, exists_eq, exists_eq', exists_eq_left, exists_eq_left', exists_and_left, exists_and_right, and_assoc, true_and, and_true, ↓reduceIte]
    have g2 := g.hands
    refine ⟨o, b, outs, xs, ds, rfl, ho, hh, g, fun H1 S1 => ?_⟩
    simp only [runs1, List.length_cons, List.length_nil, Nat.zero_add, List.replicate_succ, List.replicate_zero, List.drop_succ_cons, List.drop_zero, Int.zero_add, List.getElem?_cons_zero, List.getElem?_cons_succ, List.set_cons_zero, List.set_cons_succ, Option.some.injEq, V.int.injEq, V.ref.injEq, V.bl.injEq, V.ty.injEq, V.str.injEq, List.cons.injEq, List.append_nil, List.cons_append, List.nil_append, exists_eq, exists_eq', exists_eq_left, exists_eq_left', exists_and_left, exists_and_right, and_assoc, true_and, and_true, ↓reduceIte]
    have hh1 := hh.mono S1
    have ho1 := S1 _ _ ho
    refine iteF ⟨_, .of ho1, fun l hl => ?_⟩
    have S2 : Same H1 (upd H1 l (.tup (outs.map V.str))) := Same.upd (Same.refl _) hl
    have h2 : upd H1 l (.tup (outs.map V.str)) l = some (.tup (outs.map V.str)) := upd_same
    generalize upd H1 l (.tup (outs.map V.str)) = H2 at *
    have hh2 := hh1.mono S2
    refine ⟨⟨_, .of hh2.at'⟩, fun d => ?_⟩
    refine comp_list (xs := xs.map fun x => V.ref x.t) (PvDH ds H2) ⟨Same.refl _, [], rfl, rfl, fun i t d e => by simp at e⟩ ?_ ?_ ?_
    · rintro i ys H3 hi ⟨S, hs, rfl, ty⟩
      rw [List.length_map, hh.len] at hi
      have ly : hs.length = i := by rw [ty.1, List.length_take]; omega
      exact ⟨by rw [List.length_map, ly]; exact Nat.le_trans hi (Nat.le_trans g2.2 (by decide)), S.seq (.of hh2.at')⟩
    · rintro i y ys H3 hy ⟨S, hs, rfl, ty⟩
      rw [List.getElem?_map] at hy
      obtain ⟨x, hx⟩ : ∃ y, xs[i]? = some y := by
        cases e : xs[i]? with
        | none => rw [e] at hy; cases hy
        | some y => exact ⟨y, rfl⟩
      rw [hx] at hy
      cases hy
      have hi : i < ds.length := by have := (List.getElem?_eq_some_iff.mp hx).1; have := hh.len; omega
      have e2 : ds[i]? = some ds[i] := by simp [hi]
      have hm := List.getElem_mem hi
      have r8 : (ds[i]).worths.length ≤ 8 := by rw [g.rows _ hm]; exact (g.words1 _ hm).2
      simp only [runs1, List.length_cons, List.length_nil, Nat.zero_add, List.replicate_succ, List.replicate_zero, List.drop_succ_cons, List.drop_zero, Int.zero_add, List.getElem?_cons_zero, List.getElem?_cons_succ, List.set_cons_zero, List.set_cons_succ, Option.some.injEq, V.int.injEq, V.ref.injEq, V.bl.injEq, V.ty.injEq, V.str.injEq, List.cons.injEq, List.append_nil, List.cons_append, List.nil_append, exists_eq, exists_eq', exists_eq_left, exists_eq_left', exists_and_left, exists_and_right, and_assoc, true_and, and_true, ↓reduceIte]
      refine ⟨x, ds[i], rfl, (hh2.hand i x ds[i] hx e2).mono S, r8, fun H4 p wd g' gs S4 tp => ?_⟩
      refine ⟨S.trans S4, hs ++ [p], by simp, ?_⟩
      rw [List.take_add_one, e2]
      exact (ty.mono S4).snoc tp
    · rintro ys H3 ⟨S, hs, rfl, ty⟩ l1 hl1
      rw [List.length_map, hh.len, List.take_length] at ty
      have S4 : Same H3 (upd H3 l1 (.lst (hs.map V.ref))) := Same.upd (Same.refl _) hl1
      refine ⟨_, .of upd_same, fun l2 hl2 => ⟨by decide, fun p hp => ?_⟩⟩
      generalize upd H3 l1 (.lst (hs.map V.ref)) = H4 at *
      have S5 : Same H4 (upd H4 l2 (.tup (hs.map V.ref))) := Same.upd (Same.refl _) hl2
      have h5 : upd H4 l2 (.tup (hs.map V.ref)) l2 = some (.tup (hs.map V.ref)) := upd_same
      generalize upd H4 l2 (.tup (hs.map V.ref)) = H5 at *
      have S6 : Same H5 (upd H5 p (.tup [V.ref l, V.ref l2])) := Same.upd (Same.refl _) hp
      have S36 := S4.trans (S5.trans S6)
      exact q _ p l l2 hs (S1.trans (S2.trans (S.trans S36))) ⟨upd_same, (S.trans S36) _ _ h2, S6 _ _ h5, ty.mono S36⟩
end

/-! C.k_NoRule_TrueError C.s_NoRule_NoRule -/
theorem atI_neg {α : Type} {xs : List α} {k : Nat} {x : α} (h1 : 1 ≤ k) (h2 : k ≤ xs.length) (h : xs[xs.length - k]? = some x) : atI xs (-(k : Int)) = some x := by
  unfold atI ixN
  rw [if_neg (by omega), if_pos (by omega)]
  show xs[(-(k : Int) + xs.length).toNat]? = some x
  rw [show (-(k : Int) + xs.length).toNat = xs.length - k by omega]
  exact h
theorem cutV_neg {xs : List V} {k : Nat} (h1 : 1 ≤ k) (h2 : k ≤ xs.length) : cutV xs none (some (-(k : Int))) = xs.take (xs.length - k) := by
  have e : HT.sIx xs.length xs.length (some (-(k : Int))) = xs.length - k := by
    show (if (-(k : Int)) < 0 then ((-(k : Int)) + (xs.length : Int)).toNat else min (-(k : Int)).toNat xs.length) = _
    rw [if_pos (by omega)]
    omega
  unfold cutV
  rw [HT.sIx_none, e]
  simp
theorem idxOf_le : ∀ {zs : List Str} {m : Nat} {z : Str}, zs[m]? = some z → zs.idxOf z ≤ m
  | [], m, z, h => by simp at h
  | y :: zs, 0, z, h => by
    simp at h
    subst h
    simp
  | y :: zs, m + 1, z, h => by
    rw [List.idxOf_cons]
    cases y == z with
    | true => exact Nat.zero_le _
    | false => exact Nat.succ_le_succ (idxOf_le (by simpa using h))
theorem eqV_str (y z : Str) : eqV (V.str y) (V.str z) = decide (y = z) := rfl
theorem first_str {zs : List Str} {z : Str} (h : z ∈ zs) : FirstAt (zs.map V.str) (V.str z) (zs.idxOf z) := by
  have hl := List.idxOf_lt_length_iff.mpr h
  refine ⟨rfl, ?_, ⟨V.str z, ?_, ?_⟩, fun m y hm e => ?_⟩
  · rw [List.all_eq_true]
    intro x hx
    obtain ⟨y, _, rfl⟩ := List.mem_map.mp hx
    rfl
  · rw [List.getElem?_map, List.getElem?_eq_getElem hl, List.getElem_idxOf]
    rfl
  · rw [eqV_str]
    exact decide_eq_true rfl
  · rw [List.getElem?_map] at e
    have hml : m < zs.length := by omega
    rw [List.getElem?_eq_getElem hml] at e
    cases e
    rw [eqV_str, decide_eq_false]
    intro ez
    have := List.idxOf_lt_length_iff.mpr h
    have hle : zs.idxOf z ≤ m := by
      exact idxOf_le (by rw [List.getElem?_eq_getElem hml, ez])
    omega
section
variable {P : Program} {w : World} {K : PySem.W.Frag} {mg : Str → Option Value} {base : Heap} {a : Ad}
theorem g_outcomes_of (D : DefIn K mg "outcomes_of" s_outcomes_of ["house"]) : FnAt P w K mg base "outcomes_of" 1 ["house"] (qItem K 0) := by
  refine FnAt.of D sc_outcomes_of (fun vs H Q E h => ?_) (fun f cdv A outer s H vs Q E hr h => ?_)
  · obtain ⟨t, us, v, rfl, _⟩ := h
    rfl
  · obtain ⟨t, us, v, rfl, ht, e, q⟩ := h
    refine ⟨_, (@pss_one _ _ _ (@ps_ret _ _ _ _ (@pe_ix _ _ _ _ _ _ _ ix_tup (pv 0) (@pe_int _ _ _ _) (fun _ _ => rfl)))), ?_⟩
    rw [show start ["house"] [V.ref t] = [some (V.ref t)] from rfl]
    simp only [runs1, List.length_cons, List.length_nil, Nat.zero_add, List.replicate_succ, List.replicate_zero, List.drop_succ_cons, List.drop_zero, Int.zero_add, List.getElem?_cons_zero, List.getElem?_cons_succ, List.set_cons_zero, List.set_cons_succ, Option.some.injEq, V.int.injEq, V.ref.injEq, V.bl.injEq, V.ty.injEq, V.str.injEq, List.cons.injEq, List.append_nil, List.cons_append, List.nil_append, exists_eq, exists_eq', exists_eq_left, exists_eq_left', exists_and_left, exists_and_right, and_assoc, true_and, and_true, ↓reduceIte]
    exact ⟨_, ht, _, atI_nat (j := 0) e, q⟩
end

/-! ### rules read -/
def fig (n : Nat) : Str := chr1 (48 + n)
def nmAt (ds : List HD) (k : Nat) : Str := (ds.map HD.name).getD k ⟨#[]⟩
def wd (ds : List HD) : Cd → List Str
  | .says k w => [Str.ofString "says", nmAt ds k, w]
  | .count n w => [Str.ofString "count", fig n, w]
  | .no c => Str.ofString "not" :: wd ds c
  | .an c d => Str.ofString "and" :: (wd ds c ++ wd ds d)
  | .orr c d => Str.ofString "or" :: (wd ds c ++ wd ds d)
def okc (ct : Prop) (ds : List HD) : Cd → Prop
  | .says k w => ∃ d, ds[k]? = some d ∧ w ∈ d.words
  | .count n w => ct ∧ 1 ≤ n ∧ n ≤ 4 ∧ ∃ d ∈ ds, w ∈ d.words
  | .no c => okc ct ds c
  | .an c d => okc ct ds c ∧ okc ct ds d
  | .orr c d => okc ct ds c ∧ okc ct ds d
theorem get_of_drop {α : Type} {ws : List α} {pl : Nat} {x : α} {r : List α} (h : ws.drop pl = x :: r) : ws[pl]? = some x := by
  have := congrArg (fun l => l[0]?) h
  simpa [List.getElem?_drop] using this
theorem drop_of_drop {α : Type} {ws : List α} {pl : Nat} {x : α} {r : List α} (h : ws.drop pl = x :: r) : ws.drop (pl + 1) = r := by
  rw [← List.drop_drop, h]; rfl
def spWordAt : Sp := fun vs H Q _ => ∃ (l : Addr) (ws : List Str) (p : Nat) (w : Str), vs = [.ref l, .int p] ∧ H l = some (.lst (ws.map V.str)) ∧ ws[p]? = some w ∧ Q (.str w) H
def spNamesT : Sp := fun vs H Q _ => ∃ (h : Addr) (hs : List Addr) (ds : List HD), vs = [.ref h] ∧ H h = some (.tup (hs.map V.ref)) ∧ HHands H hs ds ∧ ds.length ≤ 4 ∧ ∀ l, H l = none → Q (.ref l) (upd H l (.lst ((ds.map HD.name).map V.str)))
def spSays : Sp := fun vs H Q _ => ∃ (p o h : Addr) (hs : List Addr) (outs : List Str) (ds : List HD) (k : Nat) (d : HD) (w : Str), vs = [.ref p, .str d.name, .str w] ∧ HHouse H p o h hs outs ds ∧ GoodHouse outs ds ∧ ds[k]? = some d ∧ w ∈ d.words ∧ ∀ H' t, Same H H' → H' t = some (.tup [.str (Str.ofString "says"), .int k, .str w]) → Q (.ref t) H'
def spCount (ct : Prop) : Sp := fun vs H Q _ => ∃ (p o h : Addr) (hs : List Addr) (outs : List Str) (ds : List HD) (n : Nat) (w : Str), vs = [.ref p, .str (fig n), .str w] ∧ ct ∧ HHouse H p o h hs outs ds ∧ GoodHouse outs ds ∧ 1 ≤ n ∧ n ≤ 4 ∧ (∃ d ∈ ds, w ∈ d.words) ∧ ∀ H' t, Same H H' → H' t = some (.tup [.str (Str.ofString "count"), .int n, .str w]) → Q (.ref t) H'
def spCond (ct : Prop) (dm : Nat) : Sp := fun vs H Q _ => ∃ (p o h l : Addr) (hs : List Addr) (outs : List Str) (ds : List HD) (ws : List Str) (pl : Nat) (c : Cd) (rest : List Str), vs = [.ref p, .ref l, .int pl] ∧ HHouse H p o h hs outs ds ∧ GoodHouse outs ds ∧ H l = some (.lst (ws.map V.str)) ∧ ws.drop pl = wd ds c ++ rest ∧ okc ct ds c ∧ dep c < dm ∧
  ∀ H' t x, Same H H' → H' t = some (.tup [x, .int ((pl + (wd ds c).length : Nat) : Int)]) → CondAt H' c x → Q (.ref t) H'
def spDeal : Sp := fun vs H Q _ => ∃ (p o h l : Addr) (hs : List Addr) (outs : List Str) (ds : List HD) (z : Str), vs = [.ref p, .ref l] ∧ HHouse H p o h hs outs ds ∧ H l = some (.lst [.str (Str.ofString "deal"), .str z]) ∧ z ∈ outs ∧ Q (.str z) H
def clW (ds : List HD) (c : Cd × Str) : List Str := Str.ofString "when" :: (wd ds c.1 ++ [Str.ofString "deal", c.2])
def spClauseR (ct : Prop) : Sp := fun vs H Q _ => ∃ (p o h l : Addr) (hs : List Addr) (outs : List Str) (ds : List HD) (c : Cd × Str), vs = [.ref p, .ref l] ∧ HHouse H p o h hs outs ds ∧ GoodHouse outs ds ∧ H l = some (.lst ((clW ds c).map V.str)) ∧ okc ct ds c.1 ∧ dep c.1 < 40 ∧ c.2 ∈ outs ∧ (clW ds c).length ≤ 60 ∧
  ∀ H' t x, Same H H' → H' t = some (.tup [x, .str c.2]) → CondAt H' c.1 x → Q (.ref t) H'
structure TextOf (z : Str) (css : List (List Str)) : Prop where
  eq : z = Str.join (Str.ofString "; ") (css.map (Str.join (Str.ofString " ")))
  ne : css ≠ []
  cne : ∀ cs ∈ css, cs ≠ []
  free : ∀ cs ∈ css, ∀ w ∈ cs, 32 ∉ w.cps.toList ∧ 59 ∉ w.cps.toList
  few : css.length ≤ 40
  wide : ∀ cs ∈ css, cs.length ≤ 60
  len : z.length ≤ sizeLine
theorem join_cons2 (y p q : Str) (ps : List Str) : Str.join y (p :: q :: ps) = p ++ y ++ Str.join y (q :: ps) := rfl
theorem join_free {y : Str} {c : Nat} (hy : c ∉ y.cps.toList) : ∀ {ps : List Str}, (∀ p ∈ ps, c ∉ p.cps.toList) → c ∉ (Str.join y ps).cps.toList
  | [], _ => by intro z; cases z
  | [p], h => h p List.mem_cons_self
  | p :: q :: ps, h => by
    rw [join_cons2]
    simp only [Str.cps_append, Array.toList_append, List.mem_append, not_or]
    exact ⟨⟨h p List.mem_cons_self, hy⟩, join_free hy fun z hz => h z (List.mem_cons_of_mem _ hz)⟩
theorem join_len_mem {y : Str} : ∀ {ps : List Str} {p : Str}, p ∈ ps → p.length ≤ (Str.join y ps).length
  | [q], p, h => by rw [List.mem_singleton.mp h]; exact Nat.le_refl _
  | q :: r :: ps, p, h => by
    rw [join_cons2, Str.length_append, Str.length_append]
    rcases List.mem_cons.mp h with e | e
    · rw [e]; omega
    · have := join_len_mem (y := y) e
      omega
theorem TextOf.split1 {z : Str} {css : List (List Str)} (T : TextOf z css) : Txt.split z (Str.ofString "; ") = css.map (Str.join (Str.ofString " ")) := by
  rw [T.eq]
  refine split_join (c := 59) (r := [32]) (by decide +kernel) (by decide +kernel) (by simpa using T.ne) fun p hp => ?_
  obtain ⟨cs, hcs, rfl⟩ := List.mem_map.mp hp
  exact join_free (by decide +kernel) fun w hw => (T.free cs hcs w hw).2
theorem TextOf.split2 {z : Str} {css : List (List Str)} (T : TextOf z css) {cs : List Str} (h : cs ∈ css) : Txt.split (Str.join (Str.ofString " ") cs) (Str.ofString " ") = cs :=
  split_join (c := 32) (r := []) (by decide +kernel) (by decide +kernel) (T.cne cs h) fun w hw => (T.free cs h w hw).1
structure WordsAt (H : Hp) (l : Addr) (ls : List Addr) (css : List (List Str)) : Prop where
  at' : H l = some (.lst (ls.map V.ref))
  len : ls.length = css.length
  row : ∀ (i : Nat) (b : Addr) (cs : List Str), ls[i]? = some b → css[i]? = some cs → H b = some (.lst (cs.map V.str))
theorem WordsAt.mono {H H' : Hp} {l : Addr} {ls : List Addr} {css : List (List Str)} (S : Same H H') (h : WordsAt H l ls css) : WordsAt H' l ls css := ⟨S _ _ h.at', h.len, fun i b cs e1 e2 => S _ _ (h.row i b cs e1 e2)⟩
def fine (css : List (List Str)) : Prop := css.length ≤ 20 ∧ ∀ cs ∈ css, cs.length ≤ 40
def spClausesIn (a : Ad) : Sp := fun vs H Q E => ∃ (z : Str) (css : List (List Str)), vs = [.str z] ∧ TextOf z css ∧ (fine css → ∀ H' l ls, Same H H' → WordsAt H' l ls css → Q (.ref l) H') ∧ (¬ fine css → ∀ H', Same H H' → E (.ref a.NoRule) none H')
def PvSp (H : Hp) (css : List (List Str)) (i : Nat) (ys : List V) (H' : Hp) : Prop := Same H H' ∧ ∃ ls : List Addr, ys = ls.map V.ref ∧ ls.length = i ∧ ∀ (j : Nat) (b : Addr) (cs : List Str), ls[j]? = some b → css[j]? = some cs → H' b = some (.lst (cs.map V.str))
def PvLn (H : Hp) (css : List (List Str)) (i : Nat) (ys : List V) (H' : Hp) : Prop := H' = H ∧ ys = ((css.take i).map fun cs => (cs.length : Int)).map V.int
def rlW (ds : List HD) (cls : List (Cd × Str)) (z : Str) : List (List Str) := cls.map (clW ds) ++ [[Str.ofString "deal", z]]
def spReadRule (a : Ad) (ct : Prop) : Sp := fun vs H Q E => ∃ (p o h : Addr) (hs : List Addr) (outs : List Str) (ds : List HD) (t : Str) (cls : List (Cd × Str)) (z : Str), vs = [.ref p, .str t] ∧ HHouse H p o h hs outs ds ∧ GoodHouse outs ds ∧ TextOf t (rlW ds cls z) ∧ (∀ c ∈ cls, okc ct ds c.1 ∧ dep c.1 < 40 ∧ c.2 ∈ outs) ∧ z ∈ outs ∧
  (fine (rlW ds cls z) → ∀ (H' : Hp) (l : Addr) (rl : List (Addr × Cd × Str)) (tz : Addr), Same H H' → H l = none → H' l = some (.lst ((rl.map fun r => V.ref r.1) ++ [.ref tz])) → H' tz = some (.tup [.non, .str z]) → rl.map (fun r => r.2) = cls → (∀ r ∈ rl, ∃ x, H' r.1 = some (.tup [x, .str r.2.2]) ∧ CondAt H' r.2.1 x) → Q (.ref l) H') ∧
  (¬ fine (rlW ds cls z) → ∀ H', Same H H' → E (.ref a.NoRule) none H')
def PvRd (H : Hp) (cls : List (Cd × Str)) (i : Nat) (ys : List V) (H' : Hp) : Prop := Same H H' ∧ ∃ rl : List (Addr × Cd × Str), ys = rl.map (fun r => V.ref r.1) ∧ rl.map (fun r => r.2) = cls.take i ∧ ∀ r ∈ rl, ∃ x, H' r.1 = some (.tup [x, .str r.2.2]) ∧ CondAt H' r.2.1 x
theorem cutV_from {xs : List V} {k : Nat} (h : k ≤ xs.length) : cutV xs (some (k : Int)) none = xs.drop k := by
  unfold cutV
  rw [HT.sIx_none, HT.sIx_nat, Nat.min_eq_left h]
  exact List.take_of_length_le (by rw [List.length_drop]; omega)
theorem in_strs {ws : List Str} {w : Str} (h : w ∈ ws) : inV (V.str w) (ws.map V.str) = true := by
  unfold inV
  rw [List.any_eq_true]
  exact ⟨V.str w, List.mem_map.mpr ⟨w, h, rfl⟩, decide_eq_true rfl⟩
section
variable {P : Program} {w : World} {K : PySem.W.Frag} {mg : Str → Option Value} {base : Heap} {a : Ad} {ct : Prop}
set_option maxHeartbeats 4000000
theorem g_name_of (D : DefIn K mg "name_of" s_name_of ["hand"]) : FnAt P w K mg base "name_of" 1 ["hand"] (qItem K 0) := by
  refine FnAt.of D sc_name_of (fun vs H Q E h => ?_) (fun f cdv A outer s H vs Q E hr h => ?_)
  · obtain ⟨t, us, v, rfl, _⟩ := h
    rfl
  · obtain ⟨t, us, v, rfl, ht, e, q⟩ := h
    refine ⟨_, (@pss_one _ _ _ (@ps_ret _ _ _ _ (@pe_ix _ _ _ _ _ _ _ ix_tup (pv 0) (@pe_int _ _ _ _) (fun _ _ => rfl)))), ?_⟩
    rw [show start ["hand"] [V.ref t] = [some (V.ref t)] from rfl]
    simp only [runs1, List.length_cons, List.length_nil, Nat.zero_add, List.replicate_succ, List.replicate_zero, List.drop_succ_cons, List.drop_zero, Int.zero_add, List.getElem?_cons_zero, List.getElem?_cons_succ, List.set_cons_zero, List.set_cons_succ, Option.some.injEq, V.int.injEq, V.ref.injEq, V.bl.injEq, V.ty.injEq, V.str.injEq, List.cons.injEq, List.append_nil, List.cons_append, List.nil_append, exists_eq, exists_eq', exists_eq_left, exists_eq_left', exists_and_left, exists_and_right, and_assoc, true_and, and_true, ↓reduceIte]
    exact ⟨_, ht, _, atI_nat (j := 0) e, q⟩
theorem f_condition_of (D : DefIn K mg "condition_of" s_condition_of ["told"]) : FnAt P w K mg base "condition_of" 1 ["told"] (qItem K 0) := by
  refine FnAt.of D sc_condition_of (fun vs H Q E h => ?_) (fun f cdv A outer s H vs Q E hr h => ?_)
  · obtain ⟨t, us, v, rfl, _⟩ := h
    rfl
  · obtain ⟨t, us, v, rfl, ht, e, q⟩ := h
    refine ⟨_, (@pss_one _ _ _ (@ps_ret _ _ _ _ (@pe_ix _ _ _ _ _ _ _ ix_tup (pv 0) (@pe_int _ _ _ _) (fun _ _ => rfl)))), ?_⟩
    rw [show start ["told"] [V.ref t] = [some (V.ref t)] from rfl]
    simp only [runs1, List.length_cons, List.length_nil, Nat.zero_add, List.replicate_succ, List.replicate_zero, List.drop_succ_cons, List.drop_zero, Int.zero_add, List.getElem?_cons_zero, List.getElem?_cons_succ, List.set_cons_zero, List.set_cons_succ, Option.some.injEq, V.int.injEq, V.ref.injEq, V.bl.injEq, V.ty.injEq, V.str.injEq, List.cons.injEq, List.append_nil, List.cons_append, List.nil_append, exists_eq, exists_eq', exists_eq_left, exists_eq_left', exists_and_left, exists_and_right, and_assoc, true_and, and_true, ↓reduceIte]
    exact ⟨_, ht, _, atI_nat (j := 0) e, q⟩
theorem f_place_of (D : DefIn K mg "place_of" s_place_of ["told"]) : FnAt P w K mg base "place_of" 1 ["told"] (qItem K 1) := by
  refine FnAt.of D sc_place_of (fun vs H Q E h => ?_) (fun f cdv A outer s H vs Q E hr h => ?_)
  · obtain ⟨t, us, v, rfl, _⟩ := h
    rfl
  · obtain ⟨t, us, v, rfl, ht, e, q⟩ := h
    refine ⟨_, (@pss_one _ _ _ (@ps_ret _ _ _ _ (@pe_ix _ _ _ _ _ _ _ ix_tup (pv 0) (@pe_int _ _ _ _) (fun _ _ => rfl)))), ?_⟩
    rw [show start ["told"] [V.ref t] = [some (V.ref t)] from rfl]
    simp only [runs1, List.length_cons, List.length_nil, Nat.zero_add, List.replicate_succ, List.replicate_zero, List.drop_succ_cons, List.drop_zero, Int.zero_add, List.getElem?_cons_zero, List.getElem?_cons_succ, List.set_cons_zero, List.set_cons_succ, Option.some.injEq, V.int.injEq, V.ref.injEq, V.bl.injEq, V.ty.injEq, V.str.injEq, List.cons.injEq, List.append_nil, List.cons_append, List.nil_append, exists_eq, exists_eq', exists_eq_left, exists_eq_left', exists_and_left, exists_and_right, and_assoc, true_and, and_true, ↓reduceIte]
    exact ⟨_, ht, _, atI_nat (j := 1) e, q⟩
theorem f_word_at (B : Bt mg) (C : Ct K mg a) (D : DefIn K mg "word_at" s_word_at ["words", "place"]) : FnAtX P w K mg base "word_at" 1 ["words", "place"] spWordAt := by
  refine FnAtX.of D sc_word_at (fun vs H Q E h => ?_) (fun f cdv A outer s H vs Q E hr h => ?_)
  · obtain ⟨l, ws, p, z, rfl, _⟩ := h
    rfl
  · obtain ⟨l, ws, p, z, rfl, hl, hz, q⟩ := h
    refine ⟨_, (@pss_cons _ _ _ _ _ (@ps_if _ _ _ _ _ _ _ _ (@pt_cmpR _ _ _ _ _ _ _ _ op_ge (pv 1) (pe_callB call_len_seq rfl B.len bt_len (pa_cons (pv 0) (@pa_nil _))) (nomark _)) (@pss_one _ _ _ (ps_raise rfl C.q_NoRule.toErr rfl C.m_NoRule (raises_body rfl) (pa_cons (@pe_str _ _ _ _) (@pa_nil _)))) (@pss_nil _)) (@pss_one _ _ _ (PS.nox (@ps_ret _ _ _ _ (@pe_ix _ _ _ _ _ _ _ ix_list (pv 0) (pv 1) (fun _ _ => rfl)))))), ?_⟩
    rw [show start ["words", "place"] [V.ref l, V.int p] = [some (V.ref l), some (V.int p)] from rfl]
    simp only [runs1, List.length_cons, List.length_nil, Nat.zero_add, List.replicate_succ, List.replicate_zero, List.drop_succ_cons, List.drop_zero, Int.zero_add, List.getElem?_cons_zero, List.getElem?_cons_succ, List.set_cons_zero, List.set_cons_succ, Option.some.injEq, V.int.injEq, V.ref.injEq, V.bl.injEq, V.ty.injEq, V.str.injEq, List.cons.injEq, List.append_nil, List.cons_append, List.nil_append, exists_eq, exists_eq', exists_eq_left, exists_eq_left', exists_and_left, exists_and_right, and_assoc, true_and, and_true, ↓reduceIte]
    have hp := (List.getElem?_eq_some_iff.mp hz).1
    refine ⟨_, .inl (.of hl), ite2 (fun y => ?_) (fun _ => ⟨_, .of hl, _, atI_nat (j := p) (by rw [List.getElem?_map, hz]; rfl), q⟩)⟩
    have := of_decide_eq_true y
    rw [List.length_map] at this
    omega
theorem g_names_of (f_name_of : FnAt P w K mg base "name_of" 1 ["hand"] (qItem K 0)) (D : DefIn K mg "names_of" s_names_of ["hands"]) : FnAt P w K mg base "names_of" 2 ["hands"] spNamesT := by
  refine FnAt.of D sc_names_of (fun vs H Q E h => ?_) (fun f cdv A outer s H vs Q E hr h => ?_)
  · obtain ⟨h, hs, ds, rfl, _⟩ := h
    rfl
  · obtain ⟨h, hs, ds, rfl, hh, hH, g4, q⟩ := h
    refine ⟨_, (@pss_one _ _ _ (@ps_ret _ _ _ _ (pe_comp ["hand"] ["hands"] rfl (@pi_seq _ _ _ _ (pv 0)) (fun _ => (pg_name (i := 0) (show (["hand", "hands"] : List Str).Nodup by decide +kernel) rfl (Or.inl rfl))) (fun _ => (@pts_nil _)) (fun _ => (pe_callA f_name_of (hr.mono (by decide)) rfl (pa_cons (pv 0) (@pa_nil _)))) rfl (by decide +kernel) rfl rfl))), ?_⟩
    rw [show start ["hands"] [V.ref h] = [some (V.ref h)] from rfl]
    simp only [runs1, List.length_cons, List.length_nil, Nat.zero_add, List.replicate_succ, List.replicate_zero, List.drop_succ_cons, List.drop_zero, Int.zero_add, List.getElem?_cons_zero, List.getElem?_cons_succ, List.set_cons_zero, List.set_cons_succ, Option.some.injEq, V.int.injEq, V.ref.injEq, V.bl.injEq, V.ty.injEq, V.str.injEq, List.cons.injEq, List.append_nil, List.cons_append, List.nil_append, exists_eq, exists_eq', exists_eq_left, exists_eq_left', exists_and_left, exists_and_right, and_assoc, true_and, and_true, ↓reduceIte]
    refine .inr ⟨⟨_, .of hh⟩, fun d2 => ?_⟩
    refine comp_tup (xs := hs.map V.ref) (PvNm H ds) ⟨rfl, rfl⟩ ?_ ?_ ?_
    · rintro i ys H4 hi ⟨rfl, rfl⟩
      refine ⟨?_, .of hh⟩
      rw [List.length_map, List.length_map, List.length_take]
      exact Nat.le_trans (Nat.min_le_right _ _) (Nat.le_trans g4 (by decide))
    · rintro i x ys H4 hx ⟨rfl, rfl⟩
      rw [List.getElem?_map] at hx
      obtain ⟨y, hy⟩ : ∃ y, hs[i]? = some y := by
        cases e : hs[i]? with
        | none => rw [e] at hx; cases hx
        | some y => exact ⟨y, rfl⟩
      rw [hy] at hx
      cases hx
      have hi : i < ds.length := by have := (List.getElem?_eq_some_iff.mp hy).1; have := hH.1; omega
      have e2 : ds[i]? = some ds[i] := by simp [hi]
      obtain ⟨wd', g', gs', hK⟩ := hH.2 i y _ hy e2
      simp only [runs1, List.length_cons, List.length_nil, Nat.zero_add, List.replicate_succ, List.replicate_zero, List.drop_succ_cons, List.drop_zero, Int.zero_add, List.getElem?_cons_zero, List.getElem?_cons_succ, List.set_cons_zero, List.set_cons_succ, Option.some.injEq, V.int.injEq, V.ref.injEq, V.bl.injEq, V.ty.injEq, V.str.injEq, List.cons.injEq, List.append_nil, List.cons_append, List.nil_append, exists_eq, exists_eq', exists_eq_left, exists_eq_left', exists_and_left, exists_and_right, and_assoc, true_and, and_true, ↓reduceIte]
      refine ⟨y, _, _, rfl, .of hK.tup, rfl, rfl, ?_⟩
      rw [List.take_add_one, e2, List.map_append, List.map_append]
      rfl
    · rintro ys H4 ⟨rfl, rfl⟩ l hl
      rw [List.length_map, hH.1, List.take_length]
      exact q l hl
theorem f_read_says (B : Bt mg) (C : Ct K mg a) (f_hands_of : FnAt P w K mg base "hands_of" 1 ["house"] (qItem K 1)) (f_names_of : FnAt P w K mg base "names_of" 2 ["hands"] spNamesT) (f_words_of_hand : FnAt P w K mg base "words_of_hand" 1 ["hand"] (qItem K 1)) (D : DefIn K mg "read_says" s_read_says ["house", "name", "word"]) : FnAtX P w K mg base "read_says" 3 ["house", "name", "word"] spSays := by
  refine FnAtX.of D sc_read_says (fun vs H Q E h => ?_) (fun f cdv A outer s H vs Q E hr h => ?_)
  · obtain ⟨p, o, h, hs, outs, ds, k, d, z, rfl, _⟩ := h
    rfl
  · obtain ⟨p, o, h, hs, outs, ds, k, d, z, rfl, hH, G, hk, hz, q⟩ := h
    refine ⟨_, (@pss_cons _ _ _ _ _ (PS.nox (ps_set (i := 3) sc_read_says.nd rfl (Or.inl rfl) (pe_callA f_names_of (hr.mono (by decide)) rfl (pa_cons (pe_callA f_hands_of (hr.mono (by decide)) rfl (pa_cons (pv 0) (@pa_nil _))) (@pa_nil _))))) (@pss_cons _ _ _ _ _ (@ps_if _ _ _ _ _ _ _ _ (@pt_cmpR _ _ _ _ _ _ _ _ op_notIn_seq (pv 1) (pv 3) (by with_unfolding_all rfl)) (@pss_one _ _ _ (ps_raise rfl C.q_NoRule.toErr rfl C.m_NoRule (raises_body rfl) (pa_cons (@pe_str _ _ _ _) (@pa_nil _)))) (@pss_nil _)) (@pss_cons _ _ _ _ _ (PS.nox (ps_set (i := 4) sc_read_says.nd rfl (Or.inl rfl) (pe_bm PySem.F.plainAttrs_list PySem.F.slot_list_index PySem.F.type_list_index mt_indexL (pv 3) (pa_cons (pv 1) (@pa_nil _))))) (@pss_cons _ _ _ _ _ (@ps_if _ _ _ _ _ _ _ _ (@pt_cmpR _ _ _ _ _ _ _ _ op_notIn_seq (pv 2) (pe_callA f_words_of_hand (hr.mono (by decide)) rfl (pa_cons (@pe_ix _ _ _ _ _ _ _ ix_tup (pe_callA f_hands_of (hr.mono (by decide)) rfl (pa_cons (pv 0) (@pa_nil _))) (pv 4) (fun _ _ => rfl)) (@pa_nil _))) (by with_unfolding_all rfl)) (@pss_one _ _ _ (ps_raise rfl C.q_NoRule.toErr rfl C.m_NoRule (raises_body rfl) (pa_cons (@pe_str _ _ _ _) (@pa_nil _)))) (@pss_nil _)) (@pss_one _ _ _ (PS.nox (@ps_ret _ _ _ _ (@pe_tup _ _ _ _ _ (pa_cons (@pe_str _ _ _ _) (pa_cons (pv 4) (pa_cons (pv 2) (@pa_nil _)))))))))))), ?_⟩
    rw [show start ["house", "name", "word", "names", "k"] [V.ref p, V.str d.name, V.str z] = [some (V.ref p), some (V.str d.name), some (V.str z), none, none] from rfl]
    simp only [runs1, List.length_cons, List.length_nil, Nat.zero_add, List.replicate_succ, List.replicate_zero, List.drop_succ_cons, List.drop_zero, Int.zero_add, List.getElem?_cons_zero, List.getElem?_cons_succ, List.set_cons_zero, List.set_cons_succ, Option.some.injEq, V.int.injEq, V.ref.injEq, V.bl.injEq, V.ty.injEq, V.str.injEq, List.cons.injEq, List.append_nil, List.cons_append, List.nil_append, exists_eq, exists_eq', exists_eq_left, exists_eq_left', exists_and_left, exists_and_right, and_assoc, true_and, and_true, ↓reduceIte]
    refine ⟨p, _, _, rfl, .of hH.tup, rfl, h, hs, ds, rfl, hH.hands, hH.hand, G.hands.2, fun l hl => ?_⟩
    have S1 : Same H (upd H l (.lst ((ds.map HD.name).map V.str))) := Same.upd (Same.refl _) hl
    have u1 : upd H l (.lst ((ds.map HD.name).map V.str)) l = some (.lst ((ds.map HD.name).map V.str)) := upd_same
    generalize upd H l (.lst ((ds.map HD.name).map V.str)) = H1 at *
    have hin : d.name ∈ ds.map HD.name := List.mem_map.mpr ⟨d, List.mem_of_getElem? hk, rfl⟩
    have hkn : (ds.map HD.name)[k]? = some d.name := by rw [List.getElem?_map, hk]; rfl
    have hix : (ds.map HD.name).idxOf d.name = k := by
      have h1 := List.idxOf_lt_length_iff.mpr hin
      have hk1 := (List.getElem?_eq_some_iff.mp hkn).1
      have h2 : (ds.map HD.name)[(ds.map HD.name).idxOf d.name] = (ds.map HD.name)[k] := by rw [List.getElem_idxOf, (List.getElem?_eq_some_iff.mp hkn).2]
      exact (List.getElem_inj G.handsD).mp h2
    have hf := first_str hin
    rw [hix] at hf
    have hH1 := hH.mono S1
    have hkl := (List.getElem?_eq_some_iff.mp hk).1
    have hks : k < hs.length := by rw [hH.hand.1]; exact hkl
    obtain ⟨wd', g', gs', hK⟩ := hH1.hand.2 k _ _ (List.getElem?_eq_getElem hks) hk
    refine ⟨l, rfl, _, .inl (.of u1), rfl, flat_strs _, ?_⟩
    rw [in_strs hin]
    refine iteF ⟨.inl ⟨rfl, _, .of u1⟩, l, rfl, _, .of u1, _, hf, p, _, _, rfl, .of hH1.tup, rfl, h, rfl, _, .of hH1.hands, _, atI_nat (j := k) (by rw [List.getElem?_map, List.getElem?_eq_getElem hks]; rfl), _, _, _, rfl, .of hK.tup, rfl, wd', rfl, _, .inr (.of hK.words), rfl, flat_strs _, ?_⟩
    rw [in_strs hz]
    exact iteF ⟨by decide, fun t ht => q _ t (S1.trans (Same.upd (Same.refl _) ht)) upd_same⟩
theorem n_read_count (D : DefIn K mg "read_count" s_read_count ["house", "figure", "word"]) : FnAtX P w K mg base "read_count" 3 ["house", "figure", "word"] (spCount False) := by
  refine FnAtX.of D sc_read_count (fun vs H Q E h => ?_) (fun f cdv A outer s H vs Q E hr h => ?_)
  · obtain ⟨_, _, _, _, _, _, _, _, _, z, _⟩ := h
    exact z.elim
  · obtain ⟨_, _, _, _, _, _, _, _, _, z, _⟩ := h
    exact z.elim
theorem f_read_condition (B : Bt mg) (C : Ct K mg a) (f_word_at : FnAtX P w K mg base "word_at" 1 ["words", "place"] spWordAt) (f_read_says : FnAtX P w K mg base "read_says" 3 ["house", "name", "word"] spSays) (f_read_count : FnAtX P w K mg base "read_count" 3 ["house", "figure", "word"] (spCount ct)) (f_condition_of : FnAt P w K mg base "condition_of" 1 ["told"] (qItem K 0)) (f_place_of : FnAt P w K mg base "place_of" 1 ["told"] (qItem K 1)) (D : DefIn K mg "read_condition" s_read_condition ["house", "words", "place"]) : ∀ dm, FnAtX P w K mg base "read_condition" (dm + 4) ["house", "words", "place"] (spCond ct dm)
  | 0 => by
    refine FnAtX.of D sc_read_condition (fun vs H Q E h => ?_) (fun f cdv A outer s H vs Q E hr h => ?_)
    · obtain ⟨p, o, h, l, hs, outs, ds, ws, pl, c, rest, rfl, _⟩ := h
      rfl
    · obtain ⟨p, o, h, l, hs, outs, ds, ws, pl, c, rest, rfl, _, _, _, _, _, z, _⟩ := h
      omega
  | dm + 1 => by
    have f_read_condition := f_read_condition B C f_word_at f_read_says f_read_count f_condition_of f_place_of D dm
    refine FnAtX.of D sc_read_condition (fun vs H Q E h => ?_) (fun f cdv A outer s H vs Q E hr h => ?_)
    · obtain ⟨p, o, h, l, hs, outs, ds, ws, pl, c, rest, rfl, _⟩ := h
      rfl
    · obtain ⟨p, o, h, l, hs, outs, ds, ws, pl, c, rest, rfl, hH, G, hl, hw, hc, hd, q⟩ := h
      refine ⟨_, (@pss_cons _ _ _ _ _ (ps_set (i := 3) sc_read_condition.nd rfl (Or.inl rfl) (pe_callX f_word_at (hr.mono (by omega)) (takes_body rfl) rfl (pa_cons (pv 1) (pa_cons (pv 2) (@pa_nil _))))) (@pss_cons _ _ _ _ _ (@ps_if _ _ _ _ _ _ _ _ (@pt_cmpR _ _ _ _ _ _ _ _ op_eq (pv 3) (@pe_str _ _ _ _) (nomark _)) (@pss_one _ _ _ (@ps_ret _ _ _ _ (@pe_tup _ _ _ _ _ (pa_cons (pe_callX f_read_says (hr.mono (by omega)) (takes_body rfl) rfl (pa_cons (pv 0) (pa_cons (pe_callX f_word_at (hr.mono (by omega)) (takes_body rfl) rfl (pa_cons (pv 1) (pa_cons (@pe_op _ _ _ _ _ _ _ _ op_add (pv 2) (@pe_int _ _ _ _)) (@pa_nil _)))) (pa_cons (pe_callX f_word_at (hr.mono (by omega)) (takes_body rfl) rfl (pa_cons (pv 1) (pa_cons (@pe_op _ _ _ _ _ _ _ _ op_add (pv 2) (@pe_int _ _ _ _)) (@pa_nil _)))) (@pa_nil _))))) (pa_cons (@pe_op _ _ _ _ _ _ _ _ op_add (pv 2) (@pe_int _ _ _ _)) (@pa_nil _)))))) (@pss_nil _)) (@pss_cons _ _ _ _ _ (@ps_if _ _ _ _ _ _ _ _ (@pt_cmpR _ _ _ _ _ _ _ _ op_eq (pv 3) (@pe_str _ _ _ _) (nomark _)) (@pss_one _ _ _ (@ps_ret _ _ _ _ (@pe_tup _ _ _ _ _ (pa_cons (pe_callX f_read_count (hr.mono (by omega)) (takes_body rfl) rfl (pa_cons (pv 0) (pa_cons (pe_callX f_word_at (hr.mono (by omega)) (takes_body rfl) rfl (pa_cons (pv 1) (pa_cons (@pe_op _ _ _ _ _ _ _ _ op_add (pv 2) (@pe_int _ _ _ _)) (@pa_nil _)))) (pa_cons (pe_callX f_word_at (hr.mono (by omega)) (takes_body rfl) rfl (pa_cons (pv 1) (pa_cons (@pe_op _ _ _ _ _ _ _ _ op_add (pv 2) (@pe_int _ _ _ _)) (@pa_nil _)))) (@pa_nil _))))) (pa_cons (@pe_op _ _ _ _ _ _ _ _ op_add (pv 2) (@pe_int _ _ _ _)) (@pa_nil _)))))) (@pss_nil _)) (@pss_cons _ _ _ _ _ (@ps_if _ _ _ _ _ _ _ _ (@pt_cmpR _ _ _ _ _ _ _ _ op_eq (pv 3) (@pe_str _ _ _ _) (nomark _)) (@pss_cons _ _ _ _ _ (ps_set (i := 4) sc_read_condition.nd rfl (Or.inl rfl) (pe_callX f_read_condition (hr.mono (by omega)) (takes_body rfl) rfl (pa_cons (pv 0) (pa_cons (pv 1) (pa_cons (@pe_op _ _ _ _ _ _ _ _ op_add (pv 2) (@pe_int _ _ _ _)) (@pa_nil _)))))) (@pss_one _ _ _ (PS.nox (@ps_ret _ _ _ _ (@pe_tup _ _ _ _ _ (@pa_cons _ _ _ _ _ (@pe_tup _ _ _ _ _ (@pa_cons _ _ _ _ _ (@pe_str _ _ _ _) (@pa_cons _ _ _ _ _ (pe_callA f_condition_of (hr.mono (by omega)) rfl (@pa_cons _ _ _ _ _ (pv 4) (@pa_nil _) (star_of nofun))) (@pa_nil _) (star_of nofun)) (star_of nofun))) (@pa_cons _ _ _ _ _ (pe_callA f_place_of (hr.mono (by omega)) rfl (@pa_cons _ _ _ _ _ (pv 4) (@pa_nil _) (star_of nofun))) (@pa_nil _) (star_of nofun)) (star_of nofun))))))) (@pss_nil _)) (@pss_cons _ _ _ _ _ (@ps_if _ _ _ _ _ _ _ _ (PW.pt (@pw_or _ _ _ _ _ _ _ (@pt_cmpR _ _ _ _ _ _ _ _ op_eq (pv 3) (@pe_str _ _ _ _) (nomark _)) (@pw_or1 _ _ _ _ (@pt_cmpR _ _ _ _ _ _ _ _ op_eq (pv 3) (@pe_str _ _ _ _) (nomark _))))) (@pss_cons _ _ _ _ _ (ps_set (i := 5) sc_read_condition.nd rfl (Or.inl rfl) (pe_callX f_read_condition (hr.mono (by omega)) (takes_body rfl) rfl (pa_cons (pv 0) (pa_cons (pv 1) (pa_cons (@pe_op _ _ _ _ _ _ _ _ op_add (pv 2) (@pe_int _ _ _ _)) (@pa_nil _)))))) (@pss_cons _ _ _ _ _ (ps_set (i := 6) sc_read_condition.nd rfl (Or.inl rfl) (pe_callX f_read_condition (hr.mono (by omega)) (takes_body rfl) rfl (pa_cons (pv 0) (pa_cons (pv 1) (pa_cons (pe_callA f_place_of (hr.mono (by omega)) rfl (pa_cons (pv 5) (@pa_nil _))) (@pa_nil _)))))) (@pss_one _ _ _ (PS.nox (@ps_ret _ _ _ _ (@pe_tup _ _ _ _ _ (@pa_cons _ _ _ _ _ (@pe_tup _ _ _ _ _ (@pa_cons _ _ _ _ _ (pv 3) (@pa_cons _ _ _ _ _ (pe_callA f_condition_of (hr.mono (by omega)) rfl (@pa_cons _ _ _ _ _ (pv 5) (@pa_nil _) (star_of nofun))) (@pa_cons _ _ _ _ _ (pe_callA f_condition_of (hr.mono (by omega)) rfl (@pa_cons _ _ _ _ _ (pv 6) (@pa_nil _) (star_of nofun))) (@pa_nil _) (star_of nofun)) (star_of nofun)) (star_of nofun))) (@pa_cons _ _ _ _ _ (pe_callA f_place_of (hr.mono (by omega)) rfl (@pa_cons _ _ _ _ _ (pv 6) (@pa_nil _) (star_of nofun))) (@pa_nil _) (star_of nofun)) (star_of nofun)))))))) (@pss_nil _)) (@pss_one _ _ _ (ps_raise rfl C.q_NoRule.toErr rfl C.m_NoRule (raises_body rfl) (pa_cons (@pe_str _ _ _ _) (@pa_nil _))))))))), ?_⟩
      rw [show start ["house", "words", "place", "kind", "told", "one", "other"] [V.ref p, V.ref l, V.int pl] = [some (V.ref p), some (V.ref l), some (V.int pl), none, none, none, none] from rfl]
      simp only [runs1, List.length_cons, List.length_nil, Nat.zero_add, List.replicate_succ, List.replicate_zero, List.drop_succ_cons, List.drop_zero, Int.zero_add, List.getElem?_cons_zero, List.getElem?_cons_succ, List.set_cons_zero, List.set_cons_succ, Option.some.injEq, V.int.injEq, V.ref.injEq, V.bl.injEq, V.ty.injEq, V.str.injEq, List.cons.injEq, List.append_nil, List.cons_append, List.nil_append, exists_eq, exists_eq', exists_eq_left, exists_eq_left', exists_and_left, exists_and_right, and_assoc, true_and, and_true, ↓reduceIte]
      cases c with
      | says k z =>
        have h0 := get_of_drop hw
        have hw1 := drop_of_drop hw
        have h1 := get_of_drop hw1
        have h2 := get_of_drop (drop_of_drop hw1)
        obtain ⟨d, hk, hz⟩ := hc
        have hnm : nmAt ds k = d.name := by rw [nmAt, List.getD_eq_getElem?_getD, List.getElem?_map, hk]; rfl
        rw [hnm] at h1
        refine ⟨l, ws, pl, _, rfl, hl, h0, rfl, ite2 (fun _ => ?_) (fun z => absurd (decide_eq_true rfl) z)⟩
        refine ⟨l, ws, pl + 1, _, by simp, hl, h1, l, ws, pl + 2, _, by simp, hl, h2, p, o, h, hs, outs, ds, k, d, z, rfl, hH, G, hk, hz, fun H1 t S1 ht => ⟨by decide, fun t2 ht2 => ?_⟩⟩
        have S2 : Same H1 (upd H1 t2 (.tup [V.ref t, V.int (pl + 3)])) := Same.upd (Same.refl _) ht2
        exact q _ t2 (.ref t) (S1.trans S2) (by rw [upd_same]; rfl) ⟨t, rfl, S2 _ _ ht⟩
      | count n z =>
        have h0 := get_of_drop hw
        have hw1 := drop_of_drop hw
        have h1 := get_of_drop hw1
        have h2 := get_of_drop (drop_of_drop hw1)
        obtain ⟨hct, n1, n4, hz⟩ := hc
        refine ⟨l, ws, pl, _, rfl, hl, h0, rfl, ite2 (fun z => absurd (of_decide_eq_true z) (by simp; decide)) (fun _ => ⟨rfl, ite2 (fun _ => ?_) (fun z => absurd (decide_eq_true rfl) z)⟩)⟩
        refine ⟨l, ws, pl + 1, _, by simp, hl, h1, l, ws, pl + 2, _, by simp, hl, h2, p, o, h, hs, outs, ds, n, z, rfl, hct, hH, G, n1, n4, hz, fun H1 t S1 ht => ⟨by decide, fun t2 ht2 => ?_⟩⟩
        have S2 : Same H1 (upd H1 t2 (.tup [V.ref t, V.int (pl + 3)])) := Same.upd (Same.refl _) ht2
        exact q _ t2 (.ref t) (S1.trans S2) (by rw [upd_same]; rfl) ⟨t, rfl, S2 _ _ ht⟩
      | no c =>
        have h0 := get_of_drop hw
        have hw1 := drop_of_drop hw
        have hd' : dep c + 1 < dm + 1 := hd
        refine ⟨l, ws, pl, _, rfl, hl, h0, rfl, ite2 (fun z => absurd (of_decide_eq_true z) (by simp; decide)) (fun _ => ⟨rfl, ite2 (fun z => absurd (of_decide_eq_true z) (by simp; decide)) (fun _ => ⟨rfl, ite2 (fun _ => ?_) (fun z => absurd (decide_eq_true rfl) z)⟩)⟩)⟩
        refine ⟨p, o, h, l, hs, outs, ds, ws, pl + 1, c, rest, by simp, hH, G, hl, hw1, hc, by omega, fun H1 t x S1 ht hx => ?_⟩
        refine ⟨t, _, _, rfl, .of ht, rfl, by decide, fun t2 ht2 => ?_⟩
        have S2 : Same H1 (upd H1 t2 (.tup [V.str (Str.ofString "not"), x])) := Same.upd (Same.refl _) ht2
        have u2 : upd H1 t2 (.tup [V.str (Str.ofString "not"), x]) t2 = some (.tup [V.str (Str.ofString "not"), x]) := upd_same
        generalize upd H1 t2 (.tup [V.str (Str.ofString "not"), x]) = H2 at *
        refine ⟨t, _, _, rfl, .of (S2 _ _ ht), rfl, by decide, fun t3 ht3 => ?_⟩
        have S3 : Same H2 (upd H2 t3 (.tup [V.ref t2, V.int ((pl + 1 + (wd ds c).length : Nat) : Int)])) := Same.upd (Same.refl _) ht3
        exact q _ t3 (.ref t2) (S1.trans (S2.trans S3)) (by rw [upd_same, wd, List.length_cons, Nat.add_assoc, Nat.add_comm 1]) ⟨t2, x, rfl, S3 _ _ u2, hx.mono (S2.trans S3)⟩
      | an c c2 =>
        have h0 := get_of_drop hw
        have hw1 := drop_of_drop hw
        have hd' : max (dep c) (dep c2) + 1 < dm + 1 := hd
        have hw1' : ws.drop (pl + 1) = wd ds c ++ (wd ds c2 ++ rest) := by rw [hw1]; exact List.append_assoc _ _ _
        have hw2 : ws.drop (pl + 1 + (wd ds c).length) = wd ds c2 ++ rest := by rw [← List.drop_drop, hw1', List.drop_left]
        refine ⟨l, ws, pl, _, rfl, hl, h0, rfl, ite2 (fun z => absurd (of_decide_eq_true z) (by simp; decide)) (fun _ => ⟨rfl, ite2 (fun z => absurd (of_decide_eq_true z) (by simp; decide)) (fun _ => ⟨rfl, ite2 (fun z => absurd (of_decide_eq_true z) (by simp; decide)) (fun _ => ⟨rfl, ite2 (fun _ => ?_) (fun z => absurd (decide_eq_true rfl) z)⟩)⟩)⟩)⟩
        refine ⟨p, o, h, l, hs, outs, ds, ws, pl + 1, c, _, by simp, hH, G, hl, hw1', hc.1, by omega, fun H1 t x S1 ht hx => ?_⟩
        refine ⟨t, _, _, rfl, .of ht, rfl, p, o, h, l, hs, outs, ds, ws, pl + 1 + (wd ds c).length, c2, rest, rfl, hH.mono S1, G, S1 _ _ hl, hw2, hc.2, by omega, fun H2 t2 x2 S2 ht2 hx2 => ?_⟩
        refine ⟨t, _, _, rfl, .of (S2 _ _ ht), rfl, t2, _, _, rfl, .of ht2, rfl, by decide, fun t3 ht3 => ?_⟩
        have S3 : Same H2 (upd H2 t3 (.tup [V.str (Str.ofString "and"), x, x2])) := Same.upd (Same.refl _) ht3
        have u3 : upd H2 t3 (.tup [V.str (Str.ofString "and"), x, x2]) t3 = some (.tup [V.str (Str.ofString "and"), x, x2]) := upd_same
        generalize upd H2 t3 (.tup [V.str (Str.ofString "and"), x, x2]) = H3 at *
        refine ⟨t2, _, _, rfl, .of (S3 _ _ ht2), rfl, by decide, fun t4 ht4 => ?_⟩
        have S4 : Same H3 (upd H3 t4 (.tup [V.ref t3, V.int ((pl + 1 + (wd ds c).length + (wd ds c2).length : Nat) : Int)])) := Same.upd (Same.refl _) ht4
        exact q _ t4 (.ref t3) (S1.trans (S2.trans (S3.trans S4))) (by rw [upd_same, wd, List.length_cons, List.length_append]; congr 5; omega) ⟨t3, x, x2, rfl, S4 _ _ u3, hx.mono (S2.trans (S3.trans S4)), hx2.mono (S3.trans S4)⟩
      | orr c c2 =>
        have h0 := get_of_drop hw
        have hw1 := drop_of_drop hw
        have hd' : max (dep c) (dep c2) + 1 < dm + 1 := hd
        have hw1' : ws.drop (pl + 1) = wd ds c ++ (wd ds c2 ++ rest) := by rw [hw1]; exact List.append_assoc _ _ _
        have hw2 : ws.drop (pl + 1 + (wd ds c).length) = wd ds c2 ++ rest := by rw [← List.drop_drop, hw1', List.drop_left]
        refine ⟨l, ws, pl, _, rfl, hl, h0, rfl, ite2 (fun z => absurd (of_decide_eq_true z) (by simp; decide)) (fun _ => ⟨rfl, ite2 (fun z => absurd (of_decide_eq_true z) (by simp; decide)) (fun _ => ⟨rfl, ite2 (fun z => absurd (of_decide_eq_true z) (by simp; decide)) (fun _ => ⟨rfl, ite2 (fun z => absurd (of_decide_eq_true z) (by simp; decide)) (fun _ => ⟨rfl, ite2 (fun _ => ?_) (fun z => absurd (decide_eq_true rfl) z)⟩)⟩)⟩)⟩)⟩
        refine ⟨p, o, h, l, hs, outs, ds, ws, pl + 1, c, _, by simp, hH, G, hl, hw1', hc.1, by omega, fun H1 t x S1 ht hx => ?_⟩
        refine ⟨t, _, _, rfl, .of ht, rfl, p, o, h, l, hs, outs, ds, ws, pl + 1 + (wd ds c).length, c2, rest, rfl, hH.mono S1, G, S1 _ _ hl, hw2, hc.2, by omega, fun H2 t2 x2 S2 ht2 hx2 => ?_⟩
        refine ⟨t, _, _, rfl, .of (S2 _ _ ht), rfl, t2, _, _, rfl, .of ht2, rfl, by decide, fun t3 ht3 => ?_⟩
        have S3 : Same H2 (upd H2 t3 (.tup [V.str (Str.ofString "or"), x, x2])) := Same.upd (Same.refl _) ht3
        have u3 : upd H2 t3 (.tup [V.str (Str.ofString "or"), x, x2]) t3 = some (.tup [V.str (Str.ofString "or"), x, x2]) := upd_same
        generalize upd H2 t3 (.tup [V.str (Str.ofString "or"), x, x2]) = H3 at *
        refine ⟨t2, _, _, rfl, .of (S3 _ _ ht2), rfl, by decide, fun t4 ht4 => ?_⟩
        have S4 : Same H3 (upd H3 t4 (.tup [V.ref t3, V.int ((pl + 1 + (wd ds c).length + (wd ds c2).length : Nat) : Int)])) := Same.upd (Same.refl _) ht4
        exact q _ t4 (.ref t3) (S1.trans (S2.trans (S3.trans S4))) (by rw [upd_same, wd, List.length_cons, List.length_append]; congr 5; omega) ⟨t3, x, x2, rfl, S4 _ _ u3, hx.mono (S2.trans (S3.trans S4)), hx2.mono (S3.trans S4)⟩
theorem f_read_deal (B : Bt mg) (C : Ct K mg a) (f_outcomes_of : FnAt P w K mg base "outcomes_of" 1 ["house"] (qItem K 0)) (D : DefIn K mg "read_deal" s_read_deal ["house", "words"]) : FnAtX P w K mg base "read_deal" 2 ["house", "words"] spDeal := by
  refine FnAtX.of D sc_read_deal (fun vs H Q E h => ?_) (fun f cdv A outer s H vs Q E hr h => ?_)
  · obtain ⟨p, o, h, l, hs, outs, ds, z, rfl, _⟩ := h
    rfl
  · obtain ⟨p, o, h, l, hs, outs, ds, z, rfl, hH, hl, hz, q⟩ := h
    refine ⟨_, (@pss_cons _ _ _ _ _ (@ps_if _ _ _ _ _ _ _ _ (PW.pt (@pw_or _ _ _ _ _ _ _ (@pt_cmpR _ _ _ _ _ _ _ _ op_ne (pe_callB call_len_seq rfl B.len bt_len (pa_cons (pv 1) (@pa_nil _))) (@pe_int _ _ _ _) (nomark _)) (@pw_or _ _ _ _ _ _ _ (@pt_cmpR _ _ _ _ _ _ _ _ op_ne (@pe_ix _ _ _ _ _ _ _ ix_list (pv 1) (@pe_int _ _ _ _) (fun _ _ => rfl)) (@pe_str _ _ _ _) (nomark _)) (@pw_or1 _ _ _ _ (@pt_cmpR _ _ _ _ _ _ _ _ op_notIn_seq (@pe_ix _ _ _ _ _ _ _ ix_list (pv 1) (@pe_int _ _ _ _) (fun _ _ => rfl)) (pe_callA f_outcomes_of (hr.mono (by decide)) rfl (pa_cons (pv 0) (@pa_nil _))) (by with_unfolding_all rfl)))))) (@pss_one _ _ _ (ps_raise rfl C.q_NoRule.toErr rfl C.m_NoRule (raises_body rfl) (pa_cons (@pe_str _ _ _ _) (@pa_nil _)))) (@pss_nil _)) (@pss_one _ _ _ (PS.nox (@ps_ret _ _ _ _ (@pe_ix _ _ _ _ _ _ _ ix_list (pv 1) (@pe_int _ _ _ _) (fun _ _ => rfl)))))), ?_⟩
    rw [show start ["house", "words"] [V.ref p, V.ref l] = [some (V.ref p), some (V.ref l)] from rfl]
    simp only [runs1, List.length_cons, List.length_nil, Nat.zero_add, List.replicate_succ, List.replicate_zero, List.drop_succ_cons, List.drop_zero, Int.zero_add, List.getElem?_cons_zero, List.getElem?_cons_succ, List.set_cons_zero, List.set_cons_succ, Option.some.injEq, V.int.injEq, V.ref.injEq, V.bl.injEq, V.ty.injEq, V.str.injEq, List.cons.injEq, List.append_nil, List.cons_append, List.nil_append, exists_eq, exists_eq', exists_eq_left, exists_eq_left', exists_and_left, exists_and_right, and_assoc, true_and, and_true, ↓reduceIte]
    refine ⟨_, .inl (.of hl), rfl, ite2 (fun z => absurd z (by simp)) (fun _ => ⟨_, .of hl, _, atI_nat (j := 0) rfl, rfl, ite2 (fun z => absurd z (by simp)) (fun _ => ⟨_, .of hl, _, atI_nat (j := 1) rfl, p, _, _, rfl, .of hH.tup, rfl, o, rfl, _, .inr (.of hH.outs), rfl, flat_strs _, ?_⟩)⟩)⟩
    rw [in_strs hz]
    exact iteF ⟨_, .of hl, _, atI_nat (j := 1) rfl, q⟩
theorem f_read_clause (B : Bt mg) (C : Ct K mg a) (f_read_condition : FnAtX P w K mg base "read_condition" 44 ["house", "words", "place"] (spCond ct 40)) (f_condition_of : FnAt P w K mg base "condition_of" 1 ["told"] (qItem K 0)) (f_place_of : FnAt P w K mg base "place_of" 1 ["told"] (qItem K 1)) (f_read_deal : FnAtX P w K mg base "read_deal" 2 ["house", "words"] spDeal) (D : DefIn K mg "read_clause" s_read_clause ["house", "words"]) : FnAtX P w K mg base "read_clause" 45 ["house", "words"] (spClauseR ct) := by
  refine FnAtX.of D sc_read_clause (fun vs H Q E h => ?_) (fun f cdv A outer s H vs Q E hr h => ?_)
  · obtain ⟨p, o, h, l, hs, outs, ds, c, rfl, _⟩ := h
    rfl
  · obtain ⟨p, o, h, l, hs, outs, ds, c, rfl, hH, G, hl, hc, hd, ho, h60, q⟩ := h
    refine ⟨_, (@pss_cons _ _ _ _ _ (@ps_if _ _ _ _ _ _ _ _ (@pt_cmpR _ _ _ _ _ _ _ _ op_ne (@pe_ix _ _ _ _ _ _ _ ix_list (pv 1) (@pe_int _ _ _ _) (fun _ _ => rfl)) (@pe_str _ _ _ _) (nomark _)) (@pss_one _ _ _ (ps_raise rfl C.q_NoRule.toErr rfl C.m_NoRule (raises_body rfl) (pa_cons (@pe_str _ _ _ _) (@pa_nil _)))) (@pss_nil _)) (@pss_cons _ _ _ _ _ (ps_set (i := 2) sc_read_clause.nd rfl (Or.inl rfl) (pe_callX f_read_condition (hr.mono (by decide)) (takes_body rfl) rfl (pa_cons (pv 0) (pa_cons (pv 1) (pa_cons (@pe_int _ _ _ _) (@pa_nil _)))))) (@pss_one _ _ _ (@ps_ret _ _ _ _ (@pe_tup _ _ _ _ _ (pa_cons (pe_callA f_condition_of (hr.mono (by decide)) rfl (pa_cons (pv 2) (@pa_nil _))) (pa_cons (pe_callX f_read_deal (hr.mono (by decide)) (takes_body rfl) rfl (pa_cons (pv 0) (pa_cons (@pe_slice _ _ _ _ _ _ _ _ _ _ sl_list (pv 1) (@po_some _ _ _ (pe_callA f_place_of (hr.mono (by decide)) rfl (pa_cons (pv 2) (@pa_nil _)))) (@po_none _)) (@pa_nil _)))) (@pa_nil _)))))))), ?_⟩
    rw [show start ["house", "words", "told"] [V.ref p, V.ref l] = [some (V.ref p), some (V.ref l), none] from rfl]
    simp only [runs1, List.length_cons, List.length_nil, Nat.zero_add, List.replicate_succ, List.replicate_zero, List.drop_succ_cons, List.drop_zero, Int.zero_add, List.getElem?_cons_zero, List.getElem?_cons_succ, List.set_cons_zero, List.set_cons_succ, Option.some.injEq, V.int.injEq, V.ref.injEq, V.bl.injEq, V.ty.injEq, V.str.injEq, List.cons.injEq, List.append_nil, List.cons_append, List.nil_append, exists_eq, exists_eq', exists_eq_left, exists_eq_left', exists_and_left, exists_and_right, and_assoc, true_and, and_true, ↓reduceIte]
    refine ⟨_, .of hl, _, atI_nat (j := 0) rfl, rfl, ite2 (fun z => absurd z (by simp)) (fun _ => ?_)⟩
    refine ⟨p, o, h, l, hs, outs, ds, clW ds c, 1, c.1, [Str.ofString "deal", c.2], rfl, hH, G, hl, rfl, hc, hd, fun H1 t x S1 ht hx => ?_⟩
    refine ⟨t, _, _, rfl, .of ht, rfl, t, _, _, rfl, .of ht, rfl, ?_⟩
    have hcl : (clW ds c).length = 1 + (wd ds c.1).length + 2 := by rw [clW, List.length_cons, List.length_append]; show _ + 2 + 1 = _; omega
    have hcut : cutV ((clW ds c).map V.str) (some ((1 + (wd ds c.1).length : Nat) : Int)) none = [V.str (Str.ofString "deal"), V.str c.2] := by
      rw [cutV_from (by rw [List.length_map]; omega), ← List.map_drop]
      have : (clW ds c).drop (1 + (wd ds c.1).length) = [Str.ofString "deal", c.2] := by rw [clW, Nat.add_comm, List.drop_succ_cons, List.drop_left]
      rw [this]
      rfl
    refine ⟨_, rfl, _, .of (S1 _ _ hl), fun l2 hl2 => ?_⟩
    rw [hcut]
    have S2 : Same H1 (upd H1 l2 (.lst [V.str (Str.ofString "deal"), V.str c.2])) := Same.upd (Same.refl _) hl2
    have u2 : upd H1 l2 (.lst [V.str (Str.ofString "deal"), V.str c.2]) l2 = some (.lst [V.str (Str.ofString "deal"), V.str c.2]) := upd_same
    generalize upd H1 l2 (.lst [V.str (Str.ofString "deal"), V.str c.2]) = H2 at *
    refine ⟨p, o, h, l2, hs, outs, ds, c.2, rfl, hH.mono (S1.trans S2), u2, ho, by decide, fun t2 ht2 => ?_⟩
    have S3 : Same H2 (upd H2 t2 (.tup [x, V.str c.2])) := Same.upd (Same.refl _) ht2
    exact q _ t2 x (S1.trans (S2.trans S3)) upd_same (hx.mono (S2.trans S3))
theorem f_clauses_in (B : Bt mg) (C : Ct K mg a) (D : DefIn K mg "clauses_in" s_clauses_in ["text"]) : FnAtX P w K mg base "clauses_in" 1 ["text"] (spClausesIn a) := by
  refine FnAtX.of D sc_clauses_in (fun vs H Q E h => ?_) (fun f cdv A outer s H vs Q E hr h => ?_)
  · obtain ⟨z, css, rfl, _⟩ := h
    rfl
  · obtain ⟨z, css, rfl, T, q0, q1⟩ := h
    refine ⟨_, (@pss_cons _ _ _ _ _ (PS.nox (ps_setC (i := 1) ["clause"] ["text", "clauses"] sc_clauses_in.nd rfl rfl rfl (@pi_list _ _ _ _ (pe_bm PySem.F.plainAttrs_str PySem.F.slot_str_split PySem.F.type_str_split mt_split (pv 0) (pa_cons (@pe_str _ _ _ _) (@pa_nil _)))) (fun _ => (pg_name (i := 0) (show (["clause", "text", "clauses"] : List Str).Nodup by decide +kernel) rfl (Or.inl rfl))) (fun _ => (@pts_nil _)) (fun _ => (pe_bm PySem.F.plainAttrs_str PySem.F.slot_str_split PySem.F.type_str_split mt_split (pv 0) (pa_cons (@pe_str _ _ _ _) (@pa_nil _)))) rfl (by decide +kernel) rfl rfl rfl)) (@pss_cons _ _ _ _ _ (@ps_if _ _ _ _ _ _ _ _ (PW.pt (@pw_or _ _ _ _ _ _ _ (@pt_cmpR _ _ _ _ _ _ _ _ op_gt (pe_callB call_len_seq rfl B.len bt_len (pa_cons (pv 1) (@pa_nil _))) (pe_globI rfl B.k_MOST_CLAUSES) (nomark _)) (@pw_or1 _ _ _ _ (@pt_cmpR _ _ _ _ _ _ _ _ op_gt (pe_callB (call_maxL rfl) rfl B.max bt_max (pa_cons (pe_comp ["words"] ["text", "clauses"] rfl (@pi_list _ _ _ _ (pv 1)) (fun _ => (pg_name (i := 0) (show (["words", "text", "clauses"] : List Str).Nodup by decide +kernel) rfl (Or.inl rfl))) (fun _ => (@pts_nil _)) (fun _ => (pe_callB call_len_seq rfl B.len bt_len (pa_cons (pv 0) (@pa_nil _)))) rfl (by decide +kernel) rfl rfl) (@pa_nil _))) (pe_globI rfl B.k_MOST_CLAUSE_WORDS) (nomark _))))) (@pss_one _ _ _ (ps_raise rfl C.q_NoRule.toErr rfl C.m_NoRule (raises_body rfl) (pa_cons (@pe_str _ _ _ _) (@pa_nil _)))) (@pss_nil _)) (@pss_one _ _ _ (PS.nox (@ps_ret _ _ _ _ (pv 1)))))), ?_⟩
    rw [show start ["text", "clauses"] [V.str z] = [some (V.str z), none] from rfl]
    simp only [runs1, List.length_cons, List.length_nil, Nat.zero_add, List.replicate_succ, List.replicate_zero, List.drop_succ_cons, List.drop_zero, Int.zero_add, List.getElem?_cons_zero, List.getElem?_cons_succ, List.set_cons_zero, List.set_cons_succ, Option.some.injEq, V.int.injEq, V.ref.injEq, V.bl.injEq, V.ty.injEq, V.str.injEq, List.cons.injEq, List.append_nil, List.cons_append, List.nil_append, exists_eq, exists_eq', exists_eq_left, exists_eq_left', exists_and_left, exists_and_right, and_assoc, true_and, and_true, ↓reduceIte]
    rw [T.split1]
    refine ⟨rfl, by decide +kernel, T.len, ?_, fun l hl => ?_⟩
    · rw [List.length_map]
      exact Nat.le_trans T.few (by decide)
    have S1 : Same H (upd H l (.lst ((css.map (Str.join (Str.ofString " "))).map V.str))) := Same.upd (Same.refl _) hl
    have u1 : upd H l (.lst ((css.map (Str.join (Str.ofString " "))).map V.str)) l = some (.lst ((css.map (Str.join (Str.ofString " "))).map V.str)) := upd_same
    generalize upd H l (.lst ((css.map (Str.join (Str.ofString " "))).map V.str)) = H1 at *
    have hfew := T.few
    refine ⟨⟨_, .of u1⟩, fun d => ?_⟩
    refine comp_list (xs := (css.map (Str.join (Str.ofString " "))).map V.str) (PvSp H1 css) ⟨Same.refl _, [], rfl, rfl, fun j b cs e => by simp at e⟩ ?_ ?_ ?_
    · rintro i ys H2 hi ⟨S2, ls, rfl, li, hls⟩
      rw [List.length_map, List.length_map] at hi
      exact ⟨by rw [List.length_map, li]; exact Nat.le_trans (show i ≤ 40 by omega) (by decide), .of (S2 _ _ u1)⟩
    · rintro i x ys H2 hx ⟨S2, ls, rfl, li, hls⟩
      rw [List.getElem?_map, List.getElem?_map] at hx
      obtain ⟨cs, hcs⟩ : ∃ y, css[i]? = some y := by
        cases e : css[i]? with
        | none => rw [e] at hx; cases hx
        | some y => exact ⟨y, rfl⟩
      rw [hcs] at hx
      cases hx
      have hm := List.mem_of_getElem? hcs
      have hlen : (Str.join (Str.ofString " ") cs).length ≤ sizeLine := by
        refine Nat.le_trans (Nat.le_trans ?_ (Nat.le_of_eq (congrArg Str.length T.eq).symm)) T.len
        exact join_len_mem (List.mem_map.mpr ⟨cs, hm, rfl⟩)
      have hwide := T.wide cs hm
      simp only [runs1, List.length_cons, List.length_nil, Nat.zero_add, List.replicate_succ, List.replicate_zero, List.drop_succ_cons, List.drop_zero, Int.zero_add, List.getElem?_cons_zero, List.getElem?_cons_succ, List.set_cons_zero, List.set_cons_succ, Option.some.injEq, V.int.injEq, V.ref.injEq, V.bl.injEq, V.ty.injEq, V.str.injEq, List.cons.injEq, List.append_nil, List.cons_append, List.nil_append, exists_eq, exists_eq', exists_eq_left, exists_eq_left', exists_and_left, exists_and_right, and_assoc, true_and, and_true, ↓reduceIte]
      rw [T.split2 hm]
      refine ⟨rfl, by decide +kernel, hlen, Nat.le_trans hwide (by decide), fun b hb => ?_⟩
      have S3 : Same H2 (upd H2 b (.lst (cs.map V.str))) := Same.upd (Same.refl _) hb
      refine ⟨S2.trans S3, ls ++ [b], by simp, by simp [li], fun j b' cs' e1 e2 => ?_⟩
      by_cases hj : j < ls.length
      · rw [List.getElem?_append_left hj] at e1
        exact S3 _ _ (hls j b' cs' e1 e2)
      · rw [List.getElem?_append_right (Nat.not_lt.mp hj)] at e1
        have h0 : j - ls.length = 0 := by
          have := (List.getElem?_eq_some_iff.mp e1).1
          simp at this
          omega
        rw [h0] at e1
        simp at e1
        have : j = i := by omega
        subst this
        rw [hcs] at e2
        cases e2
        rw [← e1]
        exact upd_same
    · rintro ys H2 ⟨S2, ls, rfl, li, hls⟩ l2 hl2
      rw [List.length_map, List.length_map] at li
      have S3 : Same H2 (upd H2 l2 (.lst (ls.map V.ref))) := Same.upd (Same.refl _) hl2
      have u3 : upd H2 l2 (.lst (ls.map V.ref)) l2 = some (.lst (ls.map V.ref)) := upd_same
      generalize upd H2 l2 (.lst (ls.map V.ref)) = H3 at *
      have hW : WordsAt H3 l2 ls css := ⟨u3, li, fun i b cs e1 e2 => S3 _ _ (hls i b cs e1 e2)⟩
      have S03 := S1.trans (S2.trans S3)
      refine ⟨_, .inl (.of u3), ?_⟩
      rw [List.length_map, li]
      refine ite2 (fun y => ⟨by decide, q1 (fun z => ?_) _ S03⟩) (fun y => ?_)
      · have := of_decide_eq_true y
        have := z.1
        omega
      have h20 : css.length ≤ 20 := by
        have : ¬ (20 : Int) < css.length := fun z => y (decide_eq_true z)
        omega
      refine ⟨⟨_, .of u3⟩, fun d2 => ?_⟩
      refine comp_list (xs := ls.map V.ref) (PvLn H3 css) ⟨rfl, rfl⟩ ?_ ?_ ?_
      · rintro i ys H4 hi ⟨rfl, rfl⟩
        refine ⟨?_, .of u3⟩
        rw [List.length_map, List.length_map, List.length_take]
        exact Nat.le_trans (show _ ≤ 40 by omega) (by decide)
      · rintro i x ys H4 hx ⟨rfl, rfl⟩
        rw [List.getElem?_map] at hx
        obtain ⟨b, hb⟩ : ∃ y, ls[i]? = some y := by
          cases e : ls[i]? with
          | none => rw [e] at hx; cases hx
          | some y => exact ⟨y, rfl⟩
        rw [hb] at hx
        cases hx
        have hi : i < css.length := by have := (List.getElem?_eq_some_iff.mp hb).1; omega
        have ec : css[i]? = some css[i] := List.getElem?_eq_getElem hi
        simp only [runs1, List.length_cons, List.length_nil, Nat.zero_add, List.replicate_succ, List.replicate_zero, List.drop_succ_cons, List.drop_zero, Int.zero_add, List.getElem?_cons_zero, List.getElem?_cons_succ, List.set_cons_zero, List.set_cons_succ, Option.some.injEq, V.int.injEq, V.ref.injEq, V.bl.injEq, V.ty.injEq, V.str.injEq, List.cons.injEq, List.append_nil, List.cons_append, List.nil_append, exists_eq, exists_eq', exists_eq_left, exists_eq_left', exists_and_left, exists_and_right, and_assoc, true_and, and_true, ↓reduceIte]
        refine ⟨_, .inl (.of (hW.row i b _ hb ec)), rfl, ?_⟩
        rw [List.take_add_one, ec, List.length_map, List.map_append, List.map_append]
        rfl
      · rintro ys H4 ⟨rfl, rfl⟩ l3 hl3
        rw [List.length_map, li, List.take_length]
        have S4 : Same H4 (upd H4 l3 (.lst ((css.map fun cs => (cs.length : Int)).map V.int))) := Same.upd (Same.refl _) hl3
        refine ⟨_, .of upd_same, ?_, fun m hm1 hm2 => ite2 (fun y2 => ⟨by decide, q1 (fun z => ?_) _ (S03.trans S4)⟩) (fun y2 => q0 ⟨h20, fun cs hcs => ?_⟩ _ l2 ls (S03.trans S4) (hW.mono S4))⟩
        · rw [List.length_map]
          exact List.length_pos_iff.mpr T.ne
        · obtain ⟨cs, hcs, rfl⟩ := List.mem_map.mp hm1
          have := z.2 cs hcs
          have := of_decide_eq_true y2
          omega
        · have := hm2 _ (List.mem_map.mpr ⟨cs, hcs, rfl⟩)
          have : ¬ (40 : Int) < m := fun z => y2 (decide_eq_true z)
          omega
theorem f_read_rule (B : Bt mg) (C : Ct K mg a) (f_clauses_in : FnAtX P w K mg base "clauses_in" 1 ["text"] (spClausesIn a)) (f_read_clause : FnAtX P w K mg base "read_clause" 45 ["house", "words"] (spClauseR ct)) (f_read_deal : FnAtX P w K mg base "read_deal" 2 ["house", "words"] spDeal) (D : DefIn K mg "read_rule" s_read_rule ["house", "text"]) : FnAtX P w K mg base "read_rule" 46 ["house", "text"] (spReadRule a ct) := by
  refine FnAtX.of D sc_read_rule (fun vs H Q E h => ?_) (fun f cdv A outer s H vs Q E hr h => ?_)
  · obtain ⟨p, o, h, hs, outs, ds, t, cls, z, rfl, _⟩ := h
    rfl
  · obtain ⟨p, o, h, hs, outs, ds, t, cls, z, rfl, hH, G, T, hc, hz, q0, q1⟩ := h
    refine ⟨_, (@pss_cons _ _ _ _ _ (@ps_if _ _ _ _ _ _ _ _ (@pt_not _ _ _ _ (pt_val (pe_callB call_isinst rfl B.isinstance bt_isinstance (pa_cons (pv 1) (pa_cons (pe_ty rfl B.str bt_str) (@pa_nil _)))))) (@pss_one _ _ _ (ps_raise rfl C.q_NoRule.toErr rfl C.m_NoRule (raises_body rfl) (pa_cons (@pe_str _ _ _ _) (@pa_nil _)))) (@pss_nil _)) (@pss_cons _ _ _ _ _ (ps_set (i := 2) sc_read_rule.nd rfl (Or.inl rfl) (pe_callX f_clauses_in (hr.mono (by decide)) (takes_body rfl) rfl (pa_cons (pv 1) (@pa_nil _)))) (@pss_cons _ _ _ _ _ (ps_setCX (i := 3) rfl ["words"] ["house", "text", "clauses", "rule"] sc_read_rule.nd rfl rfl rfl (@pi_list _ _ _ _ (@pe_slice _ _ _ _ _ _ _ _ _ _ sl_list (pv 2) (@po_none _) (@po_some _ _ _ (@pe_un _ _ _ _ _ _ un_neg (@pe_int _ _ _ _))))) (fun _ => (pg_name (i := 0) (show (["words", "house", "text", "clauses", "rule"] : List Str).Nodup by decide +kernel) rfl (Or.inl rfl))) (fun _ => (@pts_nil _)) (fun _ _ => (pe_callX f_read_clause (hr.mono (by decide)) takes_try rfl (pa_cons (pv 1) (pa_cons (pv 0) (@pa_nil _))))) rfl (by decide +kernel) rfl rfl rfl) (@pss_one _ _ _ (@ps_ret _ _ _ _ (@pe_op _ _ _ _ _ _ _ _ op_cat (pv 3) (@pe_lst _ _ _ _ (@pa_cons _ _ _ _ _ (@pe_tup _ _ _ _ _ (@pa_cons _ _ _ _ _ (@pe_non _ _ _) (@pa_cons _ _ _ _ _ (pe_callX f_read_deal (hr.mono (by decide)) (takes_body rfl) rfl (@pa_cons _ _ _ _ _ (pv 0) (@pa_cons _ _ _ _ _ (@pe_ix _ _ _ _ _ _ _ ix_list (pv 2) (@pe_un _ _ _ _ _ _ un_neg (@pe_int _ _ _ _)) (fun _ _ => rfl)) (@pa_nil _) (star_of nofun)) (star_of nofun))) (@pa_nil _) (star_of nofun)) (star_of nofun))) (@pa_nil _) (star_of nofun))))))))), ?_⟩
    rw [show start ["house", "text", "clauses", "rule"] [V.ref p, V.str t] = [some (V.ref p), some (V.str t), none, none] from rfl]
    simp only [runs1, List.length_cons, List.length_nil, Nat.zero_add, List.replicate_succ, List.replicate_zero, List.drop_succ_cons, List.drop_zero, Int.zero_add, List.getElem?_cons_zero, List.getElem?_cons_succ, List.set_cons_zero, List.set_cons_succ, Option.some.injEq, V.int.injEq, V.ref.injEq, V.bl.injEq, V.ty.injEq, V.str.injEq, List.cons.injEq, List.append_nil, List.cons_append, List.nil_append, exists_eq, exists_eq', exists_eq_left, exists_eq_left', exists_and_left, exists_and_right, and_assoc, true_and, and_true, ↓reduceIte]
    refine ⟨_, .str _, true, kit_hss, iteF ⟨t, rlW ds cls z, rfl, T, fun hf H1 l ls S1 hW => ?_, fun hnf H1 S1 => q1 hnf H1 S1⟩⟩
    have hn : ls.length = cls.length + 1 := by rw [hW.len, rlW, List.length_append, List.length_map]; rfl
    refine ⟨l, rfl, _, .of hW.at', fun p1 hp1 => ?_⟩
    have hcut : cutV (ls.map V.ref) none (some (-1)) = (ls.take cls.length).map V.ref := by
      have := cutV_neg (xs := ls.map V.ref) (k := 1) (by decide) (by rw [List.length_map]; omega)
      rw [List.length_map, ← List.map_take, hn, Nat.add_sub_cancel] at this
      exact this
    rw [hcut]
    have S2 : Same H1 (upd H1 p1 (.lst ((ls.take cls.length).map V.ref))) := Same.upd (Same.refl _) hp1
    have u2 : upd H1 p1 (.lst ((ls.take cls.length).map V.ref)) p1 = some (.lst ((ls.take cls.length).map V.ref)) := upd_same
    generalize upd H1 p1 (.lst ((ls.take cls.length).map V.ref)) = H2 at *
    have S12 := S1.trans S2
    have hW2 := hW.mono S2
    have hfew := T.few
    have hcl : (rlW ds cls z).length = cls.length + 1 := by rw [rlW, List.length_append, List.length_map]; rfl
    refine ⟨⟨_, .of u2⟩, fun d => ?_⟩
    refine comp_list (xs := (ls.take cls.length).map V.ref) (PvRd H2 cls) ⟨Same.refl _, [], rfl, rfl, fun _ z => nomatch z⟩ ?_ ?_ ?_
    · rintro i ys H3 hi ⟨S3, rl, rfl, hrl, hx⟩
      refine ⟨?_, .of (S3 _ _ u2)⟩
      have := congrArg List.length hrl
      rw [List.length_map, List.length_take] at this
      rw [List.length_map, this]
      exact Nat.le_trans (show _ ≤ 40 by omega) (by decide)
    · rintro i x ys H3 hx ⟨S3, rl, rfl, hrl, hR⟩
      rw [List.getElem?_map] at hx
      obtain ⟨b, hb⟩ : ∃ y, (ls.take cls.length)[i]? = some y := by
        cases e : (ls.take cls.length)[i]? with
        | none => rw [e] at hx; cases hx
        | some y => exact ⟨y, rfl⟩
      rw [hb] at hx
      cases hx
      have hi : i < cls.length := by
        have := (List.getElem?_eq_some_iff.mp hb).1
        rw [List.length_take] at this
        omega
      rw [List.getElem?_take_of_lt hi] at hb
      have ec : cls[i]? = some cls[i] := List.getElem?_eq_getElem hi
      have er : (rlW ds cls z)[i]? = some (clW ds cls[i]) := by rw [rlW, List.getElem?_append_left (by rw [List.length_map]; exact hi), List.getElem?_map, ec]; rfl
      have hcm := hc _ (List.getElem_mem hi)
      have hwd := T.wide _ (List.mem_of_getElem? er)
      simp only [runs1, List.length_cons, List.length_nil, Nat.zero_add, List.replicate_succ, List.replicate_zero, List.drop_succ_cons, List.drop_zero, Int.zero_add, List.getElem?_cons_zero, List.getElem?_cons_succ, List.set_cons_zero, List.set_cons_succ, Option.some.injEq, V.int.injEq, V.ref.injEq, V.bl.injEq, V.ty.injEq, V.str.injEq, List.cons.injEq, List.append_nil, List.cons_append, List.nil_append, exists_eq, exists_eq', exists_eq_left, exists_eq_left', exists_and_left, exists_and_right, and_assoc, true_and, and_true, ↓reduceIte]
      refine ⟨p, o, h, b, hs, outs, ds, cls[i], rfl, hH.mono (S12.trans S3), G, (hW2.mono S3).row i b _ hb er, hcm.1, hcm.2.1, hcm.2.2, hwd, fun H4 t4 x4 S4 ht4 hx4 => ?_⟩
      refine ⟨S3.trans S4, rl ++ [(t4, cls[i])], by simp, by rw [List.map_append, hrl, List.take_add_one, ec]; rfl, fun r hr' => ?_⟩
      rcases List.mem_append.mp hr' with e | e
      · obtain ⟨x5, h5, h6⟩ := hR r e
        exact ⟨x5, S4 _ _ h5, h6.mono S4⟩
      · rw [List.mem_singleton.mp e]
        exact ⟨x4, ht4, hx4⟩
    · rintro ys H3 ⟨S3, rl, rfl, hrl, hR⟩ ru hru
      rw [List.length_map, List.length_take, Nat.min_eq_left (by omega), List.take_length] at hrl
      have S4 : Same H3 (upd H3 ru (.lst (rl.map fun r => V.ref r.1))) := Same.upd (Same.refl _) hru
      have u4 : upd H3 ru (.lst (rl.map fun r => V.ref r.1)) ru = some (.lst (rl.map fun r => V.ref r.1)) := upd_same
      generalize upd H3 ru (.lst (rl.map fun r => V.ref r.1)) = H4 at *
      have hW4 := hW2.mono (S3.trans S4)
      have hll : ls.length - 1 < ls.length := by omega
      have el : ls[ls.length - 1]? = some ls[ls.length - 1] := List.getElem?_eq_getElem hll
      have er : (rlW ds cls z)[ls.length - 1]? = some [Str.ofString "deal", z] := by
        rw [rlW, hn, Nat.add_sub_cancel, List.getElem?_append_right (by rw [List.length_map]; exact Nat.le_refl _), List.length_map, Nat.sub_self]
        rfl
      have hb := hW4.row _ _ _ el er
      have aL : atI (ls.map V.ref) (-1) = some (V.ref ls[ls.length - 1]) := atI_neg (k := 1) (by decide) (by rw [List.length_map]; omega) (by rw [List.length_map, List.getElem?_map, el]; rfl)
      generalize ls[ls.length - 1] = bl at *
      have S14 := S12.trans (S3.trans S4)
      have lrl : rl.length = cls.length := by have := congrArg List.length hrl; rwa [List.length_map] at this
      refine ⟨l, rfl, _, .of hW4.at', _, aL, p, o, h, bl, hs, outs, ds, z, rfl, hH.mono S14, hb, hz, by decide, fun tz htz => ?_⟩
      have S5 : Same H4 (upd H4 tz (.tup [V.non, V.str z])) := Same.upd (Same.refl _) htz
      have u5 : upd H4 tz (.tup [V.non, V.str z]) tz = some (.tup [V.non, V.str z]) := upd_same
      generalize upd H4 tz (.tup [V.non, V.str z]) = H5 at *
      refine ⟨by decide, fun lz hlz => ?_⟩
      have S6 : Same H5 (upd H5 lz (.lst [V.ref tz])) := Same.upd (Same.refl _) hlz
      have u6 : upd H5 lz (.lst [V.ref tz]) lz = some (.lst [V.ref tz]) := upd_same
      generalize upd H5 lz (.lst [V.ref tz]) = H6 at *
      refine ⟨_, (S5.trans S6) _ _ u4, _, u6, ?_, fun r hr' => ?_⟩
      · rw [List.length_map, lrl]
        exact Nat.le_trans (show cls.length + 1 ≤ 100 by omega) (by decide)
      have S7 : Same H6 (upd H6 r (.lst ((rl.map fun r => V.ref r.1) ++ [V.ref tz]))) := Same.upd (Same.refl _) hr'
      refine q0 hf _ r rl tz (S14.trans (S5.trans (S6.trans S7))) ((S14.trans (S5.trans S6)).free hr') upd_same ((S6.trans S7) _ _ u5) hrl fun c hc' => ?_
      obtain ⟨x5, h5, h6⟩ := hR c hc'
      have S37 := S4.trans (S5.trans (S6.trans S7))
      exact ⟨x5, S37 _ _ h5, h6.mono S37⟩
end

/-! ### the drawn rule -/
def ds69 : List HD := [⟨Str.ofString "ana", [Str.ofString "lo", Str.ofString "hi"], [[0, 1], [1, 0]]⟩, ⟨Str.ofString "bo", [Str.ofString "no", Str.ofString "hi"], [[0, 0], [3, 1]]⟩]
def outs69 : List Str := [Str.ofString "road", Str.ofString "park"]
def nots : Nat → Cd
  | 0 => .says 0 (Str.ofString "hi")
  | n + 1 => .no (nots n)
theorem dep_nots : ∀ n, dep (nots n) = n
  | 0 => rfl
  | n + 1 => by rw [nots, dep, dep_nots n]
theorem fit_nots : ∀ n, fit 2 (nots n)
  | 0 => by show 0 < 2; decide
  | n + 1 => fit_nots n
theorem okc_nots : ∀ n, okc False ds69 (nots n)
  | 0 => ⟨_, rfl, by simp [ds69]⟩
  | n + 1 => okc_nots n
def tail3 : List Str := [Str.ofString "says", Str.ofString "ana", Str.ofString "hi"]
theorem good69 : GoodHouse outs69 ds69 where
  outs1 := by decide
  outsG := by unfold GoodN outs69; decide +kernel
  outsD := by unfold outs69; decide +kernel
  hands := by decide
  handsG := by unfold GoodN ds69; decide +kernel
  handsD := by unfold ds69; decide +kernel
  words1 := by unfold ds69; decide +kernel
  wordsG := by unfold GoodN ds69; decide +kernel
  wordsD := by unfold ds69; decide +kernel
  rows := by unfold ds69; decide +kernel
  cols := by unfold ds69; decide +kernel
  nums := by unfold ds69; decide +kernel
  few := by decide +kernel
theorem wd_nots : ∀ n, wd ds69 (nots n) = List.replicate n (Str.ofString "not") ++ tail3
  | 0 => by rw [nots, wd]; rfl
  | n + 1 => by rw [nots, wd, wd_nots n, List.replicate_succ]; rfl
theorem ev_nots (w : Str) (b : Str) : ∀ n, ev [w, b] (nots n) = (decide (w = Str.ofString "hi") == decide (n % 2 = 0))
  | 0 => by
    rw [nots, ev]
    simp
  | n + 1 => by
    rw [nots, ev, ev_nots w b n]
    have h : decide ((n + 1) % 2 = 0) = !decide (n % 2 = 0) := by
      by_cases e : n % 2 = 0
      · rw [decide_eq_true e, decide_eq_false (by omega)]; rfl
      · rw [decide_eq_false e, decide_eq_true (by omega)]; rfl
    rw [h]
    cases decide (w = Str.ofString "hi") <;> cases decide (n % 2 = 0) <;> rfl
def cl69 (ns : List Nat) : List (Cd × Str) := ns.map fun n => (nots n, Str.ofString "park")
theorem clW_nots (n : Nat) : clW ds69 (nots n, Str.ofString "park") = Str.ofString "when" :: (List.replicate n (Str.ofString "not") ++ [Str.ofString "says", Str.ofString "ana", Str.ofString "hi", Str.ofString "deal", Str.ofString "park"]) := by
  rw [clW, wd_nots, List.append_assoc]; rfl
theorem clW_len (n : Nat) : (clW ds69 (nots n, Str.ofString "park")).length = n + 6 := by
  rw [clW_nots, List.length_cons, List.length_append, List.length_replicate]; rfl
theorem strMul_len (z : Str) (n : Nat) : (strMul z n).length = z.length * n := by
  unfold strMul Str.length
  simp [List.length_flatten, Nat.mul_comm]
theorem strMul_succ (z : Str) (n : Nat) : strMul z (n + 1) = z ++ strMul z n := by
  apply Str.ext'
  apply Array.toList_inj.mp
  simp [strMul, Str.cps_append, List.replicate_succ]
theorem join_nots {r : List Str} (hr : r ≠ []) : ∀ n, Str.join (Str.ofString " ") (List.replicate n (Str.ofString "not") ++ r) = strMul (Str.ofString "not ") n ++ Str.join (Str.ofString " ") r
  | 0 => by
    have : strMul (Str.ofString "not ") 0 = Str.empty := rfl
    rw [this, Str.empty_append]; rfl
  | n + 1 => by
    have ih := join_nots hr n
    have e : List.replicate (n + 1) (Str.ofString "not") ++ r = Str.ofString "not" :: (List.replicate n (Str.ofString "not") ++ r) := by rw [List.replicate_succ]; rfl
    rw [e]
    obtain ⟨q, qs, eq⟩ : ∃ q qs, List.replicate n (Str.ofString "not") ++ r = q :: qs := by
      cases h : List.replicate n (Str.ofString "not") ++ r with
      | nil => exact absurd (List.append_eq_nil_iff.mp h).2 hr
      | cons q qs => exact ⟨q, qs, rfl⟩
    rw [eq] at ih ⊢
    rw [join_cons2, ih, strMul_succ, Str.append_assoc (Str.ofString "not ")]
    have : Str.ofString "not" ++ Str.ofString " " = Str.ofString "not " := by decide +kernel
    rw [this]
theorem clause_text (n : Nat) : Str.ofString "when " ++ strMul (Str.ofString "not ") n ++ Str.ofString "says ana hi deal " ++ Str.ofString "park" = Str.join (Str.ofString " ") (clW ds69 (nots n, Str.ofString "park")) := by
  rw [clW_nots]
  have hj := join_nots (r := [Str.ofString "says", Str.ofString "ana", Str.ofString "hi", Str.ofString "deal", Str.ofString "park"]) (by simp) n
  obtain ⟨q, qs, eq⟩ : ∃ q qs, List.replicate n (Str.ofString "not") ++ [Str.ofString "says", Str.ofString "ana", Str.ofString "hi", Str.ofString "deal", Str.ofString "park"] = q :: qs := by
    cases h : List.replicate n (Str.ofString "not") ++ [Str.ofString "says", Str.ofString "ana", Str.ofString "hi", Str.ofString "deal", Str.ofString "park"] with
    | nil => simp at h
    | cons q qs => exact ⟨q, qs, rfl⟩
  rw [eq] at hj ⊢
  rw [join_cons2, hj]
  have e1 : Str.ofString "when" ++ Str.ofString " " = Str.ofString "when " := by decide +kernel
  have e2 : Str.join (Str.ofString " ") [Str.ofString "says", Str.ofString "ana", Str.ofString "hi", Str.ofString "deal", Str.ofString "park"] = Str.ofString "says ana hi deal " ++ Str.ofString "park" := by decide +kernel
  rw [e1, e2]
  simp only [Str.append_assoc]
theorem clause_len {n : Nat} (h : n ≤ 36) : (Str.join (Str.ofString " ") (clW ds69 (nots n, Str.ofString "park"))).length ≤ 300 := by
  rw [← clause_text, Str.length_append, Str.length_append, Str.length_append, strMul_len]
  have e1 : (Str.ofString "when ").length = 5 := by decide +kernel
  have e2 : (Str.ofString "not ").length = 4 := by decide +kernel
  have e3 : (Str.ofString "says ana hi deal ").length = 17 := by decide +kernel
  have e4 : (Str.ofString "park").length = 4 := by decide +kernel
  rw [e1, e2, e3, e4]
  omega
def txts (ns : List Nat) : List Str := (ns.map fun n => Str.join (Str.ofString " ") (clW ds69 (nots n, Str.ofString "park"))) ++ [Str.ofString "deal road"]
theorem txts_eq (ns : List Nat) : txts ns = (rlW ds69 (cl69 ns) (Str.ofString "road")).map (Str.join (Str.ofString " ")) := by
  rw [txts, rlW, cl69, List.map_append, List.map_map, List.map_map]
  congr 1
theorem txts_short {ns : List Nat} (h : ∀ n ∈ ns, n ≤ 36) : ∀ y ∈ txts ns, y.length ≤ 300 := fun y hy => by
  rcases List.mem_append.mp hy with z | z
  · obtain ⟨n, hn, rfl⟩ := List.mem_map.mp z
    exact clause_len (h n hn)
  · rw [List.mem_singleton.mp z]
    decide +kernel
theorem txts_ok {ns : List Nat} (h : ∀ n ∈ ns, n ≤ 36) (hl : ns.length ≤ 21) : JoinOk (Str.ofString "; ") (txts ns) = true := by
  unfold JoinOk
  rw [StrLaws.joinFits (B := 300) (txts_short h)]
  · rfl
  · have e1 : (Str.ofString "; ").length = 2 := by decide +kernel
    have e2 : (txts ns).length = ns.length + 1 := by rw [txts, List.length_append, List.length_map]; rfl
    rw [e1, e2]
    omega
theorem text_of {ns : List Nat} (h : ∀ n ∈ ns, n ≤ 36) (hl : ns.length ≤ 21) : TextOf (Txt.join (Str.ofString "; ") (txts ns)) (rlW ds69 (cl69 ns) (Str.ofString "road")) := by
  have hlen : (rlW ds69 (cl69 ns) (Str.ofString "road")).length = ns.length + 1 := by rw [rlW, cl69, List.length_append, List.length_map, List.length_map]; rfl
  have hmem : ∀ cs ∈ rlW ds69 (cl69 ns) (Str.ofString "road"), (∃ n ∈ ns, cs = clW ds69 (nots n, Str.ofString "park")) ∨ cs = [Str.ofString "deal", Str.ofString "road"] := fun cs hcs => by
    rcases List.mem_append.mp hcs with z | z
    · obtain ⟨c, hc, rfl⟩ := List.mem_map.mp z
      obtain ⟨n, hn, rfl⟩ := List.mem_map.mp hc
      exact .inl ⟨n, hn, rfl⟩
    · exact .inr (List.mem_singleton.mp z)
  refine ⟨by rw [txt_join, txts_eq], (fun z => by rw [z] at hlen; cases hlen), fun cs hcs => ?_, fun cs hcs w hw => ?_, by omega, fun cs hcs => ?_, ?_⟩
  · rcases hmem cs hcs with ⟨n, _, rfl⟩ | rfl
    · rw [clW]; simp
    · simp
  · rcases hmem cs hcs with ⟨n, _, rfl⟩ | rfl
    · rw [clW_nots] at hw
      have : w = Str.ofString "when" ∨ w = Str.ofString "not" ∨ w ∈ [Str.ofString "says", Str.ofString "ana", Str.ofString "hi", Str.ofString "deal", Str.ofString "park"] := by
        rcases List.mem_cons.mp hw with z | z
        · exact .inl z
        · rcases List.mem_append.mp z with z | z
          · exact .inr (.inl (List.eq_of_mem_replicate z))
          · exact .inr (.inr z)
      simp only [List.mem_cons, List.not_mem_nil, or_false] at this
      rcases this with rfl | rfl | rfl | rfl | rfl | rfl | rfl <;> decide +kernel
    · simp only [List.mem_cons, List.not_mem_nil, or_false] at hw
      rcases hw with rfl | rfl <;> decide +kernel
  · rcases hmem cs hcs with ⟨n, hn, rfl⟩ | rfl
    · have := h n hn
      rw [clW_len]; omega
    · decide
  · rw [txt_join]
    have h1 := StrLaws.join_length_le (Str.ofString "; ") (txts ns)
    have h2 := StrLaws.sumLen_le (txts ns) (txts_short h)
    have e1 : (Str.ofString "; ").length = 2 := by decide +kernel
    have e2 : (txts ns).length = ns.length + 1 := by rw [txts, List.length_append, List.length_map]; rfl
    rw [e1, e2] at h1
    rw [e2] at h2
    exact Nat.le_trans (show _ ≤ 100000 by omega) (by decide)
theorem fine_iff {ns : List Nat} : fine (rlW ds69 (cl69 ns) (Str.ofString "road")) ↔ ns.length < 20 ∧ ∀ n ∈ ns, n ≤ 34 := by
  have hlen : (rlW ds69 (cl69 ns) (Str.ofString "road")).length = ns.length + 1 := by rw [rlW, cl69, List.length_append, List.length_map, List.length_map]; rfl
  constructor
  · rintro ⟨h1, h2⟩
    refine ⟨by omega, fun n hn => ?_⟩
    have := h2 (clW ds69 (nots n, Str.ofString "park")) (List.mem_append_left _ (List.mem_map.mpr ⟨_, List.mem_map.mpr ⟨n, hn, rfl⟩, rfl⟩))
    rw [clW_len] at this
    omega
  · rintro ⟨h1, h2⟩
    refine ⟨by omega, fun cs hcs => ?_⟩
    rcases List.mem_append.mp hcs with z | z
    · obtain ⟨c, hc, rfl⟩ := List.mem_map.mp z
      obtain ⟨n, hn, rfl⟩ := List.mem_map.mp hc
      have := h2 n hn
      rw [clW_len]; omega
    · rw [List.mem_singleton.mp z]; decide
def nI (n : Nat) : V := V.int (n : Int)
def PvWd (H : Hp) (n m : Nat) (σ : L2.St) (H' : Hp) : Prop := H' = H ∧ ∃ (u : V) (d : Nat), CondAt H (nots m) u ∧ d + m = n ∧ σ = [some u, some (.int d)]
def spDepth : Sp := fun vs H Q _ => ∃ (v : V) (n : Nat), vs = [v] ∧ CondAt H (nots n) v ∧ ∀ H', Same H H' → Q (.int n) H'
def spClauseL : Sp := fun vs H Q _ => ∃ n : Nat, vs = [.int n, .str (Str.ofString "park")] ∧ n ≤ 36 ∧ Q (.str (Str.join (Str.ofString " ") (clW ds69 (nots n, Str.ofString "park")))) H
def matchW (w : Str) (n : Nat) : Bool := decide (w = Str.ofString "hi") == decide (n % 2 = 0)
def dueP (w : Str) (ns : List Nat) : Str := if ns.any (matchW w) = true then Str.ofString "park" else Str.ofString "road"
theorem dueP_succ {w : Str} {ns : List Nat} {i n : Nat} (h : ns[i]? = some n) : dueP w (ns.take (i + 1)) = if matchW w n = true then Str.ofString "park" else dueP w (ns.take i) := by
  unfold dueP
  rw [List.take_add_one, h, List.any_append]
  show (if ((ns.take i).any (matchW w) || (matchW w n || false)) = true then _ else _) = _
  cases matchW w n <;> cases (ns.take i).any (matchW w) <;> rfl
def rl69 (rl : List (Addr × Cd × Str)) (tz : Addr) : List (Addr × Option Cd × Str) := (rl.map fun r => (r.1, some r.2.1, r.2.2)) ++ [(tz, none, Str.ofString "road")]
theorem deal_due {rl : List (Addr × Cd × Str)} {tz : Addr} {ns : List Nat} (hrl : rl.map (fun r => r.2) = cl69 ns) (w b : Str) : ∃ zs, dealtP (rl69 rl tz) [w, b] = dueP w ns :: zs := by
  have e1 : dealtP (rl69 rl tz) [w, b] = (((rl.map fun r => r.2).filter fun c => ev [w, b] c.1).map fun c => c.2) ++ [Str.ofString "road"] := by
    rw [dealtP, rl69, List.filter_append, List.map_append, List.filter_map, List.filter_map, List.map_map, List.map_map]
    rfl
  rw [e1, hrl, cl69, List.filter_map, List.map_map]
  have e2 : ((fun c : Cd × Str => ev [w, b] c.1) ∘ fun n => (nots n, Str.ofString "park")) = matchW w := by
    funext n
    exact ev_nots w b n
  rw [e2]
  unfold dueP
  cases h : ns.filter (matchW w) with
  | nil =>
    have : ¬ ns.any (matchW w) = true := fun z => by
      obtain ⟨n, hn, hm⟩ := List.any_eq_true.mp z
      have := List.mem_filter.mpr ⟨hn, hm⟩
      rw [h] at this
      cases this
    rw [if_neg this]
    exact ⟨_, rfl⟩
  | cons n r =>
    have hm : n ∈ ns.filter (matchW w) := by rw [h]; exact List.mem_cons_self
    obtain ⟨h1, h2⟩ := List.mem_filter.mp hm
    rw [if_pos (List.any_eq_true.mpr ⟨n, h1, h2⟩)]
    exact ⟨_, rfl⟩
def spRead : Sp := fun vs H Q _ => ∃ (l dl : Addr) (rl : List (Addr × Cd × Str)) (tz : Addr) (ns : List Nat), vs = [.ref l, .ref dl] ∧ H l = some (.lst ((rl.map fun r => V.ref r.1) ++ [.ref tz])) ∧ H tz = some (.tup [.non, .str (Str.ofString "road")]) ∧ rl.map (fun r => r.2) = cl69 ns ∧ (∀ r ∈ rl, ∃ x, H r.1 = some (.tup [x, .str r.2.2]) ∧ CondAt H r.2.1 x) ∧ H dl = some (.lst (ns.map nI)) ∧ ns.length ≤ 21 ∧ (∀ n ∈ ns, n ≤ 34) ∧ ∀ H', Q (.bl true) H'
def PvR1 (l dl : Addr) (H : Hp) (i : Nat) (σ : L2.St) (H' : Hp) : Prop := Same H H' ∧ ∃ v2 v3 v4 v5, σ = [some (.ref l), some (.ref dl), v2, v3, v4, v5]
def PvR2 (l dl : Addr) (w : Str) (ns : List Nat) (v2 : Option V) (H : Hp) (i : Nat) (σ : L2.St) (H' : Hp) : Prop := H' = H ∧ ∃ v5, σ = [some (.ref l), some (.ref dl), v2, some (.str w), some (.str (dueP w (ns.take i))), v5]
section
variable {P : Program} {w : World} {K : PySem.W.Frag} {mg : Str → Option Value} {base : Heap} {a : Ad}
set_option maxHeartbeats 4000000
theorem f_law_cell_at (B : Bt mg) (D : DefIn K mg "_law_cell_at" s_law_cell_at ["script", "k"]) : FnAt P w K mg base "_law_cell_at" 1 ["script", "k"] (spCell K) := by
  refine FnAt.of D sc_law_cell_at (fun vs H Q E h => ?_) (fun f cdv A outer s H vs Q E hr h => ?_)
  · obtain ⟨a, ns, k, rfl, _⟩ := h
    rfl
  · obtain ⟨a, ns, k, rfl, hS, hk, q⟩ := h
    refine ⟨_, (@pss_cons _ _ _ _ _ (@ps_if _ _ _ _ _ _ _ _ (@pt_cmpR _ _ _ _ _ _ _ _ op_lt (pv 1) (pe_callB call_len_seq rfl B.len bt_len (pa_cons (pv 0) (@pa_nil _))) (nomark _)) (@pss_one _ _ _ (@ps_ret _ _ _ _ (@pe_ix _ _ _ _ _ _ _ ix_list (pv 0) (pv 1) (fun _ _ => rfl)))) (@pss_nil _)) (@pss_one _ _ _ (@ps_ret _ _ _ _ (@pe_int _ _ _ _)))), ?_⟩
    rw [show start ["script", "k"] [V.ref a, V.int k] = [some (V.ref a), some (V.int k)] from rfl]
    simp only [runs1, List.length_cons, List.length_nil, Nat.zero_add, List.replicate_succ, List.replicate_zero, List.drop_succ_cons, List.drop_zero, Int.zero_add, List.getElem?_cons_zero, List.getElem?_cons_succ, List.set_cons_zero, List.set_cons_succ, Option.some.injEq, V.int.injEq, V.ref.injEq, V.bl.injEq, V.ty.injEq, V.str.injEq, List.cons.injEq, List.append_nil, List.cons_append, List.nil_append, exists_eq, exists_eq', exists_eq_left, exists_eq_left', exists_and_left, exists_and_right, and_assoc, true_and, and_true, ↓reduceIte]
    refine ⟨ns.map V.int, .inl hS, ?_⟩
    rw [List.length_map]
    refine ite2 (fun h => ?_) (fun h => ?_)
    · have h' : k < ns.length := of_decide_eq_true h
      have hlt : k.toNat < ns.length := by omega
      have e : ns[k.toNat]? = some ns[k.toNat] := by simp [hlt]
      have e2 := atI_nat (xs := ns.map V.int) (j := k.toNat) (v := V.int ns[k.toNat]) (by rw [List.getElem?_map, e]; rfl)
      rw [Int.toNat_of_nonneg hk] at e2
      exact ⟨ns.map V.int, hS, _, e2, q _⟩
    · exact q 0
theorem f_law_depth (D : DefIn K mg "_law_depth" s_law_depth ["condition"]) : FnAt P w K mg base "_law_depth" 1 ["condition"] spDepth := by
  refine FnAt.of D sc_law_depth (fun vs H Q E h => ?_) (fun f cdv A outer s H vs Q E hr h => ?_)
  · obtain ⟨v, n, rfl, _⟩ := h
    rfl
  · obtain ⟨v, n, rfl, hv, q⟩ := h
    refine ⟨_, (@pss_cons _ _ _ _ _ (ps_set (i := 1) sc_law_depth.nd rfl (Or.inl rfl) (@pe_int _ _ _ _)) (@pss_cons _ _ _ _ _ (@ps_while _ _ _ _ _ _ PassesOwn.never (@pt_cmpR _ _ _ _ _ _ _ _ op_eq (@pe_ix _ _ _ _ _ _ _ ix_tup (pv 0) (@pe_int _ _ _ _) (fun _ _ => rfl)) (@pe_str _ _ _ _) (nomark _)) (@pss_cons _ _ _ _ _ (ps_set (i := 0) sc_law_depth.nd rfl (Or.inl rfl) (@pe_ix _ _ _ _ _ _ _ ix_tup (pv 0) (@pe_int _ _ _ _) (fun _ _ => rfl))) (@pss_one _ _ _ (ps_set (i := 1) sc_law_depth.nd rfl (Or.inl rfl) (@pe_op _ _ _ _ _ _ _ _ op_add (pv 1) (@pe_int _ _ _ _)))))) (@pss_cons _ _ _ _ _ (@ps_if _ _ _ _ _ _ _ _ (@pt_cmpR _ _ _ _ _ _ _ _ (op_neT (Nat.lt_of_succ_lt (hu_of hr))) (pv 0) (@pe_tup _ _ _ _ _ (pa_cons (@pe_str _ _ _ _) (pa_cons (@pe_int _ _ _ _) (pa_cons (@pe_str _ _ _ _) (@pa_nil _))))) (nomark _)) (@pss_one _ _ _ (@ps_ret _ _ _ _ (@pe_un _ _ _ _ _ _ un_neg (@pe_int _ _ _ _)))) (@pss_nil _)) (@pss_one _ _ _ (@ps_ret _ _ _ _ (pv 1)))))), ?_⟩
    rw [show start ["condition", "depth"] [v] = [some v, none] from rfl]
    simp only [runs1, List.length_cons, List.length_nil, Nat.zero_add, List.replicate_succ, List.replicate_zero, List.drop_succ_cons, List.drop_zero, Int.zero_add, List.getElem?_cons_zero, List.getElem?_cons_succ, List.set_cons_zero, List.set_cons_succ, Option.some.injEq, V.int.injEq, V.ref.injEq, V.bl.injEq, V.ty.injEq, V.str.injEq, List.cons.injEq, List.append_nil, List.cons_append, List.nil_append, exists_eq, exists_eq', exists_eq_left, exists_eq_left', exists_and_left, exists_and_right, and_assoc, true_and, and_true, ↓reduceIte]
    refine ⟨PvWd H n, ⟨n, rfl, v, 0, hv, by omega, rfl⟩, ?_⟩
    rintro m σ H' ⟨rfl, u, d, hu, hd, rfl⟩
    simp only [runs1, List.length_cons, List.length_nil, Nat.zero_add, List.replicate_succ, List.replicate_zero, List.drop_succ_cons, List.drop_zero, Int.zero_add, List.getElem?_cons_zero, List.getElem?_cons_succ, List.set_cons_zero, List.set_cons_succ, Option.some.injEq, V.int.injEq, V.ref.injEq, V.bl.injEq, V.ty.injEq, V.str.injEq, List.cons.injEq, List.append_nil, List.cons_append, List.nil_append, exists_eq, exists_eq', exists_eq_left, exists_eq_left', exists_and_left, exists_and_right, and_assoc, true_and, and_true, ↓reduceIte]
    cases m with
    | succ m =>
      obtain ⟨t, x, rfl, ht, hx⟩ := hu
      refine ⟨t, rfl, _, .of ht, _, atI_nat (j := 0) rfl, rfl, ite2 (fun _ => ?_) (fun z => absurd (decide_eq_true rfl) z)⟩
      refine ⟨PvWd H' n m, fun σ' H2 h => ⟨m, Nat.lt_succ_self _, h⟩, ?_⟩
      exact ⟨t, rfl, _, .of ht, _, atI_nat (j := 1) rfl, rfl, x, d + 1, hx, by omega, by simp⟩
    | zero =>
      obtain ⟨t, rfl, ht⟩ := hu
      refine ⟨t, rfl, _, .of ht, _, atI_nat (j := 0) rfl, rfl, ite2 (fun z => absurd (of_decide_eq_true z) (by simp; decide)) (fun _ => ?_)⟩
      have en : d = n := by omega
      subst en
      refine ⟨by decide, fun p hp => ?_⟩
      have S1 : Same H' (upd H' p (.tup [V.str (Str.ofString "says"), V.int 0, V.str (Str.ofString "hi")])) := Same.upd (Same.refl _) hp
      refine ⟨t, rfl, _, .of (S1 _ _ ht), _, .of upd_same, rfl, rfl, ite2 (fun z => ?_) (fun _ => q _ S1)⟩
      have e : eqVs [V.str (Str.ofString "says"), V.int ((0 : Nat) : Int), V.str (Str.ofString "hi")] [V.str (Str.ofString "says"), V.int 0, V.str (Str.ofString "hi")] = true := by decide +kernel
      rw [e] at z
      cases z
theorem f_law_clause (B : Bt mg) (D : DefIn K mg "_law_clause" s_law_clause ["depth", "outcome"]) : FnAt P w K mg base "_law_clause" 1 ["depth", "outcome"] spClauseL := by
  refine FnAt.of D sc_law_clause (fun vs H Q E h => ?_) (fun f cdv A outer s H vs Q E hr h => ?_)
  · obtain ⟨n, rfl, _⟩ := h
    rfl
  · obtain ⟨n, rfl, hn, q⟩ := h
    refine ⟨_, (@pss_one _ _ _ (@ps_ret _ _ _ _ (@pe_op _ _ _ _ _ _ _ _ op_add_str (@pe_op _ _ _ _ _ _ _ _ op_add_str (@pe_op _ _ _ _ _ _ _ _ op_add_str (@pe_str _ _ _ _) (@pe_op _ _ _ _ _ _ _ _ op_mulS (@pe_str _ _ _ _) (pv 0))) (@pe_str _ _ _ _)) (pv 1)))), ?_⟩
    rw [show start ["depth", "outcome"] [V.int n, V.str (Str.ofString "park")] = [some (V.int n), some (V.str (Str.ofString "park"))] from rfl]
    simp only [runs1, List.length_cons, List.length_nil, Nat.zero_add, List.replicate_succ, List.replicate_zero, List.drop_succ_cons, List.drop_zero, Int.zero_add, List.getElem?_cons_zero, List.getElem?_cons_succ, List.set_cons_zero, List.set_cons_succ, Option.some.injEq, V.int.injEq, V.ref.injEq, V.bl.injEq, V.ty.injEq, V.str.injEq, List.cons.injEq, List.append_nil, List.cons_append, List.nil_append, exists_eq, exists_eq', exists_eq_left, exists_eq_left', exists_and_left, exists_and_right, and_assoc, true_and, and_true, ↓reduceIte]
    rw [← clause_text] at q
    have e1 : (Str.ofString "when ").length = 5 := by decide +kernel
    have e2 : (Str.ofString "not ").length = 4 := by decide +kernel
    have e3 : (Str.ofString "says ana hi deal ").length = 17 := by decide +kernel
    have e4 : (Str.ofString "park").length = 4 := by decide +kernel
    rw [Int.toNat_natCast, Str.length_append, Str.length_append, Str.length_append, strMul_len, e1, e2, e3, e4]
    refine ⟨by omega, by omega, ?_, ?_, ?_, ?_, q⟩
    · exact Nat.le_trans (show _ ≤ 200 by omega) (by decide)
    · exact Nat.le_trans (show _ ≤ 200 by omega) (by decide)
    · exact Nat.le_trans (show _ ≤ 200 by omega) (by decide)
    · exact Nat.le_trans (show _ ≤ 200 by omega) (by decide)
theorem f_law_read (B : Bt mg) (f_law_depth : FnAt P w K mg base "_law_depth" 1 ["condition"] spDepth) (f_dealt : FnAt P w K mg base "dealt" 43 ["rule", "row"] (spDealt K)) (D : DefIn K mg "_law_read" s_law_read ["found", "depths"]) : FnAt P w K mg base "_law_read" 44 ["found", "depths"] spRead := by
  refine FnAt.of D sc_law_read (fun vs H Q E h => ?_) (fun f cdv A outer s H vs Q E hr h => ?_)
  · obtain ⟨l, dl, rl, tz, ns, rfl, _⟩ := h
    rfl
  · obtain ⟨l, dl, rl, tz, ns, rfl, hl, htz, hrl, hR, hdl, l21, h34, q⟩ := h
    refine ⟨_, (@pss_cons _ _ _ _ _ (@ps_if _ _ _ _ _ _ _ _ (PW.pt (@pw_or _ _ _ _ _ _ _ (@pt_not _ _ _ _ (pt_val (pe_callB call_isinst rfl B.isinstance bt_isinstance (pa_cons (pv 0) (pa_cons (pe_ty rfl B.list bt_list) (@pa_nil _)))))) (@pw_or _ _ _ _ _ _ _ (@pt_cmpR _ _ _ _ _ _ _ _ op_ne (pe_callB call_len_seq rfl B.len bt_len (pa_cons (pv 0) (@pa_nil _))) (@pe_op _ _ _ _ _ _ _ _ op_add (pe_callB call_len_seq rfl B.len bt_len (pa_cons (pv 1) (@pa_nil _))) (@pe_int _ _ _ _)) (nomark _)) (@pw_or1 _ _ _ _ (@pt_cmpR _ _ _ _ _ _ _ _ (op_neT (Nat.lt_of_succ_lt (hu_of hr))) (@pe_ix _ _ _ _ _ _ _ ix_list (pv 0) (@pe_un _ _ _ _ _ _ un_neg (@pe_int _ _ _ _)) (fun _ _ => rfl)) (@pe_tup _ _ _ _ _ (pa_cons (@pe_non _ _ _) (pa_cons (@pe_str _ _ _ _) (@pa_nil _)))) (nomark _)))))) (@pss_one _ _ _ (@ps_ret _ _ _ _ (@pe_bl _ _ _ _))) (@pss_nil _)) (@pss_cons _ _ _ _ _ (ps_for PassesOwn.never rfl (pi_range1 rfl B.range (pa_cons (pe_callB call_len_seq rfl B.len bt_len (pa_cons (pv 1) (@pa_nil _))) (@pa_nil _))) (pg_name (i := 2) sc_law_read.nd rfl (Or.inl rfl)) (@pss_one _ _ _ (@ps_if _ _ _ _ _ _ _ _ (PW.pt (@pw_or _ _ _ _ _ _ _ (@pt_cmpR _ _ _ _ _ _ _ _ op_ne (pe_callA f_law_depth (hr.mono (by decide)) rfl (pa_cons (@pe_ix _ _ _ _ _ _ _ ix_tup (@pe_ix _ _ _ _ _ _ _ ix_list (pv 0) (pv 2) (fun _ _ => rfl)) (@pe_int _ _ _ _) (fun _ _ => rfl)) (@pa_nil _))) (@pe_ix _ _ _ _ _ _ _ ix_list (pv 1) (pv 2) (fun _ _ => rfl)) (nomark _)) (@pw_or1 _ _ _ _ (@pt_cmpR _ _ _ _ _ _ _ _ op_ne (@pe_ix _ _ _ _ _ _ _ ix_tup (@pe_ix _ _ _ _ _ _ _ ix_list (pv 0) (pv 2) (fun _ _ => rfl)) (@pe_int _ _ _ _) (fun _ _ => rfl)) (@pe_str _ _ _ _) (nomark _))))) (@pss_one _ _ _ (@ps_ret _ _ _ _ (@pe_bl _ _ _ _))) (@pss_nil _)))) (@pss_cons _ _ _ _ _ (ps_for PassesOwn.never rfl (@pi_list _ _ _ _ (@pe_lst _ _ _ _ (pa_cons (@pe_str _ _ _ _) (pa_cons (@pe_str _ _ _ _) (@pa_nil _))))) (pg_name (i := 3) sc_law_read.nd rfl (Or.inl rfl)) (@pss_cons _ _ _ _ _ (ps_set (i := 4) sc_law_read.nd rfl (Or.inl rfl) (@pe_str _ _ _ _)) (@pss_cons _ _ _ _ _ (ps_for PassesOwn.never rfl (@pi_list _ _ _ _ (pv 1)) (pg_name (i := 5) sc_law_read.nd rfl (Or.inl rfl)) (@pss_one _ _ _ (@ps_if _ _ _ _ _ _ _ _ (@pt_cmpR _ _ _ _ _ _ _ _ op_eq (@pe_cmpR _ _ _ _ _ _ _ _ op_eq (pv 3) (@pe_str _ _ _ _) (nomark _)) (@pe_cmpR _ _ _ _ _ _ _ _ op_eq (@pe_op _ _ _ _ _ _ _ _ op_mod (pv 5) (@pe_int _ _ _ _)) (@pe_int _ _ _ _) (nomark _)) (nomark _)) (@pss_one _ _ _ (ps_set (i := 4) sc_law_read.nd rfl (Or.inl rfl) (@pe_str _ _ _ _))) (@pss_nil _)))) (@pss_one _ _ _ (@ps_if _ _ _ _ _ _ _ _ (@pt_cmpR _ _ _ _ _ _ _ _ op_ne (pe_callA f_dealt (hr.mono (by decide)) rfl (@pa_cons _ _ _ _ _ (pv 0) (@pa_cons _ _ _ _ _ (@pe_tup _ _ _ _ _ (@pa_cons _ _ _ _ _ (pv 3) (@pa_cons _ _ _ _ _ (@pe_str _ _ _ _) (@pa_nil _) (star_of nofun)) (star_of nofun))) (@pa_nil _) (star_of nofun)) (star_of nofun))) (pv 4) (nomark _)) (@pss_one _ _ _ (@ps_ret _ _ _ _ (@pe_bl _ _ _ _))) (@pss_nil _)))))) (@pss_one _ _ _ (@ps_ret _ _ _ _ (@pe_bl _ _ _ _)))))), ?_⟩
    rw [show start ["found", "depths", "k", "word", "due", "depth"] [V.ref l, V.ref dl] = [some (V.ref l), some (V.ref dl), none, none, none, none] from rfl]
    simp only [runs1, List.length_cons, List.length_nil, Nat.zero_add, List.replicate_succ, List.replicate_zero, List.drop_succ_cons, List.drop_zero, Int.zero_add, List.getElem?_cons_zero, List.getElem?_cons_succ, List.set_cons_zero, List.set_cons_succ, Option.some.injEq, V.int.injEq, V.ref.injEq, V.bl.injEq, V.ty.injEq, V.str.injEq, List.cons.injEq, List.append_nil, List.cons_append, List.nil_append, exists_eq, exists_eq', exists_eq_left, exists_eq_left', exists_and_left, exists_and_right, and_assoc, true_and, and_true, ↓reduceIte]
    have lrl : rl.length = ns.length := by have := congrArg List.length hrl; rwa [List.length_map, cl69, List.length_map] at this
    have hfl : ((rl.map fun r => V.ref r.1) ++ [V.ref tz]).length = ns.length + 1 := by rw [List.length_append, List.length_map, lrl]; rfl
    have aL : atI ((rl.map fun r => V.ref r.1) ++ [V.ref tz]) (-1) = some (V.ref tz) := atI_neg (k := 1) (by decide) (by omega) (by rw [hfl, Nat.add_sub_cancel, List.getElem?_append_right (by rw [List.length_map, lrl]; exact Nat.le_refl _), List.length_map, lrl, Nat.sub_self]; rfl)
    refine ⟨_, .lst hl, true, kit_hll, iteF ⟨_, .inl (.of hl), _, .inl (.of hdl), rfl, ?_⟩⟩
    rw [hfl, List.length_map]
    refine ite2 (fun z => absurd z (by simp)) (fun _ => ⟨_, .of hl, _, aL, by decide, fun p hp => ?_⟩)
    have S1 : Same H (upd H p (.tup [V.non, V.str (Str.ofString "road")])) := Same.upd (Same.refl _) hp
    have u1 : upd H p (.tup [V.non, V.str (Str.ofString "road")]) p = some (.tup [V.non, V.str (Str.ofString "road")]) := upd_same
    generalize upd H p (.tup [V.non, V.str (Str.ofString "road")]) = H1 at *
    have e0 : eqVs [V.non, V.str (Str.ofString "road")] [V.non, V.str (Str.ofString "road")] = true := by decide +kernel
    refine ⟨tz, rfl, _, .of (S1 _ _ htz), _, .of u1, rfl, rfl, ite2 (fun z => by rw [e0] at z; cases z) (fun _ => ⟨_, .inl (.of (S1 _ _ hdl)), by omega, by rw [List.length_map]; omega, ?_⟩)⟩
    rw [List.length_map, Int.toNat_natCast]
    have hget : ∀ (k : Nat) (hk : k < ns.length), ∃ r x, rl[k]? = some r ∧ r.2 = (nots ns[k], Str.ofString "park") ∧ (∀ H', Same H H' → H' r.1 = some (.tup [x, .str (Str.ofString "park")]) ∧ CondAt H' (nots ns[k]) x) := fun k hk => by
      have hk2 : k < rl.length := by omega
      have er : rl[k]? = some rl[k] := List.getElem?_eq_getElem hk2
      have e2 : (rl.map fun r => r.2)[k]? = some (nots ns[k], Str.ofString "park") := by rw [hrl, cl69, List.getElem?_map, List.getElem?_eq_getElem hk]; rfl
      rw [List.getElem?_map, er] at e2
      have e3 : (rl[k]).2 = (nots ns[k], Str.ofString "park") := by injection e2
      obtain ⟨x, h1, h2⟩ := hR _ (List.getElem_mem hk2)
      rw [e3] at h1 h2
      exact ⟨_, x, er, e3, fun H' S => ⟨S _ _ h1, h2.mono S⟩⟩
    refine for_range (PvR1 l dl H1) ⟨Same.refl _, _, _, _, _, rfl⟩ ?_ ?_
    · rintro k σ H2 hk ⟨S2, v2, v3, v4, v5, rfl⟩
      obtain ⟨r, x, er, e3, hx⟩ := hget k hk
      have S02 := S1.trans S2
      obtain ⟨hr1, hcx⟩ := hx H2 S02
      have aK : atI ((rl.map fun r => V.ref r.1) ++ [V.ref tz]) (k : Int) = some (V.ref r.1) := atI_nat (by rw [List.getElem?_append_left (by rw [List.length_map]; omega), List.getElem?_map, er]; rfl)
      have aD : atI (ns.map nI) (k : Int) = some (V.int (ns[k] : Int)) := atI_nat (by rw [List.getElem?_map, List.getElem?_eq_getElem hk]; rfl)
      simp only [runs1, List.length_cons, List.length_nil, Nat.zero_add, List.replicate_succ, List.replicate_zero, List.drop_succ_cons, List.drop_zero, Int.zero_add, List.getElem?_cons_zero, List.getElem?_cons_succ, List.set_cons_zero, List.set_cons_succ, Option.some.injEq, V.int.injEq, V.ref.injEq, V.bl.injEq, V.ty.injEq, V.str.injEq, List.cons.injEq, List.append_nil, List.cons_append, List.nil_append, exists_eq, exists_eq', exists_eq_left, exists_eq_left', exists_and_left, exists_and_right, and_assoc, true_and, and_true, ↓reduceIte]
      refine ⟨_, .of (S02 _ _ hl), _, aK, r.1, rfl, _, .of hr1, _, atI_nat (j := 0) rfl, x, ns[k], rfl, hcx, fun H3 S3 => ?_⟩
      exact ⟨_, .of ((S02.trans S3) _ _ hdl), _, aD, rfl, ite2 (fun z => absurd z (by simp)) (fun _ => ⟨_, .of ((S02.trans S3) _ _ hl), _, aK, r.1, rfl, _, .of (S3 _ _ hr1), _, atI_nat (j := 1) rfl, rfl, ite2 (fun z => absurd z (by simp)) (fun _ => ⟨S2.trans S3, _, _, _, _, rfl⟩)⟩)⟩
    · rintro σ H2 ⟨S2, v2, v3, v4, v5, rfl⟩
      simp only [runs1, List.length_cons, List.length_nil, Nat.zero_add, List.replicate_succ, List.replicate_zero, List.drop_succ_cons, List.drop_zero, Int.zero_add, List.getElem?_cons_zero, List.getElem?_cons_succ, List.set_cons_zero, List.set_cons_succ, Option.some.injEq, V.int.injEq, V.ref.injEq, V.bl.injEq, V.ty.injEq, V.str.injEq, List.cons.injEq, List.append_nil, List.cons_append, List.nil_append, exists_eq, exists_eq', exists_eq_left, exists_eq_left', exists_and_left, exists_and_right, and_assoc, true_and, and_true, ↓reduceIte]
      refine ⟨by decide, fun p2 hp2 => ?_⟩
      have S3 : Same H2 (upd H2 p2 (.lst ([Str.ofString "hi", Str.ofString "lo"].map V.str))) := Same.upd (Same.refl _) hp2
      have u3 : upd H2 p2 (.lst ([Str.ofString "hi", Str.ofString "lo"].map V.str)) p2 = some (.lst ([Str.ofString "hi", Str.ofString "lo"].map V.str)) := upd_same
      change (∃ xs, SqL K (upd H2 p2 (.lst ([Str.ofString "hi", Str.ofString "lo"].map V.str))) p2 xs) ∧ ForW _ _ _ _ _ (upd H2 p2 (.lst ([Str.ofString "hi", Str.ofString "lo"].map V.str)))
      generalize upd H2 p2 (.lst ([Str.ofString "hi", Str.ofString "lo"].map V.str)) = H3 at *
      have S03 := S1.trans (S2.trans S3)
      refine ⟨⟨_, .of u3⟩, ?_⟩
      refine for_list (xs := [Str.ofString "hi", Str.ofString "lo"].map V.str) (PvR1 l dl H3) ⟨Same.refl _, _, _, _, _, rfl⟩ ?_ ?_ ?_
      · rintro i σ H4 hi ⟨S4, v2, v3, v4, v5, rfl⟩
        exact .of (S4 _ _ u3)
      · rintro i x σ H4 hx ⟨S4, v2, v3, v4, v5, rfl⟩
        rw [List.getElem?_map] at hx
        obtain ⟨wz, hwz⟩ : ∃ y, [Str.ofString "hi", Str.ofString "lo"][i]? = some y := by
          cases e : [Str.ofString "hi", Str.ofString "lo"][i]? with
          | none => rw [e] at hx; cases hx
          | some y => exact ⟨y, rfl⟩
        rw [hwz] at hx
        cases hx
        have S04 := S03.trans S4
        simp only [runs1, List.length_cons, List.length_nil, Nat.zero_add, List.replicate_succ, List.replicate_zero, List.drop_succ_cons, List.drop_zero, Int.zero_add, List.getElem?_cons_zero, List.getElem?_cons_succ, List.set_cons_zero, List.set_cons_succ, Option.some.injEq, V.int.injEq, V.ref.injEq, V.bl.injEq, V.ty.injEq, V.str.injEq, List.cons.injEq, List.append_nil, List.cons_append, List.nil_append, exists_eq, exists_eq', exists_eq_left, exists_eq_left', exists_and_left, exists_and_right, and_assoc, true_and, and_true, ↓reduceIte]
        refine ⟨⟨_, .of (S04 _ _ hdl)⟩, ?_⟩
        refine for_list (xs := ns.map nI) (PvR2 l dl wz ns v2 H4) ⟨rfl, _, rfl⟩ ?_ ?_ ?_
        · rintro j σ H5 hj ⟨rfl, v5, rfl⟩
          exact .of (S04 _ _ hdl)
        · rintro j x σ H5 hx ⟨rfl, v5, rfl⟩
          rw [List.getElem?_map] at hx
          obtain ⟨n, hn⟩ : ∃ y, ns[j]? = some y := by
            cases e : ns[j]? with
            | none => rw [e] at hx; cases hx
            | some y => exact ⟨y, rfl⟩
          rw [hn] at hx
          cases hx
          show gName 5 (V.int (n : Int)) _ _ _
          simp only [runs1, List.length_cons, List.length_nil, Nat.zero_add, List.replicate_succ, List.replicate_zero, List.drop_succ_cons, List.drop_zero, Int.zero_add, List.getElem?_cons_zero, List.getElem?_cons_succ, List.set_cons_zero, List.set_cons_succ, Option.some.injEq, V.int.injEq, V.ref.injEq, V.bl.injEq, V.ty.injEq, V.str.injEq, List.cons.injEq, List.append_nil, List.cons_append, List.nil_append, exists_eq, exists_eq', exists_eq_left, exists_eq_left', exists_and_left, exists_and_right, and_assoc, true_and, and_true, ↓reduceIte]
          have em : matchW wz n = decide (decide (wz = Str.ofString "hi") = decide ((n : Int) % 2 = 0)) := by
            have : decide ((n : Int) % 2 = 0) = decide (n % 2 = 0) := decide_eq_decide.mpr (by omega)
            rw [this, matchW]
            cases decide (wz = Str.ofString "hi") <;> cases decide (n % 2 = 0) <;> rfl
          have ed := dueP_succ (w := wz) hn
          rw [em] at ed
          exact ⟨rfl, by decide, rfl, rfl, ite2 (fun z => ⟨rfl, some (V.int n), by rw [ed, if_pos z]⟩) (fun z => ⟨rfl, some (V.int n), by rw [ed, if_neg z]⟩)⟩
        · rintro σ H5 ⟨rfl, v5, rfl⟩
          rw [List.length_map, List.take_length]
          simp only [runs1, List.length_cons, List.length_nil, Nat.zero_add, List.replicate_succ, List.replicate_zero, List.drop_succ_cons, List.drop_zero, Int.zero_add, List.getElem?_cons_zero, List.getElem?_cons_succ, List.set_cons_zero, List.set_cons_succ, Option.some.injEq, V.int.injEq, V.ref.injEq, V.bl.injEq, V.ty.injEq, V.str.injEq, List.cons.injEq, List.append_nil, List.cons_append, List.nil_append, exists_eq, exists_eq', exists_eq_left, exists_eq_left', exists_and_left, exists_and_right, and_assoc, true_and, and_true, ↓reduceIte]
          refine ⟨by decide, fun t ht => ?_⟩
          have S5 : Same H5 (upd H5 t (.tup ([wz, Str.ofString "no"].map V.str))) := Same.upd (Same.refl _) ht
          obtain ⟨zs, hzs⟩ := deal_due (tz := tz) hrl wz (Str.ofString "no")
          have S05 := S04.trans S5
          refine ⟨l, t, rl69 rl tz, [wz, Str.ofString "no"], dueP wz ns, zs, rfl, ⟨?_, fun c hc => ?_⟩, ?_, upd_same, hzs, fun H6 S6 => ⟨rfl, ite2 (fun z => absurd z (by simp)) (fun _ => ⟨S4.trans (S5.trans S6), _, _, _, _, rfl⟩)⟩⟩
          · rw [rl69, List.map_append, List.map_map]
            exact S05 _ _ hl
          · rcases List.mem_append.mp hc with z | z
            · obtain ⟨r, hr', rfl⟩ := List.mem_map.mp z
              obtain ⟨x, h1, h2⟩ := hR r hr'
              have hm : r.2 ∈ rl.map (fun r => r.2) := List.mem_map.mpr ⟨r, hr', rfl⟩
              rw [hrl] at hm
              obtain ⟨n, hn, en⟩ := List.mem_map.mp hm
              have h3 := h34 n hn
              refine ⟨⟨x, S05 _ _ h1, h2.mono S05⟩, ?_, ?_⟩
              · show fit 2 r.2.1
                rw [← en]
                exact fit_nots n
              · show dep r.2.1 < 40
                rw [← en, dep_nots]
                omega
            · rw [List.mem_singleton.mp z]
              exact ⟨⟨.non, S05 _ _ htz, rfl⟩, trivial, (show 0 < 40 by decide)⟩
          · rw [rl69, List.length_append, List.length_map, lrl]
            show ns.length + 1 ≤ 60
            omega
      · rintro σ H4 ⟨S4, v2, v3, v4, v5, rfl⟩
        simp only [runs1, List.length_cons, List.length_nil, Nat.zero_add, List.replicate_succ, List.replicate_zero, List.drop_succ_cons, List.drop_zero, Int.zero_add, List.getElem?_cons_zero, List.getElem?_cons_succ, List.set_cons_zero, List.set_cons_succ, Option.some.injEq, V.int.injEq, V.ref.injEq, V.bl.injEq, V.ty.injEq, V.str.injEq, List.cons.injEq, List.append_nil, List.cons_append, List.nil_append, exists_eq, exists_eq', exists_eq_left, exists_eq_left', exists_and_left, exists_and_right, and_assoc, true_and, and_true, ↓reduceIte]
        exact q _
end

def ctx69 (n : Nat) : Str := Str.join (Str.ofString " ") (clW ds69 (nots n, Str.ofString "park"))
def PvTx (H : Hp) (ns : List Nat) (i : Nat) (ys : List V) (H' : Hp) : Prop := H' = H ∧ ys = ((ns.take i).map ctx69).map V.str
def PvFi (H : Hp) (ns : List Nat) (i : Nat) (ys : List V) (H' : Hp) : Prop := H' = H ∧ ys = ((ns.take i).filter fun n => decide (34 < n)).map nI
def PvDp (H : Hp) (i : Nat) (ys : List V) (H' : Hp) : Prop := H' = H ∧ ∃ ns : List Nat, ys = ns.map nI ∧ ns.length = i ∧ ∀ n ∈ ns, n ≤ 33
def J69 (a : Ad) (H4 : Hp) (σ0 : L2.St) (g : Bool) (σ : L2.St) (c : Value) (H' : Hp) : Prop := Same H4 H' ∧ σ = σ0 ∧ c = .ref a.NoRule ∧ g = false
section
variable {P : Program} {w : World} {K : PySem.W.Frag} {mg : Str → Option Value} {base : Heap} {a : Ad}
set_option maxHeartbeats 4000000
theorem law_fn (B : Bt mg) (C : Ct K mg a) (f_law_cell_at : FnAt P w K mg base "_law_cell_at" 1 ["script", "k"] (spCell K)) (f_house_of : FnAtX P w K mg base "house_of" 7 ["outcomes", "hands"] spHouseH) (f_law_clause : FnAt P w K mg base "_law_clause" 1 ["depth", "outcome"] spClauseL) (f_read_rule : FnAtX P w K mg base "read_rule" 46 ["house", "text"] (spReadRule a False)) (f_law_read : FnAt P w K mg base "_law_read" 44 ["found", "depths"] spRead) {f : Addr} {fd : FuncData} (F : Fun K "law" "law" s_law f fd) : FnOk P w K mg base CX0 50 f fd ["script"] (spLaw K) := by
  refine F.ok sc_law (fun vs H Q E h => ?_) (fun cdv A outer s H vs Q E hr h => ?_)
  · obtain ⟨b, ns, rfl, _⟩ := h
    rfl
  · obtain ⟨sc, cells, rfl, hS, hlen, q⟩ := h
    have rest3 : ∃ tr, PSs (cxOf CX0 P w K mg base ["script", "hands", "house", "first", "many", "far", "depths", "cell", "deep", "text", "good", "found", "refused", "e"] "law" (defScope s_law) f cdv A outer s H E).nox ((defBody s_law).drop 11) tr ∧
        ∀ (H1 : Hp) (p11 hp o' hh dl : Addr) (hs : List Addr) (ns : List Nat) (g : Bool) (v3 v4 v5 v7 v8 : Option V), Same H H1 → HHouse H1 hp o' hh hs outs69 ds69 → H1 dl = some (.lst (ns.map nI)) → ns.length ≤ 21 → (∀ n ∈ ns, n ≤ 36) → (g = true ↔ fine (rlW ds69 (cl69 ns) (Str.ofString "road"))) →
          tr { nx := fun _ H' => Q .non H', rt := Q } [some (.ref sc), some (.ref p11), some (.ref hp), v3, v4, v5, some (.ref dl), v7, v8, some (.str (Txt.join (Str.ofString "; ") (txts ns))), some (.bl g), none, none, none] H1 := by
      have s11 : PS (cxOf CX0 P w K mg base ["script", "hands", "house", "first", "many", "far", "depths", "cell", "deep", "text", "good", "found", "refused", "e"] "law" (defScope s_law) f cdv A outer s H E).nox ((defBody s_law).getD 11 (.Pass ⟨0, 0, 0, 0⟩)) _ := (ps_set (i := 11) sc_law.nd rfl (Or.inl rfl) (@pe_non _ _ _))
      have s12 : PS (cxOf CX0 P w K mg base ["script", "hands", "house", "first", "many", "far", "depths", "cell", "deep", "text", "good", "found", "refused", "e"] "law" (defScope s_law) f cdv A outer s H E).nox ((defBody s_law).getD 12 (.Pass ⟨0, 0, 0, 0⟩)) _ := (ps_set (i := 12) sc_law.nd rfl (Or.inl rfl) (@pe_bl _ _ _ _))
      have s13 : PS (cxOf CX0 P w K mg base ["script", "hands", "house", "first", "many", "far", "depths", "cell", "deep", "text", "good", "found", "refused", "e"] "law" (defScope s_law) f cdv A outer s H E).nox ((defBody s_law).getD 13 (.Pass ⟨0, 0, 0, 0⟩)) _ := (ps_try_as (i := 13) C.q_NoRule.toErr rfl C.m_NoRule sc_law.nd rfl rfl (fun J pn => (@pss_one _ _ _ (ps_set (i := 11) sc_law.nd rfl (Or.inl rfl) (pe_callX f_read_rule (hr.mono (by decide)) takes_try rfl (pa_cons (pv 2) (pa_cons (pv 9) (@pa_nil _))))))) (fun e => (@pss_one _ _ _ (ps_set (i := 12) sc_law.nd rfl (Or.inl rfl) (pe_callB call_isinstE rfl B.isinstance bt_isinstance (pa_cons (pv 13) (pa_cons (pe_glob (v := .ref a.TrueError) rfl C.m_TrueError rfl) (@pa_nil _))))))))
      have s14 : PS (cxOf CX0 P w K mg base ["script", "hands", "house", "first", "many", "far", "depths", "cell", "deep", "text", "good", "found", "refused", "e"] "law" (defScope s_law) f cdv A outer s H E).nox ((defBody s_law).getD 14 (.Pass ⟨0, 0, 0, 0⟩)) _ := (@ps_if _ _ _ _ _ _ _ _ (@pt_not _ _ _ _ (pt_val (pv 10))) (@pss_one _ _ _ (@ps_ret _ _ _ _ (pv 12))) (@pss_nil _))
      have s15 : PS (cxOf CX0 P w K mg base ["script", "hands", "house", "first", "many", "far", "depths", "cell", "deep", "text", "good", "found", "refused", "e"] "law" (defScope s_law) f cdv A outer s H E).nox ((defBody s_law).getD 15 (.Pass ⟨0, 0, 0, 0⟩)) _ := (@ps_ret _ _ _ _ (@pe_and _ _ _ _ _ _ _ (@pe_not _ _ _ _ (pv 12)) (@pe_one _ _ _ _ _ (pe_callA f_law_read (hr.mono (by decide)) rfl (pa_cons (pv 11) (pa_cons (pv 6) (@pa_nil _)))))))
      have b15 : PSs (cxOf CX0 P w K mg base ["script", "hands", "house", "first", "many", "far", "depths", "cell", "deep", "text", "good", "found", "refused", "e"] "law" (defScope s_law) f cdv A outer s H E).nox ((defBody s_law).drop 15) _ := @pss_end _ _ _ _ _ @s15 rfl rfl
      have b14 : PSs (cxOf CX0 P w K mg base ["script", "hands", "house", "first", "many", "far", "depths", "cell", "deep", "text", "good", "found", "refused", "e"] "law" (defScope s_law) f cdv A outer s H E).nox ((defBody s_law).drop 14) _ := @pss_at _ _ _ _ _ _ @s14 rfl @b15
      have b13 : PSs (cxOf CX0 P w K mg base ["script", "hands", "house", "first", "many", "far", "depths", "cell", "deep", "text", "good", "found", "refused", "e"] "law" (defScope s_law) f cdv A outer s H E).nox ((defBody s_law).drop 13) _ := @pss_at _ _ _ _ _ _ @s13 rfl @b14
      have b12 : PSs (cxOf CX0 P w K mg base ["script", "hands", "house", "first", "many", "far", "depths", "cell", "deep", "text", "good", "found", "refused", "e"] "law" (defScope s_law) f cdv A outer s H E).nox ((defBody s_law).drop 12) _ := @pss_at _ _ _ _ _ _ @s12 rfl @b13
      have b11 : PSs (cxOf CX0 P w K mg base ["script", "hands", "house", "first", "many", "far", "depths", "cell", "deep", "text", "good", "found", "refused", "e"] "law" (defScope s_law) f cdv A outer s H E).nox ((defBody s_law).drop 11) _ := @pss_at _ _ _ _ _ _ @s11 rfl @b12
      refine ⟨_, @b11, fun H1 p11 hp o' hh dl hs ns g v3 v4 v5 v7 v8 T1 hH hdl l21 h36 hg => ?_⟩
      clear s11 s12 s13 s14 s15 b11 b12 b13 b14 b15
      simp only [runs1, List.length_cons, List.length_nil, Nat.zero_add, List.replicate_succ, List.replicate_zero, List.drop_succ_cons, List.drop_zero, Int.zero_add, List.getElem?_cons_zero, List.getElem?_cons_succ, List.set_cons_zero, List.set_cons_succ, Option.some.injEq, V.int.injEq, V.ref.injEq, V.bl.injEq, V.ty.injEq, V.str.injEq, List.cons.injEq, List.append_nil, List.cons_append, List.nil_append, exists_eq, exists_eq', exists_eq_left, exists_eq_left', exists_and_left, exists_and_right, and_assoc, true_and, and_true, ↓reduceIte]
      refine ⟨J69 a H1 [some (.ref sc), some (.ref p11), some (.ref hp), v3, v4, v5, some (.ref dl), v7, v8, some (.str (Txt.join (Str.ofString "; ") (txts ns))), some (.bl g), some .non, some (.bl false), none] g, fun pn => ?_, fun σ1 c H2 hJ => ?_⟩
      · refine ⟨hp, o', hh, hs, outs69, ds69, _, cl69 ns, Str.ofString "road", rfl, hH, good69, text_of h36 l21, fun c hc => ?_, by simp [outs69], fun hf H2 l rl tz S2 hn hl htz hrl hR => ?_, fun hnf H2 S2 => ⟨S2, rfl, rfl, ?_⟩⟩
        · obtain ⟨n, hn, rfl⟩ := List.mem_map.mp hc
          have := h36 n hn
          exact ⟨okc_nots n, (by show dep (nots n) < 40; rw [dep_nots]; omega), by simp [outs69]⟩
        · obtain rfl : g = true := hg.mpr hf
          exact iteF (ite2 (fun _ => ⟨l, dl, rl, tz, ns, rfl, hl, htz, hrl, hR, S2 _ _ hdl, l21, (fine_iff.mp hf).2, q⟩) (fun z => absurd rfl z))
        · cases g with
          | false => rfl
          | true => exact absurd (hg.mp rfl) hnf
      · obtain ⟨S2, rfl, rfl, rfl⟩ := hJ
        refine ⟨_, rfl, C.q_NoRule.toErr, C.s_NoRule_NoRule, fun e ea hea => ?_⟩
        refine ⟨_, rfl, ea, rfl, a.NoRule, upd_same, C.q_NoRule, true, C.k_NoRule_TrueError, ?_⟩
        simp only [unEnds, runs1, List.length_cons, List.length_nil, Nat.zero_add, List.replicate_succ, List.replicate_zero, List.drop_succ_cons, List.drop_zero, Int.zero_add, List.getElem?_cons_zero, List.getElem?_cons_succ, List.set_cons_zero, List.set_cons_succ, Option.some.injEq, V.int.injEq, V.ref.injEq, V.bl.injEq, V.ty.injEq, V.str.injEq, List.cons.injEq, List.append_nil, List.cons_append, List.nil_append, exists_eq, exists_eq', exists_eq_left, exists_eq_left', exists_and_left, exists_and_right, and_assoc, true_and, and_true, ↓reduceIte]
        exact ite2 (fun _ => q _) (fun z => absurd rfl z)
    have rest2 : ∃ tr, PSs (cxOf CX0 P w K mg base ["script", "hands", "house", "first", "many", "far", "depths", "cell", "deep", "text", "good", "found", "refused", "e"] "law" (defScope s_law) f cdv A outer s H E).nox ((defBody s_law).drop 9) tr ∧
        ∀ (H1 : Hp) (p11 hp o' hh dl : Addr) (hs : List Addr) (ns : List Nat) (v3 v5 v7 v8 : Option V), Same H H1 → HHouse H1 hp o' hh hs outs69 ds69 → H1 dl = some (.lst (ns.map nI)) → ns.length ≤ 21 → (∀ n ∈ ns, n ≤ 36) →
          tr { nx := fun _ H' => Q .non H', rt := Q } [some (.ref sc), some (.ref p11), some (.ref hp), v3, some (.int ns.length), v5, some (.ref dl), v7, v8, none, none, none, none, none] H1 := by
      obtain ⟨tr, hrest3, hR3⟩ := rest3
      have s9 : PS (cxOf CX0 P w K mg base ["script", "hands", "house", "first", "many", "far", "depths", "cell", "deep", "text", "good", "found", "refused", "e"] "law" (defScope s_law) f cdv A outer s H E).nox ((defBody s_law).getD 9 (.Pass ⟨0, 0, 0, 0⟩)) _ := (ps_set (i := 9) sc_law.nd rfl (Or.inl rfl) (pe_bm PySem.F.plainAttrs_str PySem.F.slot_str_join PySem.F.type_str_join mt_join (@pe_str _ _ _ _) (pa_cons (@pe_op _ _ _ _ _ _ _ _ op_cat (pe_comp ["depth"] ["script", "hands", "house", "first", "many", "far", "depths", "cell", "deep", "text", "good", "found", "refused", "e"] rfl (@pi_list _ _ _ _ (pv 6)) (fun _ => (pg_name (i := 0) (show (["depth", "script", "hands", "house", "first", "many", "far", "depths", "cell", "deep", "text", "good", "found", "refused", "e"] : List Str).Nodup by decide +kernel) rfl (Or.inl rfl))) (fun _ => (@pts_nil _)) (fun _ => (pe_callA f_law_clause (hr.mono (by decide)) rfl (pa_cons (pv 0) (pa_cons (@pe_str _ _ _ _) (@pa_nil _))))) rfl (by decide +kernel) rfl rfl) (@pe_lst _ _ _ _ (pa_cons (@pe_str _ _ _ _) (@pa_nil _)))) (@pa_nil _))))
      have s10 : PS (cxOf CX0 P w K mg base ["script", "hands", "house", "first", "many", "far", "depths", "cell", "deep", "text", "good", "found", "refused", "e"] "law" (defScope s_law) f cdv A outer s H E).nox ((defBody s_law).getD 10 (.Pass ⟨0, 0, 0, 0⟩)) _ := (ps_set (i := 10) sc_law.nd rfl (Or.inl rfl) (@pe_and _ _ _ _ _ _ _ (@pe_cmpR _ _ _ _ _ _ _ _ op_lt (pv 4) (@pe_int _ _ _ _) (nomark _)) (@pe_one _ _ _ _ _ (@pe_cmpR _ _ _ _ _ _ _ _ op_eq (pe_callB call_len_seq rfl B.len bt_len (pa_cons (pe_comp ["depth"] ["script", "hands", "house", "first", "many", "far", "depths", "cell", "deep", "text", "good", "found", "refused", "e"] rfl (@pi_list _ _ _ _ (pv 6)) (fun _ => (pg_name (i := 0) (show (["depth", "script", "hands", "house", "first", "many", "far", "depths", "cell", "deep", "text", "good", "found", "refused", "e"] : List Str).Nodup by decide +kernel) rfl (Or.inl rfl))) (fun _ => (@pts_one _ _ _ (@pt_cmpR _ _ _ _ _ _ _ _ op_gt (pv 0) (@pe_int _ _ _ _) (nomark _)))) (fun _ => (pv 0)) rfl (by decide +kernel) rfl rfl) (@pa_nil _))) (@pe_int _ _ _ _) (nomark _)))))
      have b10 : PSs (cxOf CX0 P w K mg base ["script", "hands", "house", "first", "many", "far", "depths", "cell", "deep", "text", "good", "found", "refused", "e"] "law" (defScope s_law) f cdv A outer s H E).nox ((defBody s_law).drop 10) _ := @pss_at _ _ _ _ _ _ @s10 rfl @hrest3
      have b9 : PSs (cxOf CX0 P w K mg base ["script", "hands", "house", "first", "many", "far", "depths", "cell", "deep", "text", "good", "found", "refused", "e"] "law" (defScope s_law) f cdv A outer s H E).nox ((defBody s_law).drop 9) _ := @pss_at _ _ _ _ _ _ @s9 rfl @b10
      refine ⟨_, @b9, fun H1 p11 hp o' hh dl hs ns v3 v5 v7 v8 T1 hH hdl l21 h36 => ?_⟩
      clear s9 s10 b9 b10
      simp only [runs1, List.length_cons, List.length_nil, Nat.zero_add, List.replicate_succ, List.replicate_zero, List.drop_succ_cons, List.drop_zero, Int.zero_add, List.getElem?_cons_zero, List.getElem?_cons_succ, List.set_cons_zero, List.set_cons_succ, Option.some.injEq, V.int.injEq, V.ref.injEq, V.bl.injEq, V.ty.injEq, V.str.injEq, List.cons.injEq, List.append_nil, List.cons_append, List.nil_append, exists_eq, exists_eq', exists_eq_left, exists_eq_left', exists_and_left, exists_and_right, and_assoc, true_and, and_true, ↓reduceIte]
      refine ⟨rfl, ⟨_, .of hdl⟩, fun d => ?_⟩
      refine comp_list (xs := ns.map nI) (PvTx H1 ns) ⟨rfl, rfl⟩ ?_ ?_ ?_
      · rintro i ys H2 hi ⟨rfl, rfl⟩
        refine ⟨?_, .of hdl⟩
        rw [List.length_map, List.length_map, List.length_take]
        exact Nat.le_trans (show _ ≤ 21 by omega) (by decide)
      · rintro i x ys H2 hx ⟨rfl, rfl⟩
        rw [List.getElem?_map] at hx
        obtain ⟨n, hn⟩ : ∃ y, ns[i]? = some y := by
          cases e : ns[i]? with
          | none => rw [e] at hx; cases hx
          | some y => exact ⟨y, rfl⟩
        rw [hn] at hx
        cases hx
        show gName 0 (V.int (n : Int)) _ _ _
        simp only [runs1, List.length_cons, List.length_nil, Nat.zero_add, List.replicate_succ, List.replicate_zero, List.drop_succ_cons, List.drop_zero, Int.zero_add, List.getElem?_cons_zero, List.getElem?_cons_succ, List.set_cons_zero, List.set_cons_succ, Option.some.injEq, V.int.injEq, V.ref.injEq, V.bl.injEq, V.ty.injEq, V.str.injEq, List.cons.injEq, List.append_nil, List.cons_append, List.nil_append, exists_eq, exists_eq', exists_eq_left, exists_eq_left', exists_and_left, exists_and_right, and_assoc, true_and, and_true, ↓reduceIte]
        refine ⟨n, rfl, h36 n (List.mem_of_getElem? hn), rfl, ?_⟩
        rw [List.take_add_one, hn, List.map_append, List.map_append]
        rfl
      · rintro ys H2 ⟨rfl, rfl⟩ l hl
        rw [List.length_map, List.take_length]
        have S2 : Same H2 (upd H2 l (.lst ((ns.map ctx69).map V.str))) := Same.upd (Same.refl _) hl
        have u2 : upd H2 l (.lst ((ns.map ctx69).map V.str)) l = some (.lst ((ns.map ctx69).map V.str)) := upd_same
        generalize upd H2 l (.lst ((ns.map ctx69).map V.str)) = H3 at *
        refine ⟨by decide, fun p hp3 => ?_⟩
        have S3 : Same H3 (upd H3 p (.lst [V.str (Str.ofString "deal road")])) := Same.upd (Same.refl _) hp3
        have u3 : upd H3 p (.lst [V.str (Str.ofString "deal road")]) p = some (.lst [V.str (Str.ofString "deal road")]) := upd_same
        generalize upd H3 p (.lst [V.str (Str.ofString "deal road")]) = H4 at *
        refine ⟨_, S3 _ _ u2, _, u3, ?_, fun p4 hp4 => ?_⟩
        · rw [List.length_map, List.length_map]
          exact Nat.le_trans (show ns.length + 1 ≤ 100 by omega) (by decide)
        have et : (ns.map ctx69).map V.str ++ [V.str (Str.ofString "deal road")] = (txts ns).map V.str := by rw [txts, List.map_append]; rfl
        rw [et]
        have S4 : Same H4 (upd H4 p4 (.lst ((txts ns).map V.str))) := Same.upd (Same.refl _) hp4
        have u4 : upd H4 p4 (.lst ((txts ns).map V.str)) p4 = some (.lst ((txts ns).map V.str)) := upd_same
        generalize upd H4 p4 (.lst ((txts ns).map V.str)) = H5 at *
        have S15 := S2.trans (S3.trans S4)
        have T5 := T1.trans S15
        refine ⟨txts ns, .of u4, txts_ok h36 l21, ite2 (fun z => ?_) (fun z => ?_)⟩
        · have z20 : ns.length < 20 := by have := of_decide_eq_true z; omega
          refine ⟨⟨_, .of (S15 _ _ hdl)⟩, fun d2 => ?_⟩
          refine comp_list (xs := ns.map nI) (PvFi H5 ns) ⟨rfl, rfl⟩ ?_ ?_ ?_
          · rintro i ys H6 hi ⟨rfl, rfl⟩
            refine ⟨?_, .of (S15 _ _ hdl)⟩
            rw [List.length_map]
            refine Nat.le_trans (List.length_filter_le _ _) ?_
            rw [List.length_take]
            exact Nat.le_trans (show _ ≤ 21 by omega) (by decide)
          · rintro i x ys H6 hx ⟨rfl, rfl⟩
            rw [List.getElem?_map] at hx
            obtain ⟨n, hn⟩ : ∃ y, ns[i]? = some y := by
              cases e : ns[i]? with
              | none => rw [e] at hx; cases hx
              | some y => exact ⟨y, rfl⟩
            rw [hn] at hx
            cases hx
            show gName 0 (V.int (n : Int)) _ _ _
            simp only [runs1, List.length_cons, List.length_nil, Nat.zero_add, List.replicate_succ, List.replicate_zero, List.drop_succ_cons, List.drop_zero, Int.zero_add, List.getElem?_cons_zero, List.getElem?_cons_succ, List.set_cons_zero, List.set_cons_succ, Option.some.injEq, V.int.injEq, V.ref.injEq, V.bl.injEq, V.ty.injEq, V.str.injEq, List.cons.injEq, List.append_nil, List.cons_append, List.nil_append, exists_eq, exists_eq', exists_eq_left, exists_eq_left', exists_and_left, exists_and_right, and_assoc, true_and, and_true, ↓reduceIte]
            have ef : (ns.take (i + 1)).filter (fun n => decide (34 < n)) = (ns.take i).filter (fun n => decide (34 < n)) ++ if 34 < n then [n] else [] := by
              rw [List.take_add_one, hn, List.filter_append]
              show _ ++ List.filter _ [n] = _
              rw [List.filter_cons, List.filter_nil]
              by_cases h : 34 < n
              · rw [if_pos h, if_pos (decide_eq_true h)]
              · rw [if_neg h, if_neg (fun z => h (of_decide_eq_true z))]
            refine ite2 (fun y => ⟨rfl, ?_⟩) (fun y => ⟨rfl, ?_⟩)
            · have := of_decide_eq_true y
              rw [ef, if_pos (by omega), List.map_append]
              rfl
            · have : ¬ 34 < n := fun z => y (decide_eq_true (by omega))
              rw [ef, if_neg this, List.append_nil]
          · rintro ys H6 ⟨rfl, rfl⟩ l6 hl6
            rw [List.length_map, List.take_length]
            have S6 : Same H6 (upd H6 l6 (.lst ((ns.filter fun n => decide (34 < n)).map nI))) := Same.upd (Same.refl _) hl6
            refine ⟨_, .inl (.of upd_same), rfl, hR3 _ p11 hp o' hh dl hs ns _ _ _ _ _ _ (T5.trans S6) (hH.mono (S15.trans S6)) ((S15.trans S6) _ _ hdl) l21 h36 ?_⟩
            rw [fine_iff, decide_eq_true_iff, List.length_map]
            constructor
            · intro h
              have h0 : ns.filter (fun n => decide (34 < n)) = [] := List.length_eq_zero_iff.mp (by omega)
              refine ⟨z20, fun n hn => ?_⟩
              by_cases h : 34 < n
              · have : n ∈ ns.filter (fun n => decide (34 < n)) := List.mem_filter.mpr ⟨hn, decide_eq_true h⟩
                rw [h0] at this
                cases this
              · omega
            · rintro ⟨_, h⟩
              have h0 : ns.filter (fun n => decide (34 < n)) = [] := List.filter_eq_nil_iff.mpr fun n hn => by
                have := h n hn
                simp
                omega
              rw [h0]
              rfl
        · refine hR3 _ p11 hp o' hh dl hs ns _ _ _ _ _ _ T5 (hH.mono S15) (S15 _ _ hdl) l21 h36 ?_
          rw [fine_iff]
          constructor
          · intro h; cases h
          · rintro ⟨h, _⟩
            exact absurd (decide_eq_true (by omega)) z
    have rest : ∃ tr, PSs (cxOf CX0 P w K mg base ["script", "hands", "house", "first", "many", "far", "depths", "cell", "deep", "text", "good", "found", "refused", "e"] "law" (defScope s_law) f cdv A outer s H E).nox ((defBody s_law).drop 2) tr ∧
        ∀ (H13 : Hp) (p11 hp o' hh : Addr) (hs : List Addr), Same H H13 → HHouse H13 hp o' hh hs outs69 ds69 → tr { nx := fun _ H' => Q .non H', rt := Q } [some (.ref sc), some (.ref p11), some (.ref hp), none, none, none, none, none, none, none, none, none, none, none] H13 := by
      obtain ⟨tr, hrest2, hR2⟩ := rest2
      have s2 : PS (cxOf CX0 P w K mg base ["script", "hands", "house", "first", "many", "far", "depths", "cell", "deep", "text", "good", "found", "refused", "e"] "law" (defScope s_law) f cdv A outer s H E).nox ((defBody s_law).getD 2 (.Pass ⟨0, 0, 0, 0⟩)) _ := (ps_set (i := 3) sc_law.nd rfl (Or.inl rfl) (pe_callA f_law_cell_at (hr.mono (by decide)) rfl (pa_cons (pv 0) (pa_cons (@pe_int _ _ _ _) (@pa_nil _)))))
      have s3 : PS (cxOf CX0 P w K mg base ["script", "hands", "house", "first", "many", "far", "depths", "cell", "deep", "text", "good", "found", "refused", "e"] "law" (defScope s_law) f cdv A outer s H E).nox ((defBody s_law).getD 3 (.Pass ⟨0, 0, 0, 0⟩)) _ := (ps_set (i := 4) sc_law.nd rfl (Or.inl rfl) (@pe_ix _ _ _ _ _ _ _ ix_list (@pe_lst _ _ _ _ (pa_cons (@pe_op _ _ _ _ _ _ _ _ op_mod (@pe_op _ _ _ _ _ _ _ _ op_fdiv (pv 3) (@pe_int _ _ _ _)) (@pe_int _ _ _ _)) (pa_cons (@pe_op _ _ _ _ _ _ _ _ op_add (@pe_int _ _ _ _) (@pe_op _ _ _ _ _ _ _ _ op_mod (@pe_op _ _ _ _ _ _ _ _ op_fdiv (pv 3) (@pe_int _ _ _ _)) (@pe_int _ _ _ _))) (@pa_nil _)))) (@pe_op _ _ _ _ _ _ _ _ op_mod (pv 3) (@pe_int _ _ _ _)) (fun _ _ => rfl)))
      have s4 : PS (cxOf CX0 P w K mg base ["script", "hands", "house", "first", "many", "far", "depths", "cell", "deep", "text", "good", "found", "refused", "e"] "law" (defScope s_law) f cdv A outer s H E).nox ((defBody s_law).getD 4 (.Pass ⟨0, 0, 0, 0⟩)) _ := (ps_set (i := 5) sc_law.nd rfl (Or.inr rfl) (@pe_op _ _ _ _ _ _ _ _ op_mul (@pe_int _ _ _ _) (pe_callTy call_int1 rfl B.int bt_int (pa_cons (@pe_cmpR _ _ _ _ _ _ _ _ op_eq (@pe_op _ _ _ _ _ _ _ _ op_mod (@pe_op _ _ _ _ _ _ _ _ op_fdiv (pv 3) (@pe_int _ _ _ _)) (@pe_int _ _ _ _)) (@pe_int _ _ _ _) (nomark _)) (@pa_nil _)))))
      have s5 : PS (cxOf CX0 P w K mg base ["script", "hands", "house", "first", "many", "far", "depths", "cell", "deep", "text", "good", "found", "refused", "e"] "law" (defScope s_law) f cdv A outer s H E).nox ((defBody s_law).getD 5 (.Pass ⟨0, 0, 0, 0⟩)) _ := (ps_setC (i := 6) ["k"] ["script", "hands", "house", "first", "many", "far", "depths", "cell", "deep", "text", "good", "found", "refused", "e"] sc_law.nd rfl rfl rfl (pi_range1 rfl B.range (pa_cons (pv 4) (@pa_nil _))) (fun _ => (pg_name (i := 0) (show (["k", "script", "hands", "house", "first", "many", "far", "depths", "cell", "deep", "text", "good", "found", "refused", "e"] : List Str).Nodup by decide +kernel) rfl (Or.inl rfl))) (fun _ => (@pts_nil _)) (fun _ => (@pe_op _ _ _ _ _ _ _ _ op_add (pv 6) (@pe_op _ _ _ _ _ _ _ _ op_mod (pe_callA f_law_cell_at (hr.mono (by decide)) rfl (pa_cons (pv 1) (pa_cons (@pe_op _ _ _ _ _ _ _ _ op_add (@pe_int _ _ _ _) (pv 0)) (@pa_nil _)))) (@pe_int _ _ _ _)))) rfl (by decide +kernel) rfl rfl rfl)
      have s6 : PS (cxOf CX0 P w K mg base ["script", "hands", "house", "first", "many", "far", "depths", "cell", "deep", "text", "good", "found", "refused", "e"] "law" (defScope s_law) f cdv A outer s H E).nox ((defBody s_law).getD 6 (.Pass ⟨0, 0, 0, 0⟩)) _ := (ps_set (i := 7) sc_law.nd rfl (Or.inl rfl) (pe_callA f_law_cell_at (hr.mono (by decide)) rfl (pa_cons (pv 0) (pa_cons (@pe_int _ _ _ _) (@pa_nil _)))))
      have s7 : PS (cxOf CX0 P w K mg base ["script", "hands", "house", "first", "many", "far", "depths", "cell", "deep", "text", "good", "found", "refused", "e"] "law" (defScope s_law) f cdv A outer s H E).nox ((defBody s_law).getD 7 (.Pass ⟨0, 0, 0, 0⟩)) _ := (ps_set (i := 8) sc_law.nd rfl (Or.inl rfl) (@pe_ix _ _ _ _ _ _ _ ix_list (@pe_lst _ _ _ _ (pa_cons (@pe_op _ _ _ _ _ _ _ _ op_mod (@pe_op _ _ _ _ _ _ _ _ op_fdiv (pv 7) (@pe_int _ _ _ _)) (@pe_int _ _ _ _)) (pa_cons (@pe_op _ _ _ _ _ _ _ _ op_add (@pe_int _ _ _ _) (@pe_op _ _ _ _ _ _ _ _ op_mod (@pe_op _ _ _ _ _ _ _ _ op_fdiv (pv 7) (@pe_int _ _ _ _)) (@pe_int _ _ _ _))) (@pa_nil _)))) (@pe_op _ _ _ _ _ _ _ _ op_mod (pv 7) (@pe_int _ _ _ _)) (fun _ _ => rfl)))
      have s8 : PS (cxOf CX0 P w K mg base ["script", "hands", "house", "first", "many", "far", "depths", "cell", "deep", "text", "good", "found", "refused", "e"] "law" (defScope s_law) f cdv A outer s H E).nox ((defBody s_law).getD 8 (.Pass ⟨0, 0, 0, 0⟩)) _ := (@ps_if _ _ _ _ _ _ _ _ (@pt_cmpR _ _ _ _ _ _ _ _ op_gt (pv 4) (@pe_int _ _ _ _) (nomark _)) (@pss_one _ _ _ (ps_asg (pv 8) (pg_sub (pv 6) (@pe_op _ _ _ _ _ _ _ _ op_mod (pe_callA f_law_cell_at (hr.mono (by decide)) rfl (pa_cons (pv 0) (pa_cons (@pe_int _ _ _ _) (@pa_nil _)))) (pv 4)) set_list))) (@pss_nil _))
      have b8 : PSs (cxOf CX0 P w K mg base ["script", "hands", "house", "first", "many", "far", "depths", "cell", "deep", "text", "good", "found", "refused", "e"] "law" (defScope s_law) f cdv A outer s H E).nox ((defBody s_law).drop 8) _ := @pss_at _ _ _ _ _ _ @s8 rfl @hrest2
      have b7 : PSs (cxOf CX0 P w K mg base ["script", "hands", "house", "first", "many", "far", "depths", "cell", "deep", "text", "good", "found", "refused", "e"] "law" (defScope s_law) f cdv A outer s H E).nox ((defBody s_law).drop 7) _ := @pss_at _ _ _ _ _ _ @s7 rfl @b8
      have b6 : PSs (cxOf CX0 P w K mg base ["script", "hands", "house", "first", "many", "far", "depths", "cell", "deep", "text", "good", "found", "refused", "e"] "law" (defScope s_law) f cdv A outer s H E).nox ((defBody s_law).drop 6) _ := @pss_at _ _ _ _ _ _ @s6 rfl @b7
      have b5 : PSs (cxOf CX0 P w K mg base ["script", "hands", "house", "first", "many", "far", "depths", "cell", "deep", "text", "good", "found", "refused", "e"] "law" (defScope s_law) f cdv A outer s H E).nox ((defBody s_law).drop 5) _ := @pss_at _ _ _ _ _ _ @s5 rfl @b6
      have b4 : PSs (cxOf CX0 P w K mg base ["script", "hands", "house", "first", "many", "far", "depths", "cell", "deep", "text", "good", "found", "refused", "e"] "law" (defScope s_law) f cdv A outer s H E).nox ((defBody s_law).drop 4) _ := @pss_at _ _ _ _ _ _ @s4 rfl @b5
      have b3 : PSs (cxOf CX0 P w K mg base ["script", "hands", "house", "first", "many", "far", "depths", "cell", "deep", "text", "good", "found", "refused", "e"] "law" (defScope s_law) f cdv A outer s H E).nox ((defBody s_law).drop 3) _ := @pss_at _ _ _ _ _ _ @s3 rfl @b4
      have b2 : PSs (cxOf CX0 P w K mg base ["script", "hands", "house", "first", "many", "far", "depths", "cell", "deep", "text", "good", "found", "refused", "e"] "law" (defScope s_law) f cdv A outer s H E).nox ((defBody s_law).drop 2) _ := @pss_at _ _ _ _ _ _ @s2 rfl @b3
      refine ⟨_, @b2, fun H13 p11 hp o' hh hs T13 hH => ?_⟩
      clear s2 s3 s4 s5 s6 s7 s8 b2 b3 b4 b5 b6 b7 b8
      simp only [runs1, List.length_cons, List.length_nil, Nat.zero_add, List.replicate_succ, List.replicate_zero, List.drop_succ_cons, List.drop_zero, Int.zero_add, List.getElem?_cons_zero, List.getElem?_cons_succ, List.set_cons_zero, List.set_cons_succ, Option.some.injEq, V.int.injEq, V.ref.injEq, V.bl.injEq, V.ty.injEq, V.str.injEq, List.cons.injEq, List.append_nil, List.cons_append, List.nil_append, exists_eq, exists_eq', exists_eq_left, exists_eq_left', exists_and_left, exists_and_right, and_assoc, true_and, and_true, ↓reduceIte]
      refine ⟨sc, cells, 0, rfl, T13.seq hS, by decide, fun c0 => ?_⟩
      simp only [runs1, List.length_cons, List.length_nil, Nat.zero_add, List.replicate_succ, List.replicate_zero, List.drop_succ_cons, List.drop_zero, Int.zero_add, List.getElem?_cons_zero, List.getElem?_cons_succ, List.set_cons_zero, List.set_cons_succ, Option.some.injEq, V.int.injEq, V.ref.injEq, V.bl.injEq, V.ty.injEq, V.str.injEq, List.cons.injEq, List.append_nil, List.cons_append, List.nil_append, exists_eq, exists_eq', exists_eq_left, exists_eq_left', exists_and_left, exists_and_right, and_assoc, true_and, and_true, ↓reduceIte]
      obtain ⟨m, em, hm⟩ : ∃ m : Nat, atI [V.int (c0 / 2 % 19), V.int (18 + c0 / 2 % 4)] (c0 % 2) = some (V.int m) ∧ m ≤ 21 := by
        rcases (show c0 % 2 = 0 ∨ c0 % 2 = 1 by omega) with e | e <;> rw [e]
        · refine ⟨(c0 / 2 % 19).toNat, ?_, by omega⟩
          rw [show (((c0 / 2 % 19).toNat : Nat) : Int) = c0 / 2 % 19 by omega]
          exact atI_nat (j := 0) rfl
        · refine ⟨(18 + c0 / 2 % 4).toNat, ?_, by omega⟩
          rw [show (((18 + c0 / 2 % 4).toNat : Nat) : Int) = 18 + c0 / 2 % 4 by omega]
          exact atI_nat (j := 1) rfl
      obtain ⟨fr, efr, hfr⟩ : ∃ fr : Nat, (31 * if decide (c0 / 76 % 4 = 1) = true then (1 : Int) else 0) = fr ∧ fr ≤ 31 := by
        split
        · exact ⟨31, rfl, Nat.le_refl _⟩
        · exact ⟨0, rfl, by decide⟩
      refine ⟨⟨by decide, by decide⟩, by decide, ⟨by decide, by decide⟩, by decide, by decide, fun p hp1 => ?_⟩
      have S14 : Same H13 (upd H13 p (.lst [V.int (c0 / 2 % 19), V.int (18 + c0 / 2 % 4)])) := Same.upd (Same.refl _) hp1
      have u14 : upd H13 p (.lst [V.int (c0 / 2 % 19), V.int (18 + c0 / 2 % 4)]) p = some (.lst [V.int (c0 / 2 % 19), V.int (18 + c0 / 2 % 4)]) := upd_same
      generalize upd H13 p (.lst [V.int (c0 / 2 % 19), V.int (18 + c0 / 2 % 4)]) = H14 at *
      have T14 := T13.trans S14
      refine ⟨by decide, _, .of u14, _, em, ⟨by decide, by decide⟩, by decide, rfl, .inr ⟨by split <;> exact .inl ⟨by decide, by decide⟩, m, rfl, by omega, by omega, fun d => ?_⟩⟩
      rw [efr, Int.toNat_natCast]
      refine comp_range (PvDp H14) ⟨rfl, [], rfl, rfl, fun _ z => nomatch z⟩ ?_ ?_ ?_
      · rintro i ys H2 hi ⟨rfl, ns, rfl, ln, h33⟩
        rw [List.length_map, ln]
        exact Nat.le_trans (show i ≤ 21 by omega) (by decide)
      · rintro i ys H2 hi ⟨rfl, ns, rfl, ln, h33⟩
        simp only [runs1, List.length_cons, List.length_nil, Nat.zero_add, List.replicate_succ, List.replicate_zero, List.drop_succ_cons, List.drop_zero, Int.zero_add, List.getElem?_cons_zero, List.getElem?_cons_succ, List.set_cons_zero, List.set_cons_succ, Option.some.injEq, V.int.injEq, V.ref.injEq, V.bl.injEq, V.ty.injEq, V.str.injEq, List.cons.injEq, List.append_nil, List.cons_append, List.nil_append, exists_eq, exists_eq', exists_eq_left, exists_eq_left', exists_and_left, exists_and_right, and_assoc, true_and, and_true, ↓reduceIte]
        refine ⟨sc, cells, 3 + i, rfl, T14.seq hS, by omega, fun v => ?_⟩
        have hv := (show 0 ≤ v % 3 ∧ v % 3 < 3 by omega)
        refine ⟨v, rfl, by decide, rfl, ns ++ [fr + (v % 3).toNat], ?_, by simp [ln], fun n hn => ?_⟩
        · rw [List.map_append]
          congr 1
          show [V.int _] = [V.int _]
          congr 2
          omega
        · rcases List.mem_append.mp hn with e | e
          · exact h33 n e
          · rw [List.mem_singleton.mp e]
            omega
      · rintro ys H2 ⟨rfl, ns, rfl, ln, h33⟩ dl hdl
        have S15 : Same H2 (upd H2 dl (.lst (ns.map nI))) := Same.upd (Same.refl _) hdl
        have u15 : upd H2 dl (.lst (ns.map nI)) dl = some (.lst (ns.map nI)) := upd_same
        generalize upd H2 dl (.lst (ns.map nI)) = H15 at *
        have T15 := T14.trans S15
        refine ⟨sc, cells, 1, rfl, T15.seq hS, by decide, fun c1 => ?_⟩
        simp only [runs1, List.length_cons, List.length_nil, Nat.zero_add, List.replicate_succ, List.replicate_zero, List.drop_succ_cons, List.drop_zero, Int.zero_add, List.getElem?_cons_zero, List.getElem?_cons_succ, List.set_cons_zero, List.set_cons_succ, Option.some.injEq, V.int.injEq, V.ref.injEq, V.bl.injEq, V.ty.injEq, V.str.injEq, List.cons.injEq, List.append_nil, List.cons_append, List.nil_append, exists_eq, exists_eq', exists_eq_left, exists_eq_left', exists_and_left, exists_and_right, and_assoc, true_and, and_true, ↓reduceIte]
        obtain ⟨dp, edp, hdp⟩ : ∃ dp : Nat, atI [V.int (c1 / 2 % 28), V.int (27 + c1 / 2 % 10)] (c1 % 2) = some (V.int dp) ∧ dp ≤ 36 := by
          rcases (show c1 % 2 = 0 ∨ c1 % 2 = 1 by omega) with e | e <;> rw [e]
          · refine ⟨(c1 / 2 % 28).toNat, ?_, by omega⟩
            rw [show (((c1 / 2 % 28).toNat : Nat) : Int) = c1 / 2 % 28 by omega]
            exact atI_nat (j := 0) rfl
          · refine ⟨(27 + c1 / 2 % 10).toNat, ?_, by omega⟩
            rw [show (((27 + c1 / 2 % 10).toNat : Nat) : Int) = 27 + c1 / 2 % 10 by omega]
            exact atI_nat (j := 1) rfl
        refine ⟨⟨by decide, by decide⟩, by decide, ⟨by decide, by decide⟩, by decide, by decide, fun p2 hp2 => ?_⟩
        have S16 : Same H15 (upd H15 p2 (.lst [V.int (c1 / 2 % 28), V.int (27 + c1 / 2 % 10)])) := Same.upd (Same.refl _) hp2
        have u16 : upd H15 p2 (.lst [V.int (c1 / 2 % 28), V.int (27 + c1 / 2 % 10)]) p2 = some (.lst [V.int (c1 / 2 % 28), V.int (27 + c1 / 2 % 10)]) := upd_same
        generalize upd H15 p2 (.lst [V.int (c1 / 2 % 28), V.int (27 + c1 / 2 % 10)]) = H16 at *
        have T16 := T15.trans S16
        have S36 := S14.trans (S15.trans S16)
        refine ⟨by decide, _, .of u16, _, edp, ite2 (fun z => ?_) (fun z => ?_)⟩
        · have hm0 : 0 < m := by have := of_decide_eq_true z; omega
          refine ⟨sc, cells, 2, rfl, T16.seq hS, by decide, fun c2 => ?_⟩
          have hj := (show 0 ≤ c2 % (m : Int) ∧ c2 % (m : Int) < m from ⟨Int.emod_nonneg _ (by omega), Int.emod_lt_of_pos _ (by omega)⟩)
          obtain ⟨j, ej⟩ : ∃ j : Nat, c2 % (m : Int) = j := ⟨(c2 % (m : Int)).toNat, by omega⟩
          refine ⟨c2, rfl, by omega, _, S16 _ _ u15, j, by rw [List.length_map, ln, ej]; exact ixN_nat (by omega), ?_⟩
          have es : (ns.map nI).set j (V.int (dp : Int)) = (ns.set j dp).map nI := by rw [List.map_set]; rfl
          rw [es]
          have := hR2 (upd H16 dl (.lst ((ns.set j dp).map nI))) p11 hp o' hh dl hs (ns.set j dp) (some (.int c0)) (some (.int fr)) (some (.int c1)) (some (.int dp)) (Same.upd T16 (T14.free hdl)) (hH.mono (Same.upd S36 (S14.free hdl))) upd_same (by rw [List.length_set]; omega) (fun n hn => by
            rcases List.mem_or_eq_of_mem_set hn with e | e
            · have := h33 n e; omega
            · rw [e]; exact hdp)
          rw [List.length_set, ln] at this
          exact this
        · have := hR2 H16 p11 hp o' hh dl hs ns (some (.int c0)) (some (.int fr)) (some (.int c1)) (some (.int dp)) T16 (hH.mono S36) (S16 _ _ u15) (by omega) (fun n hn => by have := h33 n hn; omega)
          rw [ln] at this
          exact this
    obtain ⟨tr, hrest, hR⟩ := rest
    have s0 : PS (cxOf CX0 P w K mg base ["script", "hands", "house", "first", "many", "far", "depths", "cell", "deep", "text", "good", "found", "refused", "e"] "law" (defScope s_law) f cdv A outer s H E).nox ((defBody s_law).getD 0 (.Pass ⟨0, 0, 0, 0⟩)) _ := (@ps_set _ _ 1 _ _ _ _ sc_law.nd rfl (Or.inl rfl) (@pe_lst _ _ _ _ (@pa_cons _ _ _ _ _ (@pe_tup _ _ _ _ _ (@pa_cons _ _ _ _ _ (@pe_str _ _ _ _) (@pa_cons _ _ _ _ _ (@pe_lst _ _ _ _ (@pa_cons _ _ _ _ _ (@pe_str _ _ _ _) (@pa_cons _ _ _ _ _ (@pe_str _ _ _ _) (@pa_nil _) (star_of nofun)) (star_of nofun))) (@pa_cons _ _ _ _ _ (@pe_lst _ _ _ _ (@pa_cons _ _ _ _ _ (@pe_lst _ _ _ _ (@pa_cons _ _ _ _ _ (@pe_int _ _ _ _) (@pa_cons _ _ _ _ _ (@pe_int _ _ _ _) (@pa_nil _) (star_of nofun)) (star_of nofun))) (@pa_cons _ _ _ _ _ (@pe_lst _ _ _ _ (@pa_cons _ _ _ _ _ (@pe_int _ _ _ _) (@pa_cons _ _ _ _ _ (@pe_int _ _ _ _) (@pa_nil _) (star_of nofun)) (star_of nofun))) (@pa_nil _) (star_of nofun)) (star_of nofun))) (@pa_nil _) (star_of nofun)) (star_of nofun)) (star_of nofun))) (@pa_cons _ _ _ _ _ (@pe_tup _ _ _ _ _ (@pa_cons _ _ _ _ _ (@pe_str _ _ _ _) (@pa_cons _ _ _ _ _ (@pe_lst _ _ _ _ (@pa_cons _ _ _ _ _ (@pe_str _ _ _ _) (@pa_cons _ _ _ _ _ (@pe_str _ _ _ _) (@pa_nil _) (star_of nofun)) (star_of nofun))) (@pa_cons _ _ _ _ _ (@pe_lst _ _ _ _ (@pa_cons _ _ _ _ _ (@pe_lst _ _ _ _ (@pa_cons _ _ _ _ _ (@pe_int _ _ _ _) (@pa_cons _ _ _ _ _ (@pe_int _ _ _ _) (@pa_nil _) (star_of nofun)) (star_of nofun))) (@pa_cons _ _ _ _ _ (@pe_lst _ _ _ _ (@pa_cons _ _ _ _ _ (@pe_int _ _ _ _) (@pa_cons _ _ _ _ _ (@pe_int _ _ _ _) (@pa_nil _) (star_of nofun)) (star_of nofun))) (@pa_nil _) (star_of nofun)) (star_of nofun))) (@pa_nil _) (star_of nofun)) (star_of nofun)) (star_of nofun))) (@pa_nil _) (star_of nofun)) (star_of nofun))) rfl (Or.inl rfl))
    have s1 : PS (cxOf CX0 P w K mg base ["script", "hands", "house", "first", "many", "far", "depths", "cell", "deep", "text", "good", "found", "refused", "e"] "law" (defScope s_law) f cdv A outer s H E).nox ((defBody s_law).getD 1 (.Pass ⟨0, 0, 0, 0⟩)) _ := (ps_set (i := 2) sc_law.nd rfl (Or.inl rfl) (pe_callN f_house_of (hr.mono (by decide)) rfl (@pa_cons _ _ _ _ _ (@pe_lst _ _ _ _ (@pa_cons _ _ _ _ _ (@pe_str _ _ _ _) (@pa_cons _ _ _ _ _ (@pe_str _ _ _ _) (@pa_nil _) (star_of nofun)) (star_of nofun))) (@pa_cons _ _ _ _ _ (pv 1) (@pa_nil _) (star_of nofun)) (star_of nofun))))
    have b1 : PSs (cxOf CX0 P w K mg base ["script", "hands", "house", "first", "many", "far", "depths", "cell", "deep", "text", "good", "found", "refused", "e"] "law" (defScope s_law) f cdv A outer s H E).nox ((defBody s_law).drop 1) _ := @pss_at _ _ _ _ _ _ @s1 rfl @hrest
    have b0 : PSs (cxOf CX0 P w K mg base ["script", "hands", "house", "first", "many", "far", "depths", "cell", "deep", "text", "good", "found", "refused", "e"] "law" (defScope s_law) f cdv A outer s H E).nox ((defBody s_law).drop 0) _ := @pss_at _ _ _ _ _ _ @s0 rfl @b1
    refine ⟨_, @pss_all _ _ _ @b0, ?_⟩
    rw [show start ["script", "hands", "house", "first", "many", "far", "depths", "cell", "deep", "text", "good", "found", "refused", "e"] [V.ref sc] = [some (V.ref sc), none, none, none, none, none, none, none, none, none, none, none, none, none] from rfl]
    simp only [runs1, List.length_cons, List.length_nil, Nat.zero_add, List.replicate_succ, List.replicate_zero, List.drop_succ_cons, List.drop_zero, Int.zero_add, List.getElem?_cons_zero, List.getElem?_cons_succ, List.set_cons_zero, List.set_cons_succ, Option.some.injEq, V.int.injEq, V.ref.injEq, V.bl.injEq, V.ty.injEq, V.str.injEq, List.cons.injEq, List.append_nil, List.cons_append, List.nil_append, exists_eq, exists_eq', exists_eq_left, exists_eq_left', exists_and_left, exists_and_right, and_assoc, true_and, and_true, ↓reduceIte]
    refine ⟨by decide, fun p1 hp1 => ?_⟩
    have S1 : Same H (upd H p1 (.lst [V.str (Str.ofString "lo"), V.str (Str.ofString "hi")])) := Same.upd (Same.refl _) hp1
    have u1 : upd H p1 (.lst [V.str (Str.ofString "lo"), V.str (Str.ofString "hi")]) p1 = some (.lst [V.str (Str.ofString "lo"), V.str (Str.ofString "hi")]) := upd_same
    generalize upd H p1 (.lst [V.str (Str.ofString "lo"), V.str (Str.ofString "hi")]) = H1 at *
    refine ⟨by decide, fun p2 hp2 => ?_⟩
    have S2 : Same H1 (upd H1 p2 (.lst [V.int 0, V.int 1])) := Same.upd (Same.refl _) hp2
    have u2 : upd H1 p2 (.lst [V.int 0, V.int 1]) p2 = some (.lst [V.int 0, V.int 1]) := upd_same
    generalize upd H1 p2 (.lst [V.int 0, V.int 1]) = H2 at *
    refine ⟨by decide, fun p3 hp3 => ?_⟩
    have S3 : Same H2 (upd H2 p3 (.lst [V.int 1, V.int 0])) := Same.upd (Same.refl _) hp3
    have u3 : upd H2 p3 (.lst [V.int 1, V.int 0]) p3 = some (.lst [V.int 1, V.int 0]) := upd_same
    generalize upd H2 p3 (.lst [V.int 1, V.int 0]) = H3 at *
    refine ⟨by decide, fun p4 hp4 => ?_⟩
    have S4 : Same H3 (upd H3 p4 (.lst [V.ref p2, V.ref p3])) := Same.upd (Same.refl _) hp4
    have u4 : upd H3 p4 (.lst [V.ref p2, V.ref p3]) p4 = some (.lst [V.ref p2, V.ref p3]) := upd_same
    generalize upd H3 p4 (.lst [V.ref p2, V.ref p3]) = H4 at *
    refine ⟨by decide, fun p5 hp5 => ?_⟩
    have S5 : Same H4 (upd H4 p5 (.tup [V.str (Str.ofString "ana"), V.ref p1, V.ref p4])) := Same.upd (Same.refl _) hp5
    have u5 : upd H4 p5 (.tup [V.str (Str.ofString "ana"), V.ref p1, V.ref p4]) p5 = some (.tup [V.str (Str.ofString "ana"), V.ref p1, V.ref p4]) := upd_same
    generalize upd H4 p5 (.tup [V.str (Str.ofString "ana"), V.ref p1, V.ref p4]) = H5 at *
    refine ⟨by decide, fun p6 hp6 => ?_⟩
    have S6 : Same H5 (upd H5 p6 (.lst [V.str (Str.ofString "no"), V.str (Str.ofString "hi")])) := Same.upd (Same.refl _) hp6
    have u6 : upd H5 p6 (.lst [V.str (Str.ofString "no"), V.str (Str.ofString "hi")]) p6 = some (.lst [V.str (Str.ofString "no"), V.str (Str.ofString "hi")]) := upd_same
    generalize upd H5 p6 (.lst [V.str (Str.ofString "no"), V.str (Str.ofString "hi")]) = H6 at *
    refine ⟨by decide, fun p7 hp7 => ?_⟩
    have S7 : Same H6 (upd H6 p7 (.lst [V.int 0, V.int 0])) := Same.upd (Same.refl _) hp7
    have u7 : upd H6 p7 (.lst [V.int 0, V.int 0]) p7 = some (.lst [V.int 0, V.int 0]) := upd_same
    generalize upd H6 p7 (.lst [V.int 0, V.int 0]) = H7 at *
    refine ⟨by decide, fun p8 hp8 => ?_⟩
    have S8 : Same H7 (upd H7 p8 (.lst [V.int 3, V.int 1])) := Same.upd (Same.refl _) hp8
    have u8 : upd H7 p8 (.lst [V.int 3, V.int 1]) p8 = some (.lst [V.int 3, V.int 1]) := upd_same
    generalize upd H7 p8 (.lst [V.int 3, V.int 1]) = H8 at *
    refine ⟨by decide, fun p9 hp9 => ?_⟩
    have S9 : Same H8 (upd H8 p9 (.lst [V.ref p7, V.ref p8])) := Same.upd (Same.refl _) hp9
    have u9 : upd H8 p9 (.lst [V.ref p7, V.ref p8]) p9 = some (.lst [V.ref p7, V.ref p8]) := upd_same
    generalize upd H8 p9 (.lst [V.ref p7, V.ref p8]) = H9 at *
    refine ⟨by decide, fun p10 hp10 => ?_⟩
    have S10 : Same H9 (upd H9 p10 (.tup [V.str (Str.ofString "bo"), V.ref p6, V.ref p9])) := Same.upd (Same.refl _) hp10
    have u10 : upd H9 p10 (.tup [V.str (Str.ofString "bo"), V.ref p6, V.ref p9]) p10 = some (.tup [V.str (Str.ofString "bo"), V.ref p6, V.ref p9]) := upd_same
    generalize upd H9 p10 (.tup [V.str (Str.ofString "bo"), V.ref p6, V.ref p9]) = H10 at *
    refine ⟨by decide, fun p11 hp11 => ?_⟩
    have S11 : Same H10 (upd H10 p11 (.lst [V.ref p5, V.ref p10])) := Same.upd (Same.refl _) hp11
    have u11 : upd H10 p11 (.lst [V.ref p5, V.ref p10]) p11 = some (.lst [V.ref p5, V.ref p10]) := upd_same
    generalize upd H10 p11 (.lst [V.ref p5, V.ref p10]) = H11 at *
    refine ⟨by decide, fun p12 hp12 => ?_⟩
    have S12 : Same H11 (upd H11 p12 (.lst [V.str (Str.ofString "road"), V.str (Str.ofString "park")])) := Same.upd (Same.refl _) hp12
    have u12 : upd H11 p12 (.lst [V.str (Str.ofString "road"), V.str (Str.ofString "park")]) p12 = some (.lst [V.str (Str.ofString "road"), V.str (Str.ofString "park")]) := upd_same
    generalize upd H11 p12 (.lst [V.str (Str.ofString "road"), V.str (Str.ofString "park")]) = H12 at *
    have T12 : Same H12 H12 := Same.refl _
    have T11 : Same H11 H12 := S12.trans T12
    have T10 : Same H10 H12 := S11.trans T11
    have T9 : Same H9 H12 := S10.trans T10
    have T8 : Same H8 H12 := S9.trans T9
    have T7 : Same H7 H12 := S8.trans T8
    have T6 : Same H6 H12 := S7.trans T7
    have T5 : Same H5 H12 := S6.trans T6
    have T4 : Same H4 H12 := S5.trans T5
    have T3 : Same H3 H12 := S4.trans T4
    have T2 : Same H2 H12 := S3.trans T3
    have T1 : Same H1 H12 := S2.trans T2
    have T0 : Same H H12 := S1.trans T1
    have hL : HandsL H12 p11 [⟨p5, p1, p4, [p2, p3]⟩, ⟨p10, p6, p9, [p7, p8]⟩] ds69 := by
      refine ⟨T11 _ _ u11, rfl, fun i x d e1 e2 => ?_⟩
      have row2 : ∀ {r0 r1 : Addr} {n0 n1 : List Int}, H12 r0 = some (.lst (n0.map V.int)) → H12 r1 = some (.lst (n1.map V.int)) → ∀ (i : Nat) (r : Addr) (ns : List Int), [r0, r1][i]? = some r → [n0, n1][i]? = some ns → H12 r = some (.lst (ns.map V.int)) := fun {r0 r1 n0 n1} h0 h1 i r ns e1 e2 => by
        match i, e1, e2 with
        | 0, e1, e2 => cases e1; cases e2; exact h0
        | 1, e1, e2 => cases e1; cases e2; exact h1
        | i + 2, e1, e2 => simp at e1
      match i, e1, e2 with
      | 0, e1, e2 =>
        cases e1; cases e2
        exact ⟨T5 _ _ u5, T1 _ _ u1, T4 _ _ u4, rfl, row2 (T2 _ _ u2) (T3 _ _ u3)⟩
      | 1, e1, e2 =>
        cases e1; cases e2
        exact ⟨T10 _ _ u10, T6 _ _ u6, T9 _ _ u9, rfl, row2 (T7 _ _ u7) (T8 _ _ u8)⟩
      | i + 2, e1, e2 => simp at e1
    exact ⟨p12, p11, outs69, _, ds69, rfl, u12, hL, good69, fun H13 hp o' hh hs S13 hH => hR H13 p11 hp o' hh hs (T0.trans S13) hH⟩
theorem law_ok (B : Bt mg) (C : Ct K mg a) (d_is_whole : DefIn K mg "is_whole" s_is_whole ["thing"]) (d_is_bounded : DefIn K mg "is_bounded" s_is_bounded ["thing"]) (d_is_grid_row : DefIn K mg "is_grid_row" s_is_grid_row ["thing", "width"]) (d_is_name : DefIn K mg "is_name" s_is_name ["thing"]) (d_are_names : DefIn K mg "are_names" s_are_names ["thing", "most"]) (d_are_worths : DefIn K mg "are_worths" s_are_worths ["thing", "height", "width"]) (d_is_hand : DefIn K mg "is_hand" s_is_hand ["thing", "width"]) (d_name_of : DefIn K mg "name_of" s_name_of ["hand"]) (d_names_of : DefIn K mg "names_of" s_names_of ["hands"]) (d_words_of_hand : DefIn K mg "words_of_hand" s_words_of_hand ["hand"]) (d_worths_of_hand : DefIn K mg "worths_of_hand" s_worths_of_hand ["hand"]) (d_count_of_rows : DefIn K mg "count_of_rows" s_count_of_rows ["hands"]) (d_makes_house : DefIn K mg "makes_house" s_makes_house ["outcomes", "hands"]) (d_kept_hand : DefIn K mg "kept_hand" s_kept_hand ["hand"]) (d_house_of : DefIn K mg "house_of" s_house_of ["outcomes", "hands"]) (d_outcomes_of : DefIn K mg "outcomes_of" s_outcomes_of ["house"]) (d_hands_of : DefIn K mg "hands_of" s_hands_of ["house"]) (d_condition_of : DefIn K mg "condition_of" s_condition_of ["told"]) (d_place_of : DefIn K mg "place_of" s_place_of ["told"]) (d_word_at : DefIn K mg "word_at" s_word_at ["words", "place"]) (d_read_says : DefIn K mg "read_says" s_read_says ["house", "name", "word"]) (d_read_count : DefIn K mg "read_count" s_read_count ["house", "figure", "word"]) (d_read_condition : DefIn K mg "read_condition" s_read_condition ["house", "words", "place"]) (d_read_deal : DefIn K mg "read_deal" s_read_deal ["house", "words"]) (d_read_clause : DefIn K mg "read_clause" s_read_clause ["house", "words"]) (d_clauses_in : DefIn K mg "clauses_in" s_clauses_in ["text"]) (d_read_rule : DefIn K mg "read_rule" s_read_rule ["house", "text"]) (d_holds : DefIn K mg "holds" s_holds ["condition", "row"]) (d_dealt : DefIn K mg "dealt" s_dealt ["rule", "row"]) (d_law_cell_at : DefIn K mg "_law_cell_at" s_law_cell_at ["script", "k"]) (d_law_depth : DefIn K mg "_law_depth" s_law_depth ["condition"]) (d_law_clause : DefIn K mg "_law_clause" s_law_clause ["depth", "outcome"]) (d_law_read : DefIn K mg "_law_read" s_law_read ["found", "depths"]) (base : Heap) {f : Addr} {fd : FuncData} (F : Fun K "law" "law" s_law f fd) : FnOk P w K mg base CX0 50 f fd ["script"] (spLaw K) := by
  have n1 := f_is_name (P := P) (w := w) (base := base) B d_is_name
  have n2 := f_are_names B n1 d_are_names
  have n3 := f_is_grid_row B (f_is_bounded B (f_is_whole (P := P) (w := w) (base := base) B d_is_whole) d_is_bounded) d_is_grid_row
  have n4 := f_are_worths B n3 d_are_worths
  have n5 := f_is_hand B n1 n2 n4 d_is_hand
  have n6 := f_name_of (P := P) (w := w) (base := base) d_name_of
  have n7 := f_words_of_hand (P := P) (w := w) (base := base) d_words_of_hand
  have n8 := f_worths_of_hand (P := P) (w := w) (base := base) d_worths_of_hand
  have n9 := f_makes_house B n2 n5 (f_names_of n6 d_names_of) (f_count_of_rows B n7 d_count_of_rows) d_makes_house
  have n10 := h_house_of B C n9 (h_kept_hand B n6 n7 n8 d_kept_hand) d_house_of
  have m0 := g_outcomes_of (P := P) (w := w) (base := base) d_outcomes_of
  have m1 := g_hands_of (P := P) (w := w) (base := base) d_hands_of
  have mw := g_words_of_hand (P := P) (w := w) (base := base) d_words_of_hand
  have r1 := f_word_at (P := P) (w := w) (base := base) B C d_word_at
  have r2 := f_read_says B C m1 (g_names_of (g_name_of (P := P) (w := w) (base := base) d_name_of) d_names_of) mw d_read_says
  have r3 := f_condition_of (P := P) (w := w) (base := base) d_condition_of
  have r4 := f_place_of (P := P) (w := w) (base := base) d_place_of
  have r5 := f_read_deal B C m0 d_read_deal
  have r6 := f_read_condition B C r1 r2 (n_read_count (P := P) (w := w) (base := base) d_read_count) r3 r4 d_read_condition 40
  have r7 := f_read_rule B C (f_clauses_in (P := P) (w := w) (base := base) B C d_clauses_in) (f_read_clause B C r6 r3 r4 r5 d_read_clause) r5 d_read_rule
  have c1 := f_law_cell_at (P := P) (w := w) (base := base) B d_law_cell_at
  exact law_fn B C c1 n10 (f_law_clause B d_law_clause) r7 (f_law_read B (f_law_depth d_law_depth) (f_dealt (f_holds d_holds 41) d_dealt) d_law_read) F
end

end Mine
open PySem PySem.W PyProof.Rows
set_option maxRecDepth 100000 in
set_option maxHeartbeats 0 in
theorem PySem.Challenge.cw_trueword_k69_bounds_of_a_rule_holds : PySem.Challenge.rw_trueword_k69_bounds_of_a_rule.Holds := by
  w_on; o_law; k_head; (case hw => w_witness2)
  k_fill
  refine L2.walk_ofK (l := PySem.Challenge.rw_trueword_k69_bounds_of_a_rule) (n := 63) (k := 50) (x := "script") (CX := L2.CX0) (sp := Mine.spLaw) rfl (by decide) rfl ⟨rfl, by decide, by decide⟩ (fun w h Y => PySem.W.kIn_of Y) ?F ?S ?C
  case F =>
    intro w mg fa h KX G hmg
    have n_abs : mg "abs" = none := by
      refine' PySem.W.mg_none_of KX G ?a
      (case a => k_is)
    have n_all : mg "all" = none := by
      refine' PySem.W.mg_none_of KX G ?a
      (case a => k_is)
    have n_bool : mg "bool" = none := by
      refine' PySem.W.mg_none_of KX G ?a
      (case a => k_is)
    have n_int : mg "int" = none := by
      refine' PySem.W.mg_none_of KX G ?a
      (case a => k_is)
    have n_isinstance : mg "isinstance" = none := by
      refine' PySem.W.mg_none_of KX G ?a
      (case a => k_is)
    have n_len : mg "len" = none := by
      refine' PySem.W.mg_none_of KX G ?a
      (case a => k_is)
    have n_list : mg "list" = none := by
      refine' PySem.W.mg_none_of KX G ?a
      (case a => k_is)
    have n_max : mg "max" = none := by
      refine' PySem.W.mg_none_of KX G ?a
      (case a => k_is)
    have n_range : mg "range" = none := by
      refine' PySem.W.mg_none_of KX G ?a
      (case a => k_is)
    have n_set : mg "set" = none := by
      refine' PySem.W.mg_none_of KX G ?a
      (case a => k_is)
    have n_str : mg "str" = none := by
      refine' PySem.W.mg_none_of KX G ?a
      (case a => k_is)
    have n_tuple : mg "tuple" = none := by
      refine' PySem.W.mg_none_of KX G ?a
      (case a => k_is)
    have k0_MOST_WORDS := PySem.W.mg_of (n := "MOST_WORDS") KX G (by k_is)
    have k_MOST_WORDS : ∃ t, mg "MOST_WORDS" = some (Value.int 8 t) := ⟨_, k0_MOST_WORDS⟩
    have k0_MOST_LETTERS := PySem.W.mg_of (n := "MOST_LETTERS") KX G (by k_is)
    have k_MOST_LETTERS : ∃ t, mg "MOST_LETTERS" = some (Value.int 8 t) := ⟨_, k0_MOST_LETTERS⟩
    have k0_MOST_OUTCOMES := PySem.W.mg_of (n := "MOST_OUTCOMES") KX G (by k_is)
    have k_MOST_OUTCOMES : ∃ t, mg "MOST_OUTCOMES" = some (Value.int 8 t) := ⟨_, k0_MOST_OUTCOMES⟩
    have k0_MOST_HANDS := PySem.W.mg_of (n := "MOST_HANDS") KX G (by k_is)
    have k_MOST_HANDS : ∃ t, mg "MOST_HANDS" = some (Value.int 4 t) := ⟨_, k0_MOST_HANDS⟩
    have k0_MOST_ROWS := PySem.W.mg_of (n := "MOST_ROWS") KX G (by k_is)
    have k_MOST_ROWS : ∃ t, mg "MOST_ROWS" = some (Value.int 256 t) := ⟨_, k0_MOST_ROWS⟩
    have k0_MOST_CLAUSES := PySem.W.mg_of (n := "MOST_CLAUSES") KX G (by k_is)
    have k_MOST_CLAUSES : ∃ t, mg "MOST_CLAUSES" = some (Value.int 20 t) := ⟨_, k0_MOST_CLAUSES⟩
    have k0_MOST_CLAUSE_WORDS := PySem.W.mg_of (n := "MOST_CLAUSE_WORDS") KX G (by k_is)
    have k_MOST_CLAUSE_WORDS : ∃ t, mg "MOST_CLAUSE_WORDS" = some (Value.int 40 t) := ⟨_, k0_MOST_CLAUSE_WORDS⟩
    have B : Mine.Bt mg := ⟨n_abs, n_all, n_bool, n_int, n_isinstance, n_len, n_list, n_max, n_range, n_set, n_str, n_tuple, k_MOST_WORDS, k_MOST_LETTERS, k_MOST_OUTCOMES, k_MOST_HANDS, k_MOST_ROWS, k_MOST_CLAUSES, k_MOST_CLAUSE_WORDS⟩
    have z_NoHouse := L2.err_mk (name := "NoHouse") KX G (by k_is) (by k_exc) (by k_is) (by k_is) (by k_is)
    have z_NoRule := L2.err_mk (name := "NoRule") KX G (by k_is) (by k_exc) (by k_is) (by k_is) (by k_is)
    have z_TrueError := PySem.W.mg_of (n := "TrueError") KX G (by k_is)
    have C := Mine.Ct.mk (mg := mg) (a := ⟨_, _, _⟩) (z_NoHouse.1) (z_NoHouse.2) (z_NoRule.1) (z_NoRule.2) (z_TrueError) (by k_is) (L2.kit_self) (by k_is) (L2.kit_mk (by decide) (by k_is) (by k_is) (by k_is))
    have d_is_whole : L2.DefIn (L2.KOf KX) mg "is_whole" Mine.s_is_whole ["thing"] := by
      dsimp only [L2.KOf]
      refine' L2.def_mk KX G ?a ?l ?c ?k (fun _ _ _ _ _ _ us hl => match us, hl with | [_], _ => rfl)
      (case a => k_is)
      (case l => k_is)
      (case c => k_is)
      (case k => k_is)
    have d_is_bounded : L2.DefIn (L2.KOf KX) mg "is_bounded" Mine.s_is_bounded ["thing"] := by
      dsimp only [L2.KOf]
      refine' L2.def_mk KX G ?a ?l ?c ?k (fun _ _ _ _ _ _ us hl => match us, hl with | [_], _ => rfl)
      (case a => k_is)
      (case l => k_is)
      (case c => k_is)
      (case k => k_is)
    have d_is_grid_row : L2.DefIn (L2.KOf KX) mg "is_grid_row" Mine.s_is_grid_row ["thing", "width"] := by
      dsimp only [L2.KOf]
      refine' L2.def_mk KX G ?a ?l ?c ?k (fun _ _ _ _ _ _ us hl => match us, hl with | [_, _], _ => rfl)
      (case a => k_is)
      (case l => k_is)
      (case c => k_is)
      (case k => k_is)
    have d_is_name : L2.DefIn (L2.KOf KX) mg "is_name" Mine.s_is_name ["thing"] := by
      dsimp only [L2.KOf]
      refine' L2.def_mk KX G ?a ?l ?c ?k (fun _ _ _ _ _ _ us hl => match us, hl with | [_], _ => rfl)
      (case a => k_is)
      (case l => k_is)
      (case c => k_is)
      (case k => k_is)
    have d_are_names : L2.DefIn (L2.KOf KX) mg "are_names" Mine.s_are_names ["thing", "most"] := by
      dsimp only [L2.KOf]
      refine' L2.def_mk KX G ?a ?l ?c ?k (fun _ _ _ _ _ _ us hl => match us, hl with | [_, _], _ => rfl)
      (case a => k_is)
      (case l => k_is)
      (case c => k_is)
      (case k => k_is)
    have d_are_worths : L2.DefIn (L2.KOf KX) mg "are_worths" Mine.s_are_worths ["thing", "height", "width"] := by
      dsimp only [L2.KOf]
      refine' L2.def_mk KX G ?a ?l ?c ?k (fun _ _ _ _ _ _ us hl => match us, hl with | [_, _, _], _ => rfl)
      (case a => k_is)
      (case l => k_is)
      (case c => k_is)
      (case k => k_is)
    have d_is_hand : L2.DefIn (L2.KOf KX) mg "is_hand" Mine.s_is_hand ["thing", "width"] := by
      dsimp only [L2.KOf]
      refine' L2.def_mk KX G ?a ?l ?c ?k (fun _ _ _ _ _ _ us hl => match us, hl with | [_, _], _ => rfl)
      (case a => k_is)
      (case l => k_is)
      (case c => k_is)
      (case k => k_is)
    have d_name_of : L2.DefIn (L2.KOf KX) mg "name_of" Mine.s_name_of ["hand"] := by
      dsimp only [L2.KOf]
      refine' L2.def_mk KX G ?a ?l ?c ?k (fun _ _ _ _ _ _ us hl => match us, hl with | [_], _ => rfl)
      (case a => k_is)
      (case l => k_is)
      (case c => k_is)
      (case k => k_is)
    have d_names_of : L2.DefIn (L2.KOf KX) mg "names_of" Mine.s_names_of ["hands"] := by
      dsimp only [L2.KOf]
      refine' L2.def_mk KX G ?a ?l ?c ?k (fun _ _ _ _ _ _ us hl => match us, hl with | [_], _ => rfl)
      (case a => k_is)
      (case l => k_is)
      (case c => k_is)
      (case k => k_is)
    have d_words_of_hand : L2.DefIn (L2.KOf KX) mg "words_of_hand" Mine.s_words_of_hand ["hand"] := by
      dsimp only [L2.KOf]
      refine' L2.def_mk KX G ?a ?l ?c ?k (fun _ _ _ _ _ _ us hl => match us, hl with | [_], _ => rfl)
      (case a => k_is)
      (case l => k_is)
      (case c => k_is)
      (case k => k_is)
    have d_worths_of_hand : L2.DefIn (L2.KOf KX) mg "worths_of_hand" Mine.s_worths_of_hand ["hand"] := by
      dsimp only [L2.KOf]
      refine' L2.def_mk KX G ?a ?l ?c ?k (fun _ _ _ _ _ _ us hl => match us, hl with | [_], _ => rfl)
      (case a => k_is)
      (case l => k_is)
      (case c => k_is)
      (case k => k_is)
    have d_count_of_rows : L2.DefIn (L2.KOf KX) mg "count_of_rows" Mine.s_count_of_rows ["hands"] := by
      dsimp only [L2.KOf]
      refine' L2.def_mk KX G ?a ?l ?c ?k (fun _ _ _ _ _ _ us hl => match us, hl with | [_], _ => rfl)
      (case a => k_is)
      (case l => k_is)
      (case c => k_is)
      (case k => k_is)
    have d_makes_house : L2.DefIn (L2.KOf KX) mg "makes_house" Mine.s_makes_house ["outcomes", "hands"] := by
      dsimp only [L2.KOf]
      refine' L2.def_mk KX G ?a ?l ?c ?k (fun _ _ _ _ _ _ us hl => match us, hl with | [_, _], _ => rfl)
      (case a => k_is)
      (case l => k_is)
      (case c => k_is)
      (case k => k_is)
    have d_kept_hand : L2.DefIn (L2.KOf KX) mg "kept_hand" Mine.s_kept_hand ["hand"] := by
      dsimp only [L2.KOf]
      refine' L2.def_mk KX G ?a ?l ?c ?k (fun _ _ _ _ _ _ us hl => match us, hl with | [_], _ => rfl)
      (case a => k_is)
      (case l => k_is)
      (case c => k_is)
      (case k => k_is)
    have d_house_of : L2.DefIn (L2.KOf KX) mg "house_of" Mine.s_house_of ["outcomes", "hands"] := by
      dsimp only [L2.KOf]
      refine' L2.def_mk KX G ?a ?l ?c ?k (fun _ _ _ _ _ _ us hl => match us, hl with | [_, _], _ => rfl)
      (case a => k_is)
      (case l => k_is)
      (case c => k_is)
      (case k => k_is)
    have d_outcomes_of : L2.DefIn (L2.KOf KX) mg "outcomes_of" Mine.s_outcomes_of ["house"] := by
      dsimp only [L2.KOf]
      refine' L2.def_mk KX G ?a ?l ?c ?k (fun _ _ _ _ _ _ us hl => match us, hl with | [_], _ => rfl)
      (case a => k_is)
      (case l => k_is)
      (case c => k_is)
      (case k => k_is)
    have d_hands_of : L2.DefIn (L2.KOf KX) mg "hands_of" Mine.s_hands_of ["house"] := by
      dsimp only [L2.KOf]
      refine' L2.def_mk KX G ?a ?l ?c ?k (fun _ _ _ _ _ _ us hl => match us, hl with | [_], _ => rfl)
      (case a => k_is)
      (case l => k_is)
      (case c => k_is)
      (case k => k_is)
    have d_condition_of : L2.DefIn (L2.KOf KX) mg "condition_of" Mine.s_condition_of ["told"] := by
      dsimp only [L2.KOf]
      refine' L2.def_mk KX G ?a ?l ?c ?k (fun _ _ _ _ _ _ us hl => match us, hl with | [_], _ => rfl)
      (case a => k_is)
      (case l => k_is)
      (case c => k_is)
      (case k => k_is)
    have d_place_of : L2.DefIn (L2.KOf KX) mg "place_of" Mine.s_place_of ["told"] := by
      dsimp only [L2.KOf]
      refine' L2.def_mk KX G ?a ?l ?c ?k (fun _ _ _ _ _ _ us hl => match us, hl with | [_], _ => rfl)
      (case a => k_is)
      (case l => k_is)
      (case c => k_is)
      (case k => k_is)
    have d_word_at : L2.DefIn (L2.KOf KX) mg "word_at" Mine.s_word_at ["words", "place"] := by
      dsimp only [L2.KOf]
      refine' L2.def_mk KX G ?a ?l ?c ?k (fun _ _ _ _ _ _ us hl => match us, hl with | [_, _], _ => rfl)
      (case a => k_is)
      (case l => k_is)
      (case c => k_is)
      (case k => k_is)
    have d_read_says : L2.DefIn (L2.KOf KX) mg "read_says" Mine.s_read_says ["house", "name", "word"] := by
      dsimp only [L2.KOf]
      refine' L2.def_mk KX G ?a ?l ?c ?k (fun _ _ _ _ _ _ us hl => match us, hl with | [_, _, _], _ => rfl)
      (case a => k_is)
      (case l => k_is)
      (case c => k_is)
      (case k => k_is)
    have d_read_count : L2.DefIn (L2.KOf KX) mg "read_count" Mine.s_read_count ["house", "figure", "word"] := by
      dsimp only [L2.KOf]
      refine' L2.def_mk KX G ?a ?l ?c ?k (fun _ _ _ _ _ _ us hl => match us, hl with | [_, _, _], _ => rfl)
      (case a => k_is)
      (case l => k_is)
      (case c => k_is)
      (case k => k_is)
    have d_read_condition : L2.DefIn (L2.KOf KX) mg "read_condition" Mine.s_read_condition ["house", "words", "place"] := by
      dsimp only [L2.KOf]
      refine' L2.def_mk KX G ?a ?l ?c ?k (fun _ _ _ _ _ _ us hl => match us, hl with | [_, _, _], _ => rfl)
      (case a => k_is)
      (case l => k_is)
      (case c => k_is)
      (case k => k_is)
    have d_read_deal : L2.DefIn (L2.KOf KX) mg "read_deal" Mine.s_read_deal ["house", "words"] := by
      dsimp only [L2.KOf]
      refine' L2.def_mk KX G ?a ?l ?c ?k (fun _ _ _ _ _ _ us hl => match us, hl with | [_, _], _ => rfl)
      (case a => k_is)
      (case l => k_is)
      (case c => k_is)
      (case k => k_is)
    have d_read_clause : L2.DefIn (L2.KOf KX) mg "read_clause" Mine.s_read_clause ["house", "words"] := by
      dsimp only [L2.KOf]
      refine' L2.def_mk KX G ?a ?l ?c ?k (fun _ _ _ _ _ _ us hl => match us, hl with | [_, _], _ => rfl)
      (case a => k_is)
      (case l => k_is)
      (case c => k_is)
      (case k => k_is)
    have d_clauses_in : L2.DefIn (L2.KOf KX) mg "clauses_in" Mine.s_clauses_in ["text"] := by
      dsimp only [L2.KOf]
      refine' L2.def_mk KX G ?a ?l ?c ?k (fun _ _ _ _ _ _ us hl => match us, hl with | [_], _ => rfl)
      (case a => k_is)
      (case l => k_is)
      (case c => k_is)
      (case k => k_is)
    have d_read_rule : L2.DefIn (L2.KOf KX) mg "read_rule" Mine.s_read_rule ["house", "text"] := by
      dsimp only [L2.KOf]
      refine' L2.def_mk KX G ?a ?l ?c ?k (fun _ _ _ _ _ _ us hl => match us, hl with | [_, _], _ => rfl)
      (case a => k_is)
      (case l => k_is)
      (case c => k_is)
      (case k => k_is)
    have d_holds : L2.DefIn (L2.KOf KX) mg "holds" Mine.s_holds ["condition", "row"] := by
      dsimp only [L2.KOf]
      refine' L2.def_mk KX G ?a ?l ?c ?k (fun _ _ _ _ _ _ us hl => match us, hl with | [_, _], _ => rfl)
      (case a => k_is)
      (case l => k_is)
      (case c => k_is)
      (case k => k_is)
    have d_dealt : L2.DefIn (L2.KOf KX) mg "dealt" Mine.s_dealt ["rule", "row"] := by
      dsimp only [L2.KOf]
      refine' L2.def_mk KX G ?a ?l ?c ?k (fun _ _ _ _ _ _ us hl => match us, hl with | [_, _], _ => rfl)
      (case a => k_is)
      (case l => k_is)
      (case c => k_is)
      (case k => k_is)
    have d_law_cell_at : L2.DefIn (L2.KOf KX) mg "_law_cell_at" Mine.s_law_cell_at ["script", "k"] := by
      dsimp only [L2.KOf]
      refine' L2.def_mk KX G ?a ?l ?c ?k (fun _ _ _ _ _ _ us hl => match us, hl with | [_, _], _ => rfl)
      (case a => k_is)
      (case l => k_is)
      (case c => k_is)
      (case k => k_is)
    have d_law_depth : L2.DefIn (L2.KOf KX) mg "_law_depth" Mine.s_law_depth ["condition"] := by
      dsimp only [L2.KOf]
      refine' L2.def_mk KX G ?a ?l ?c ?k (fun _ _ _ _ _ _ us hl => match us, hl with | [_], _ => rfl)
      (case a => k_is)
      (case l => k_is)
      (case c => k_is)
      (case k => k_is)
    have d_law_clause : L2.DefIn (L2.KOf KX) mg "_law_clause" Mine.s_law_clause ["depth", "outcome"] := by
      dsimp only [L2.KOf]
      refine' L2.def_mk KX G ?a ?l ?c ?k (fun _ _ _ _ _ _ us hl => match us, hl with | [_, _], _ => rfl)
      (case a => k_is)
      (case l => k_is)
      (case c => k_is)
      (case k => k_is)
    have d_law_read : L2.DefIn (L2.KOf KX) mg "_law_read" Mine.s_law_read ["found", "depths"] := by
      dsimp only [L2.KOf]
      refine' L2.def_mk KX G ?a ?l ?c ?k (fun _ _ _ _ _ _ us hl => match us, hl with | [_, _], _ => rfl)
      (case a => k_is)
      (case l => k_is)
      (case c => k_is)
      (case k => k_is)
    have d_law : L2.DefIn (L2.KOf KX) mg "law" Mine.s_law ["script"] := by
      dsimp only [L2.KOf]
      refine' L2.def_mk KX G ?a ?l ?c ?k (fun _ _ _ _ _ _ us hl => match us, hl with | [_], _ => rfl)
      (case a => k_is)
      (case l => k_is)
      (case c => k_is)
      (case k => k_is)
    obtain ⟨f, fd, e1, F1, b1⟩ := d_law.ex
    have e2 := hmg.symm.trans e1
    cases e2
    refine ⟨fd, fun s u => ?_, fun base kb nb => ?_⟩
    · exact Mine.law_binds F1 s u
    · exact Mine.law_ok B C d_is_whole d_is_bounded d_is_grid_row d_is_name d_are_names d_are_worths d_is_hand d_name_of d_names_of d_words_of_hand d_worths_of_hand d_count_of_rows d_makes_house d_kept_hand d_house_of d_outcomes_of d_hands_of d_condition_of d_place_of d_word_at d_read_says d_read_count d_read_condition d_read_deal d_read_clause d_clauses_in d_read_rule d_holds d_dealt d_law_cell_at d_law_depth d_law_clause d_law_read base F1
  case S => exact fun K H a ns hl hO hS => ⟨a, ns, rfl, hS, hl, fun _ => rfl⟩
  case C => exact fun _ _ _ _ z => z
#print axioms PySem.Challenge.cw_trueword_k69_bounds_of_a_rule_holds

import PyProof.Rows.All
import Wide.All
import OpenK.AllK
import Wide.FinOn
import Lean
import PyProof.EqAt
import PyProof.EqKinds
import PyProof.TupleCall
import PySem.Challenge.RW_trueword_k33_no_house
abbrev Fg := PySem.W.Frag
abbrev Za := @List.length_map
abbrev Zb := @List.getElem?_eq_getElem
abbrev Zc := @List.getElem?_eq_some_iff
abbrev Zd := @Nat.le_trans
abbrev Ze := @List.getElem?_map
abbrev Zf := @List.getElem?_append_right
abbrev Zg := @List.getElem?_append_left
abbrev Zh := @Nat.lt_of_lt_of_le
abbrev Zi := @List.mem_of_getElem?
abbrev Zj := @List.length_take
abbrev Zk := @List.getD_eq_getElem?_getD
abbrev Zl := @List.getElem_mem
abbrev Zm := @Nat.le_refl
abbrev Zn := @List.map_append
abbrev Zo := @List.length_append
abbrev Zp := @List.mem_map
abbrev Zq := @List.take_add_one
abbrev Zr := @List.size_toArray
abbrev Zs := @Nat.ne_of_lt
abbrev Zt := @List.take_length
abbrev Zu := @List.mem_append_right
abbrev Zv := @List.mem_cons_of_mem
abbrev Zw := @Int.toNat_natCast
abbrev Zx := @List.not_mem_nil
abbrev Zy := @List.getElem_of_mem
abbrev Zz := @List.mem_cons_self
abbrev ZA := @Nat.min_le_right
abbrev ZB := @List.mem_singleton
abbrev ZC := @Nat.not_lt
abbrev ZD := @Nat.zero_le
abbrev ZE := @List.lookup_cons
abbrev ZF := @List.mem_append
abbrev ZG := @List.length_replicate
abbrev ZH := @Nat.lt_irrefl
abbrev ZI := @List.length_range
abbrev ZJ := @List.mem_cons
abbrev ZK := @List.all_eq_true
abbrev ZL := @List.eq_of_mem_replicate
abbrev ZM := @List.mem_range
abbrev ZN := @List.length_drop
abbrev ZO := @List.replicate_succ
abbrev ZP := @Int.emod_lt_of_pos
abbrev ZQ := @List.range_succ
abbrev ZR := @List.length_cons
abbrev ZS := @List.nodup_cons
abbrev ZT := @Int.emod_nonneg
abbrev ZU := @List.map_cons
abbrev ZV := @List.getElem?_set_self
abbrev ZW := @List.length_singleton
abbrev ZX := @List.pairwise_map
abbrev ZY := @List.getElem?_set_ne
abbrev ZZ := @List.mem_filterMap
abbrev Yb := @List.nil_append
abbrev Yc := @List.find?_cons
abbrev Yd := @List.flatten_cons
abbrev Ye := @List.cons_lt_cons_iff
abbrev Yg := @List.mem_append_left
abbrev Yh := @List.getElem_toArray
abbrev Yi := @List.cons_append
abbrev Yj := @List.mem_of_mem_take
abbrev Yk := @List.mem_of_mem_drop
abbrev Yl := @Int.toNat_of_nonneg
abbrev Ym := @List.append_nil
abbrev Yn := @List.getElem?_replicate
abbrev Yo := @List.nodup_append
abbrev Yp := @List.all_cons
abbrev Yq := @Option.map_some
abbrev Yr := @List.all_map
abbrev Ys := @List.length_nil
abbrev Yt := @List.filterMap_cons
abbrev Yu := @Array.length_toList
abbrev Yv := @List.contains_cons
abbrev Yw := @List.append_assoc
abbrev Yx := @Nat.lt_succ_of_lt
abbrev Yy := @List.getElem_inj
abbrev Yz := @Nat.ne_of_gt
abbrev YA := @Nat.lt_succ_self
abbrev YB := @List.of_mem_zip
abbrev YC := @Nat.min_le_left
-- CHANGE: your row's module here, as the last of these rows
set_option Elab.async false
set_option maxHeartbeats 8000000
set_option linter.all false
set_option maxRecDepth 100000
namespace L2
open PySem PySem.Spec PyProof.Rows
abbrev Key := Sum Int Str
def keyIs : Key -> Value -> Bool
  | .inl k, v => Value.isInt k v
  | .inr x, v => Value.isStrOf x v
def keyH (w : World) : Key -> Int
  | .inl k => hashInt k
  | .inr x => hashStr w x
theorem xn : ∀ {k : Key} {v : Value}, keyIs k v = true -> (∃ i t, k = Sum.inl i /\ v = Value.int i t) \/ (∃ x t, k = Sum.inr x /\ v = Value.str x t)
  | .inl i, v, h => by
    obtain ⟨t, e⟩ := Value.isInt_shape (k := i) (v := v) h;exact .inl ⟨i, t, rfl, e⟩
  | .inr x, v, h => by
    obtain ⟨t, e⟩ := Value.isStrOf_shape (x := x) (v := v) h;exact .inr ⟨x, t, rfl, e⟩
theorem key_ll (a b : Int) : decide ((Sum.inl a : Key) = Sum.inl b) = (a == b) := by
  by_cases e : a = b
  . subst e; simp
  . have h : ¬ (Sum.inl a : Key) = Sum.inl b := fun q => e (Sum.inl.inj q)
    rw [decide_eq_false h];exact (beq_eq_false_iff_ne.mpr e).symm
theorem key_rr (a b : Str) : decide ((Sum.inr a : Key) = Sum.inr b) = decide (a = b) := by
  by_cases e : a = b
  . subst e; simp
  . have h : ¬ (Sum.inr a : Key) = Sum.inr b := fun q => e (Sum.inr.inj q)
    rw [decide_eq_false h, decide_eq_false e]
theorem key_lr (a : Int) (b : Str) : decide ((Sum.inl a : Key) = Sum.inr b) = false := decide_eq_false (fun q => nomatch q)
theorem key_rl (a : Str) (b : Int) : decide ((Sum.inr a : Key) = Sum.inl b) = false := decide_eq_false (fun q => nomatch q)
def ik (prog : Program) (w : World) : PySem.KeyKind prog w Key where
  is := keyIs
  hash := keyH w
  inj := fun v a b ha hb => by
    rcases xn ha with ⟨i, t, rfl, rfl⟩ | ⟨x, t, rfl, rfl⟩
    . rcases xn hb with ⟨j, u, rfl, e⟩ | ⟨y, u, rfl, e⟩
      . injection e with e1 _; rw [e1]
      . exact nomatch e
    . rcases xn hb with ⟨j, u, rfl, e⟩ | ⟨y, u, rfl, e⟩
      . exact nomatch e
      . injection e with e1 _; rw [e1]
  byValue := fun k v h => by
    rcases xn h with ⟨i, t, rfl, rfl⟩ | ⟨x, t, rfl, rfl⟩ <;> rfl
  pyHash := fun hv h => by
    rcases xn hv with ⟨i, t, rfl, rfl⟩ | ⟨x, t, rfl, rfl⟩
    . exact wpAny_pyHash_int h
    . exact wpAny_pyHash_str h
  eqBool := fun hu hv h => by
    rcases xn hu with ⟨i, t, rfl, rfl⟩ | ⟨x, t, rfl, rfl⟩
    . rcases xn hv with ⟨j, u, rfl, rfl⟩ | ⟨y, u, rfl, rfl⟩
      . rw [key_ll] at h; exact wpAny_eqBool_int h
      . rw [key_lr] at h; exact SeqAt.EqAt.int_str i t y u _ _ _ _ h
    . rcases xn hv with ⟨j, u, rfl, rfl⟩ | ⟨y, u, rfl, rfl⟩
      . rw [key_rl] at h; exact SeqAt.EqAt.str_int x t j u _ _ _ _ h
      . rw [key_rr] at h; exact wpAny_eqBool_str h
  «strs» := fun k x t v h => by
    rcases xn h with ⟨i, u, rfl, e⟩ | ⟨y, u, rfl, e⟩
    . exact nomatch e
    . injection e with e1 _
      subst e1;cases v <;> rfl
end L2
namespace L2
open PySem PySem.Spec PyProof.Rows
inductive V where
  | non | bl (b : Bool) | int (i : Int) | str (x : Str) | byt (b : Array UInt8) | flt (b : UInt64) | ref (a : Addr) | ty (n : String)
  deriving DecidableEq
def RelV : V -> Value -> Prop
  | .non, u => u = Value.none
  | .bl b, u => u = Value.bool b
  | .int i, u => ∃ t, u = Value.int i t
  | .str x, u => ∃ t, u = Value.str x t
  | .byt b, u => ∃ t, u = Value.bytes b t
  | .flt b, u => ∃ t, u = Value.float b t
  | .ref a, u => u = Value.ref a
  | .ty n, u => u = Value.type n
abbrev Vals : List V -> List Value -> Prop := Paired RelV
theorem Vals.length {xs : List V} {us : List Value} (r : Vals xs us) : xs.length = us.length := Paired.length r
theorem Vals.get : ∀ {xs : List V} {us : List Value} {i : Nat} {x : V}, Vals xs us -> xs[i]? = some x -> ∃ u, us[i]? = some u /\ RelV x u
  | _, _, _, _, .nil, e => by simp at e
  | _, _, 0, _, .cons r _, e => by simp at e; subst e; exact ⟨_, rfl, r⟩
  | _, _, i + 1, x, .cons _ t, e => by
    obtain ⟨u, h1, h2⟩ := Vals.get (i := i) (x := x) t (by simpa using e);exact ⟨u, by simpa using h1, h2⟩
theorem Vals.set {x : V} {u : Value} (r : RelV x u) : ∀ {xs : List V} {us : List Value} (i : Nat), Vals xs us -> Vals (xs.set i x) (us.set i u)
  | _, _, _, .nil => .nil
  | _, _, 0, .cons _ t => .cons r t
  | _, _, i + 1, .cons q t => .cons q (Vals.set r i t)
theorem Vals.append : ∀ {xs ys : List V} {us ws : List Value}, Vals xs us -> Vals ys ws -> Vals (xs ++ ys) (us ++ ws)
  | _, _, _, _, .nil, s => s
  | _, _, _, _, .cons r t, s => .cons r (Vals.append t s)
theorem Vals.take : ∀ {xs : List V} {us : List Value} (n : Nat), Vals xs us -> Vals (xs.take n) (us.take n)
  | _, _, 0, _ => .nil
  | _, _, _ + 1, .nil => .nil
  | _, _, n + 1, .cons r t => .cons r (Vals.take n t)
theorem Vals.drop : ∀ {xs : List V} {us : List Value} (n : Nat), Vals xs us -> Vals (xs.drop n) (us.drop n)
  | _, _, 0, r => r
  | _, _, _ + 1, .nil => .nil
  | _, _, n + 1, .cons _ t => Vals.drop n t
def RelO : Option V -> Option Value -> Prop
  | some v, some u => RelV v u
  | none, none => True
  | _, _ => False
def KV {κ : Type} : List (κ × V) -> List (κ × Value) -> Prop := Paired fun (p : κ × V) (q : κ × Value) => p.1 = q.1 /\ RelV p.2 q.2
def kV : Key -> V
  | .inl i => .int i
  | .inr x => .str x
inductive HO where
    | lst (xs : List V)
    | tup (xs : List V)
    | dK (kvs : List (Key × V)) | dT (kvs : List (List Key × V))
    | set (S : Int -> Bool) (n : Nat)
    | ins (C dx : Addr) (fs : List (Str × V))
    | own (x : Addr)
    | xd (fs : List (Str × V))
    | met (f x : Addr)
    | rng (lo hi : Int)
    | frz (o : Obj) (u : HO)
    | tbl (ps : Array Value)
    | ext (φ : Heap -> Prop)
abbrev Hp := Addr -> Option HO
def upd (H : Hp) (a : Addr) (o : HO) : Hp := fun b => if b = a then some o else H b
theorem ze {H : Hp} {a : Addr} {o : HO} : upd H a o a = some o := by unfold upd; rw [if_pos rfl]
theorem z0 {H : Hp} {a b : Addr} {o : HO} (h : b ≠ a) : upd H a o b = H b := by unfold upd; rw [if_neg h]
theorem y8 {H : Hp} {a b : Addr} {o : HO} (h : H a = some o) (h' : H b = none) : a ≠ b := by
  intro e; subst e; rw [h] at h'; cases h'
def IsTupD (h : Heap) (a : Addr) (items : Array Value) : Prop := ∃ o, h.get? a = some o /\ o.cls = .type "tuple" /\ ∃ n, o.data = .seq items n /\ o.dict = none
theorem IsTupD.tup {h : Heap} {a : Addr} {items : Array Value} (q : IsTupD h a items) : IsTup h a items := by
  obtain ⟨o, e, c, n, d, _⟩ := q;exact ⟨o, e, c, n, d⟩
theorem IsTupD.new (h : Heap) (items : Array Value) : IsTupD (h.push { cls := .type "tuple", data := .seq items }) h.objs.size items := ⟨_, Heap.get?_push_size _ rfl, rfl, _, rfl, rfl⟩
section
variable (P : Program) (w : World)
def ObjOk (H : Hp) (h : Heap) (a : Addr) : HO -> Prop
  | .lst xs => xs.length <= sizeLine /\ ∃ (its : List Value) (n : Nat), Vals xs its /\ h.get? a = some { cls := .type "list", data := .seq its.toArray n }
  | .tup xs => xs.length <= sizeLine /\ ∃ its : List Value, Vals xs its /\ IsTupD h a its.toArray
  | .dK kvs => kvs.length <= sizeLine /\ (a == sysModules) = false /\ ∃ vs, KV kvs vs /\ h.DictOf (ik P w) a vs
  | .dT kvs => kvs.length <= sizeLine /\ (a == sysModules) = false /\ ∃ xs : List (List Key × Addr × Value),
      Paired (fun (p : List Key × V) (q : List Key × Addr × Value) => p.1 = q.1 /\ H q.2.1 = some (.tup (p.1.map kV)) /\ RelV p.2 q.2.2) kvs xs /\
      ∃ o es ep, h.get? a = some o /\ o.ExactDict /\ o.data = .dict es ep /\ es.toList = xs.map (entryOfKey (tupleKind (ik P w))) /\ (xs.map (·.1)).Nodup
  | .set S n => h.SetOf (intKind P w) a S n
  | .ins C dx fs => H dx = some (.own a) /\ fs.length <= 1000 /\ dx ≠ a /\ h.get? a = some (PySem.W.instObj C dx) /\
      ∃ mA, h.Ns1 dx mA /\ (∀ f, RelO (fs.lookup f) (mA f)) /\ PySem.Within mA (fs.map (·.1))
  | .own _ => ∃ o, h.get? a = some o
  | .xd fs => ∃ mA, h.Ns1 a mA /\ ∀ f, RelO (fs.lookup f) (mA f)
  | .rng lo hi => ∃ t u v, h.get? a = some { cls := .type "range", data := .fields #[.int lo t, .int hi u, .int 1 v] }
  | .frz o u => h.get? a = some o /\ ObjOk H h a u
  | .tbl ps => h.get? a = some { cls := .none, data := .fields ps }
  | .met f x => h.get? a = some (PySem.W.methodObj (.ref f) (.ref x))
  | .ext φ => φ h /\ (∃ o, h.get? a = some o) /\ ∀ h1 h2 : Heap, φ h1 -> (∀ o, h1.get? a = some o -> h2.get? a = some o) -> φ h2
def HOk (H : Hp) (h : Heap) : Prop := ∀ a o, H a = some o -> ObjOk P w H h a o
end
section
variable {P : Program} {w : World} {H H' : Hp} {h h' : Heap} {a : Addr} {o : HO}
theorem ObjOk.lt (x : ObjOk P w H h a o) : a < h.objs.size := by
  cases o with
  | lst xs => obtain ⟨_, _, _, _, e⟩ := x; exact Heap.lt_size e
  | tup xs => obtain ⟨_, _, _, p⟩ := x; exact p.tup.lt
  | dK kvs => obtain ⟨_, _, _, _, o, _, _, e, _⟩ := x; exact Heap.lt_size e
  | dT kvs => obtain ⟨_, _, _, _, o, _, _, e, _⟩ := x; exact Heap.lt_size e
  | set S n => obtain ⟨o, _, _, _, e, _⟩ := x; exact Heap.lt_size e
  | ins C dx fs => obtain ⟨_, _, _, e, _⟩ := x; exact Heap.lt_size e
  | own y => obtain ⟨_, e⟩ := x; exact Heap.lt_size e
  | xd fs => obtain ⟨_, ⟨_, _, _, e, _⟩, _⟩ := x; exact Heap.lt_size e
  | rng lo hi => obtain ⟨_, _, _, e⟩ := x; exact Heap.lt_size e
  | frz ob u => obtain ⟨e, _⟩ := x; exact Heap.lt_size e
  | tbl ps => exact Heap.lt_size (show h.get? a = some _ from x)
  | met f y => exact Heap.lt_size (show h.get? a = some _ from x)
  | ext φ => obtain ⟨_, ⟨_, e⟩, _⟩ := x; exact Heap.lt_size e
theorem Paired.mapP {α β : Type} {F G : α -> β -> Prop} : ∀ {l₁ : List α} {l₂ : List β}, Paired F l₁ l₂ -> (∀ a b, F a b -> G a b) -> Paired G l₁ l₂
  | _, _, .nil, _ => .nil
  | _, _, .cons r t, f => .cons (f _ _ r) (Paired.mapP t f)
theorem ObjOk.stay (x : ObjOk P w H h a o) (k : ∀ b u, (b = a \/ H b = some (.own a)) -> h.get? b = some u -> h'.get? b = some u)
    (ho : ∀ b, H b = some (.own a) -> H' b = some (.own a)) (ht : ∀ b xs, H b = some (.tup xs) -> H' b = some (.tup xs)) : ObjOk P w H' h' a o := by
  induction o with
  | lst xs => obtain ⟨z, its, n, r, e⟩ := x; exact ⟨z, its, n, r, k _ _ (.inl rfl) e⟩
  | tup xs => obtain ⟨z, its, r, ob, e, c⟩ := x; exact ⟨z, its, r, ob, k _ _ (.inl rfl) e, c⟩
  | dK kvs => obtain ⟨z, y, vs, r, ob, es, ep, e, c⟩ := x; exact ⟨z, y, vs, r, ob, es, ep, k _ _ (.inl rfl) e, c⟩
  | dT kvs =>
    obtain ⟨z, y, xs, r, ob, es, ep, e, c⟩ := x;exact ⟨z, y, xs, Paired.mapP r fun p q z => ⟨z.1, ht _ _ z.2.1, z.2.2⟩, ob, es, ep, k _ _ (.inl rfl) e, c⟩
  | set S n => obtain ⟨ob, es, ep, t, e, c⟩ := x; exact ⟨ob, es, ep, t, k _ _ (.inl rfl) e, c⟩
  | ins C dx fs =>
    obtain ⟨d, z, ne, e, mA, ⟨od, es, ep, e2, c⟩, r⟩ := x;exact ⟨ho _ d, z, ne, k _ _ (.inl rfl) e, mA, ⟨od, es, ep, k _ _ (.inr d) e2, c⟩, r⟩
  | own y => obtain ⟨ob, e⟩ := x; exact ⟨ob, k _ _ (.inl rfl) e⟩
  | xd fs => obtain ⟨mA, ⟨od, es, ep, e, c⟩, r⟩ := x; exact ⟨mA, ⟨od, es, ep, k _ _ (.inl rfl) e, c⟩, r⟩
  | rng lo hi => obtain ⟨t, u, v, e⟩ := x; exact ⟨t, u, v, k _ _ (.inl rfl) e⟩
  | frz ob u ih => obtain ⟨e, q⟩ := x; exact ⟨k _ _ (.inl rfl) e, ih q⟩
  | tbl ps =>
    have e : h.get? a = some { cls := .none, data := .fields ps } := x
    show h'.get? a = some { cls := .none, data := .fields ps }
    exact k a _ (.inl rfl) e
  | met f y =>
    have e : h.get? a = some (PySem.W.methodObj (.ref f) (.ref y)) := x
    show h'.get? a = some (PySem.W.methodObj (.ref f) (.ref y))
    exact k a _ (.inl rfl) e
  | ext φ => obtain ⟨p, ⟨o, e⟩, st⟩ := x; exact ⟨st _ _ p fun o q => k _ _ (.inl rfl) q, ⟨o, k _ _ (.inl rfl) e⟩, st⟩
theorem HOk.lt (x : HOk P w H h) (e : H a = some o) : a < h.objs.size := (x a o e).lt
theorem HOk.fresh (x : HOk P w H h) (e : h.objs.size <= a) : H a = none := by
  cases q : H a with
  | none => rfl
  | some u => exact absurd (Zh (x.lt q) e) (ZH _)
theorem HOk.kept (x : HOk P w H h) (k : ∀ b u, h.get? b = some u -> h'.get? b = some u) : HOk P w H h' := fun a o e =>
  (x a o e).stay (fun b u _ q => k b u q) (fun _ q => q) fun _ _ q => q
theorem HOk.laid (x : HOk P w H h) (k : ∀ b u, h.get? b = some u -> h'.get? b = some u) (hp : h.objs.size <= a) (new : ObjOk P w (upd H a o) h' a o) : HOk P w (upd H a o) h' := fun b u e => by
  have hn := x.fresh hp
  by_cases hb : b = a
  . subst hb; rw [ze] at e; cases e; exact new
  . rw [z0 hb] at e
    exact (x b u e).stay (fun c v _ q => k c v q) (fun c q => by rw [z0 (y8 q hn)]; exact q) fun c xs q => by rw [z0 (y8 q hn)]; exact q
end
def Rd (H : Hp) (a : Addr) (u : HO) : Prop := H a = some u \/ ∃ o, H a = some (.frz o u)
theorem Rd.of {H : Hp} {a : Addr} {u : HO} (h : H a = some u) : Rd H a u := .inl h
theorem Rd.ok {P : Program} {w : World} {H : Hp} {h : Heap} {a : Addr} {u : HO} (r : Rd H a u) (x : HOk P w H h) : ObjOk P w H h a u := by
  rcases r with r | ⟨o, r⟩
  . exact x a u r
  . obtain ⟨_, q⟩ := x a _ r
    exact q
def Mut : Option HO -> Prop
  | some (.lst _) => True
  | some (.dK _) => True
  | some (.dT _) => True
  | some (.set _ _) => True
  | some (.ins _ _ _) => True
  | some (.ext _) => True
  | _ => False
section
variable {P : Program} {w : World} {H : Hp} {h h' : Heap} {x e : Addr} {o' : HO}
theorem HOk.write (ok : HOk P w H h) (mu : Mut (H x)) (he : e = x \/ H e = some (.own x)) (k : ∀ b u, b ≠ e -> h.get? b = some u -> h'.get? b = some u) (heo : ∃ u, h'.get? e = some u)
    (new : ObjOk P w (upd H x o') h' x o') : HOk P w (upd H x o') h' := fun b u q => by
  have nown : ∀ c y, H c = some (.own y) -> c ≠ x := fun c y r z => by subst z; rw [r] at mu; exact mu
  have ntup : ∀ c xs, H c = some (.tup xs) -> c ≠ x := fun c xs r z => by subst z; rw [r] at mu; exact mu
  by_cases hb : b = x
  . subst hb; rw [ze] at q; cases q; exact new
  . rw [z0 hb] at q
    by_cases hbe : b = e
    . have q' : H b = some (.own x) := by
        rcases he with z | z
        . exact absurd (hbe.trans z) hb
        . rw [hbe]; exact z
      rw [q] at q'; cases q';obtain ⟨v, hv⟩ := heo;exact ⟨v, by rw [hbe]; exact hv⟩
    . refine (ok b u q).stay (fun c v hc r => k c v ?_ r) (fun c r => by rw [z0 (nown c b r)]; exact r) fun c xs r => by rw [z0 (ntup c xs r)]; exact r
      rcases hc with rfl | hc
      . exact hbe
      . rintro rfl
        rcases he with z | z
        . exact nown c b hc z
        . rw [hc] at z; cases z; exact hb rfl
end
structure Un (fs ex : List Addr) (H H' : Hp) (h h' : Heap) : Prop where
  keep : ∀ b o, h.get? b = some o -> H b = none -> b ∉ fs -> b ∉ ex -> h'.get? b = some o
  slot : ∀ b o, h.get? b = some o -> H b = none -> b ∈ fs -> b ∉ ex -> ∃ sl, h'.get? b = some { o with slots := sl }
  free : ∀ b o, h.get? b = some o -> H b = none -> b ∉ ex -> H' b = none
  there : ∀ b o, h.get? b = some o -> b ∉ ex -> ∃ o', h'.get? b = some o'
  tups : ∀ b xs, H b = some (.tup xs) -> H' b = some (.tup xs)
  frzs : ∀ b o u, H b = some (.frz o u) -> H' b = some (.frz o u)
  tbls : ∀ b ps, H b = some (.tbl ps) -> ∃ more, H' b = some (.tbl (ps ++ more))
section
variable {fs fs' ex ex' : List Addr} {H H1 H2 : Hp} {h h1 h2 h' : Heap} {a x e : Addr} {o : HO}
theorem Un.any (u : Un fs ex H H1 h h1) {b : Addr} {ob : Obj} (q : h.get? b = some ob) (n : H b = none) (hx : b ∉ ex) : ∃ sl, h1.get? b = some { ob with slots := sl } := by
  by_cases hb : b ∈ fs
  . exact u.slot b ob q n hb hx
  . exact ⟨ob.slots, u.keep b ob q n hb hx⟩
theorem Un.trans (a : Un fs ex H H1 h h1) (b : Un fs ex H1 H2 h1 h2) : Un fs ex H H2 h h2 where
  keep := fun c ob q n hc hx => b.keep c ob (a.keep c ob q n hc hx) (a.free c ob q n hx) hc hx
  slot := fun c ob q n hc hx => by
    obtain ⟨sl, e1⟩ := a.slot c ob q n hc hx;obtain ⟨sl', e2⟩ := b.slot c _ e1 (a.free c ob q n hx) hc hx;exact ⟨sl', e2⟩
  free := fun c ob q n hx => by
    obtain ⟨o', e1⟩ := a.there c ob q hx;exact b.free c o' e1 (a.free c ob q n hx) hx
  there := fun c ob q hx => by
    obtain ⟨o', e1⟩ := a.there c ob q hx;exact b.there c o' e1 hx
  tups := fun c xs q => b.tups c xs (a.tups c xs q)
  frzs := fun c ob xs q => b.frzs c ob xs (a.frzs c ob xs q)
  tbls := fun c ps q => by
    obtain ⟨m1, e1⟩ := a.tbls c ps q;obtain ⟨m2, e2⟩ := b.tbls c _ e1;exact ⟨m1 ++ m2, by rw [e2, Array.append_assoc]⟩
theorem Un.kept (k : ∀ b u, h.get? b = some u -> h'.get? b = some u) : Un fs ex H H h h' :=
  ⟨fun b ob q _ _ _ => k b ob q, fun b ob q _ _ _ => ⟨ob.slots, k b ob q⟩, fun _ _ _ n _ => n, fun b ob q _ => ⟨ob, k b ob q⟩, fun _ _ q => q, fun _ _ _ q => q, fun _ ps q => ⟨#[], by rw [q]; simp⟩⟩
theorem Un.refl : Un fs ex H H h h := Un.kept fun _ _ q => q
theorem Un.laid (k : ∀ b u, h.get? b = some u -> h'.get? b = some u) (hp : h.objs.size <= a) (hn : H a = none) : Un fs ex H (upd H a o) h h' where
  keep := fun b u q _ _ _ => k b u q
  slot := fun b u q _ _ _ => ⟨u.slots, k b u q⟩
  free := fun b u q n _ => by rw [z0 (Zs (Zh (Heap.lt_size q) hp))]; exact n
  there := fun b u q _ => ⟨u, k b u q⟩
  tups := fun b xs q => by rw [z0 (y8 q hn)]; exact q
  frzs := fun b u xs q => by rw [z0 (y8 q hn)]; exact q
  tbls := fun b ps q => ⟨#[], by rw [z0 (y8 q hn), q]; simp⟩
theorem Un.write (mu : Mut (H x)) (he : e = x \/ H e = some (.own x)) (k : ∀ b u, b ≠ e -> h.get? b = some u -> h'.get? b = some u) (heo : ∃ u, h'.get? e = some u) : Un fs ex H (upd H x o) h h' := by
  have hx : ∀ b, H b = none -> b ≠ x := fun b n z => by subst z; rw [n] at mu; exact mu
  have hb : ∀ b, H b = none -> b ≠ e := fun b n z => by
    subst z
    rcases he with r | r
    . exact hx b n r
    . rw [n] at r; cases r
  have hm : ∀ b u, H b = some u -> ¬ Mut (some u) -> b ≠ x := fun b u q nm z => by subst z; rw [q] at mu; exact nm mu
  refine ⟨fun b u q n _ _ => k b u (hb b n) q, fun b u q n _ _ => ⟨u.slots, k b u (hb b n) q⟩, fun b u q n _ => by rw [z0 (hx b n)]; exact n, fun b u q _ => ?_,
    fun b xs q => by rw [z0 (hm b _ q fun z => z)]; exact q, fun b u xs q => by rw [z0 (hm b _ q fun z => z)]; exact q, fun b ps q => ⟨#[], by rw [z0 (hm b _ q fun z => z), q]; simp⟩⟩
  by_cases hbe : b = e
  . subst hbe; exact heo
  . exact ⟨u, k b u hbe q⟩
theorem Un.mono (u : Un fs ex H H1 h h1) (hs : ∀ b ∈ fs, b ∈ fs') (hx : ∀ b ∈ ex, b ∈ ex') : Un fs' ex' H H1 h h1 :=
  ⟨fun b ob q n hb he => u.keep b ob q n (fun z => hb (hs b z)) fun z => he (hx b z), fun _ _ q n _ he => u.any q n fun z => he (hx _ z), fun b ob q n he => u.free b ob q n fun z => he (hx b z), fun b ob q he => u.there b ob q fun z => he (hx b z), u.tups, u.frzs, u.tbls⟩
end
def trk (h : Heap) (H : Hp) : List Addr := (List.range h.objs.size).filter fun a => (H a).isSome
def hidT (h : Heap) (H : Hp) : Heap := PySem.W.hideAll h (trk h H)
theorem f8 (h : Heap) (H : Hp) : (hidT h H).objs.size = h.objs.size := PySem.W.hideAll_size _ _
theorem cu {h : Heap} {H : Hp} {b : Addr} {o : Obj} (e : h.get? b = some o) (n : H b = none) : (hidT h H).get? b = some o :=
  PySem.W.hideAll_get _ e fun hm => by
    have q : (H b).isSome = true := (List.mem_filter.mp hm).2;rw [n] at q; simp at q
theorem bn {h : Heap} {H : Hp} {b : Addr} {o : Obj} (e : (hidT h H).get? b = some o) : h.get? b = some o /\ H b = none := by
  have e' : h.get? b = some o := PySem.W.of_hideAll (trk h H) e;refine ⟨e', ?_⟩
  cases q : H b with
  | none => rfl
  | some x =>
    have hm : b ∈ trk h H := List.mem_filter.mpr ⟨ZM.mpr (Heap.lt_size e'), by simp [q]⟩;have z : (hidT h H).get? b = none := PySem.W.hideAll_none (trk h H) hm;rw [z] at e; cases e
def bg (g h : Heap) (L : Addr) : List (Addr × Obj) := (List.range h.objs.size).filterMap fun a => if a = L \/ (g.get? a).isSome = true then none else (h.get? a).map fun o => (a, o)
def rest (g h : Heap) (L d : Addr) : List (Addr × Obj) := (bg g h L).filter fun p => decide (p.1 ≠ d)
end L2
namespace L2
open PySem PySem.Spec PyProof.Rows
structure Mod (K : Fg) (mg : Str -> Option Value) (base : Heap) : Prop where
  kin : K.In base
  glob : base.Ns mainGlobals mg
  blt : ∃ mb, base.Ns builtinsNs mb /\ ∀ x : Str, x ≠ "__name__" -> mb x = bootBuiltins x
  nolimit : base.NoLimit
structure Cx where
  prog : Program
  w : World
  K : Fg
  mg : Str -> Option Value
  base : Heap
  A : Around
  N : List Str
  s₀ : Shared
  H₀ : Hp
  env : Env
  outer : List Env
  stack : List Env
  ex : List Addr
  fn : Str -> Bool
  calm : Bool
  pn : List (Addr × Obj)
  xe : Value -> Shared -> Prop
def frs (l : List Env) : List Addr := l.filterMap (·.frame)
abbrev Cx.fs (X : Cx) : List Addr := frs X.outer
def Vis (sc : Scope) (x : Str) : Prop := sc.names.lookup x = some .local \/ sc.names.lookup x = some .cell \/ sc.names.lookup x = some .free
def Loc (sc : Scope) (x : Str) : Prop := sc.names.lookup x = some .local \/ sc.names.lookup x = some .cell
def Look (env : Env) (h : Heap) (m : Str -> Option Value) (x : Str) (u : Value) : Prop :=
  (env.kindOf x = some .local /\ m x = some u) \/ ((env.kindOf x = some .cell \/ env.kindOf x = some .free) /\ ∃ c, env.cells.lookup x = some c /\ h.IsCell c (some u))
structure Cx.Ok (X : Cx) : Prop where
  mod : Mod X.K X.mg X.base
  kind : X.env.scope.kind = .function
  glob : X.env.globals = mainGlobals
  blt : X.env.builtins = builtinsNs
  above : X.s₀.heap.objs.size <= X.env.locals
  inj : ∀ x y c, X.env.cells.lookup x = some c -> X.env.cells.lookup y = some c -> x = y
  has : ∀ x, (X.env.kindOf x = some .cell \/ X.env.kindOf x = some .free) -> ∃ c, X.env.cells.lookup x = some c
  cab : ∀ x c, X.fn x = true -> X.env.cells.lookup x = some c -> X.s₀.heap.objs.size <= c
  hd : X.calm = true -> X.A.handled = none
  frames : X.A.frames = some X.stack
  stk : X.stack = X.outer \/ (X.stack = X.env :: X.outer /\ X.env.frame = some X.env.locals)
  exf : ∀ b ∈ X.ex, b ≠ X.env.locals /\ ∀ x c, X.env.cells.lookup x = some c -> c ≠ b
  bs : ∀ b o, X.base.get? b = some o -> X.s₀.heap.get? b = some o /\ X.H₀ b = none
  bsz : X.base.objs.size <= X.s₀.heap.objs.size
  noex : ∀ b o, X.base.get? b = some o -> b ∉ X.ex
  exfs : ∀ b ∈ X.ex, b ∉ X.fs
  funs : X.s₀.heap.FunFrames X.base X.outer
  frf : ∀ b ∈ X.fs, X.H₀ b = none
structure Inv (X : Cx) (pins : List (Addr × Obj)) (σ : List (Option V)) (H : Hp) (s : Shared) : Prop where
  ok : X.Ok
  os : s.os = X.s₀.os
  bare : AllBare s.gens
  base : Un X.fs X.ex X.H₀ H X.s₀.heap s.heap
  loc : ∃ m, s.heap.Ns X.env.locals m /\ ∀ (i : Nat) (x : Str) (v : V), X.N[i]? = some x -> σ[i]? = some (some v) -> Vis X.env.scope x -> ∃ u, RelV v u /\ Look X.env s.heap m x u
  cell : ∀ x c, X.env.cells.lookup x = some c -> ∃ v, s.heap.IsCell c v
  free : H X.env.locals = none
  freeC : ∀ x c, X.env.cells.lookup x = some c -> H c = none
  pin : ∀ p ∈ X.pn ++ pins, s.heap.get? p.1 = some p.2 /\ H p.1 = none /\ p.1 ≠ X.env.locals /\ p.1 ∉ X.fs /\ ∀ v, p.2.data ≠ .cell v
  hok : HOk X.prog X.w H s.heap
  len : σ.length = X.N.length
section
variable {X : Cx} {pins : List (Addr × Obj)} {σ : List (Option V)} {H H' : Hp} {s : Shared} {h' : Heap}
theorem Cx.Ok.nofr (ok : X.Ok) {b : Addr} {o : Obj} (e : X.base.get? b = some o) : b ∉ X.fs := fun hb => by
  have := (ok.funs.mem hb).1;rw [e] at this; cases this
theorem Inv.bs (I : Inv X pins σ H s) : ∀ b o, X.base.get? b = some o -> s.heap.get? b = some o /\ H b = none := fun b o e =>
  ⟨I.base.keep b o (I.ok.bs b o e).1 (I.ok.bs b o e).2 (I.ok.nofr e) (I.ok.noex b o e), I.base.free b o (I.ok.bs b o e).1 (I.ok.bs b o e).2 (I.ok.noex b o e)⟩
theorem Inv.bk (I : Inv X pins σ H s) : ∀ b o, X.base.get? b = some o -> s.heap.get? b = some o := fun b o e => (I.bs b o e).1
theorem Inv.mod (I : Inv X pins σ H s) : Mod X.K X.mg X.base := I.ok.mod
theorem Inv.kIn (I : Inv X pins σ H s) : X.K.In s.heap := I.ok.mod.kin.keeps I.bk
theorem Inv.nolimit (I : Inv X pins σ H s) : s.heap.NoLimit := I.ok.mod.nolimit.keeps I.bk
theorem Inv.lt (I : Inv X pins σ H s) : X.env.locals < s.heap.objs.size := let ⟨_, hn, _⟩ := I.loc; hn.lt
theorem Inv.sz (I : Inv X pins σ H s) : X.s₀.heap.objs.size <= s.heap.objs.size := Zd I.ok.above (Nat.le_of_lt I.lt)
theorem Inv.nofs (I : Inv X pins σ H s) {a : Addr} (h : s.heap.objs.size <= a) : a ∉ X.fs := fun hb => by
  obtain ⟨_, o, ho, _⟩ := I.ok.funs.mem hb;exact absurd (Zh (Heap.lt_size ho) (Zd I.sz h)) (ZH _)
theorem Inv.cne (I : Inv X pins σ H s) : ∀ x c, X.env.cells.lookup x = some c -> c ≠ X.env.locals := fun x c e z => by
  obtain ⟨v, o, ho, hd⟩ := I.cell x c e;obtain ⟨m, ⟨o', es, ep, ho', hd', _⟩, _⟩ := I.loc;rw [z, ho'] at ho; cases ho; rw [hd'] at hd; cases hd
theorem Inv.funs (I : Inv X pins σ H s) : s.heap.FunFrames X.base X.outer := by
  have all : ∀ (l : List Env), (∀ b ∈ frs l, b ∈ X.fs) -> X.s₀.heap.FunFrames X.base l -> s.heap.FunFrames X.base l := by
    intro l
    induction l with
    | nil => intro _ _; trivial
    | cons env r ih =>
      intro hs hl;obtain ⟨hk, ⟨L, o, hf, hn, ho, hd⟩, hr⟩ := hl;have hL : L ∈ X.fs := hs L (by unfold frs; rw [Yt, hf]; exact Zz);obtain ⟨sl, e⟩ := I.base.slot L o ho (I.ok.frf L hL) hL fun z => I.ok.exfs L z hL
      exact ⟨hk, ⟨L, _, hf, hn, e, hd⟩, ih (fun b hb => hs b (by unfold frs; rw [Yt, hf]; exact Zv _ hb)) hr⟩
  exact all X.outer (fun _ hb => hb) I.ok.funs
theorem Inv.stack (I : Inv X pins σ H s) : s.heap.FunFrames X.base X.stack := by
  rcases I.ok.stk with e | ⟨e, hf⟩
  . rw [e]; exact I.funs
  . rw [e]
    obtain ⟨m, hn, _⟩ := I.loc;refine .cons (by rw [I.ok.kind]; decide) hf hn ?_ I.funs;exact Heap.get?_none_of_le (Zd I.ok.bsz I.ok.above)
theorem Inv.stkSub (I : Inv X pins σ H s) : ∀ b ∈ frs X.stack, b ∈ X.env.locals :: X.fs := fun b hb => by
  rcases I.ok.stk with e | ⟨e, hf⟩
  . rw [e] at hb; exact Zv _ hb
  . rw [e] at hb
    unfold frs at hb;rw [Yt, hf] at hb;exact hb
theorem Inv.stkFree (I : Inv X pins σ H s) : ∀ b ∈ frs X.stack, H b = none := fun b hb => by
  rcases ZJ.mp (I.stkSub b hb) with e | hb
  . rw [e]; exact I.free
  . obtain ⟨_, o, ho, _⟩ := I.ok.funs.mem hb
    exact I.base.free b o ho (I.ok.frf b hb) fun z => I.ok.exfs b z hb
theorem Inv.step {g' : Array GenState} {t' : Nat} {d' : Drawn} {ch : List Addr} (I : Inv X pins σ H s)
    (hch : ∀ b ∈ ch, (b ∈ X.ex \/ X.s₀.heap.objs.size <= b) /\ b ≠ X.env.locals /\ (∀ x c, X.env.cells.lookup x = some c -> c ≠ b) /\ ∀ p ∈ X.pn ++ pins, p.1 ≠ b)
    (keep : ∀ b o, b ≠ X.env.locals -> b ∉ X.fs -> b ∉ ch -> s.heap.get? b = some o -> H b = none -> h'.get? b = some o)
    (slot : ∀ b o, b ≠ X.env.locals -> b ∈ X.fs -> b ∉ ch -> s.heap.get? b = some o -> H b = none -> ∃ sl, h'.get? b = some { o with slots := sl }) (free : ∀ b o, b ∉ ch -> s.heap.get? b = some o -> H b = none -> H' b = none)
    (there : ∀ b o, b ∉ ch -> s.heap.get? b = some o -> ∃ o', h'.get? b = some o')
    (tups : ∀ b xs, H b = some (.tup xs) -> H' b = some (.tup xs)) (frzs : ∀ b o u, H b = some (.frz o u) -> H' b = some (.frz o u)) (tbls : ∀ b ps, H b = some (.tbl ps) -> ∃ more, H' b = some (.tbl (ps ++ more)))
    (ns : ∀ m, s.heap.Ns X.env.locals m -> h'.Ns X.env.locals m) (hok : HOk X.prog X.w H' h') (hg : AllBare g') :
    Inv X pins σ H' { s with heap := h', gens := g', drawn := d', toks := t' } := by
  have neL : ∀ b o, X.s₀.heap.get? b = some o -> b ≠ X.env.locals := fun b o e => Zs (Zh (Heap.lt_size e) I.ok.above)
  have neC : ∀ b o, X.s₀.heap.get? b = some o -> b ∉ X.ex -> b ∉ ch := fun b o e hx hb => by
    rcases (hch b hb).1 with z | z
    . exact hx z
    . exact absurd (Zh (Heap.lt_size e) z) (ZH _)
  have cellK : ∀ x c, X.env.cells.lookup x = some c -> ∀ v, s.heap.IsCell c v -> h'.IsCell c v := fun x c e v ⟨o, ho, hd⟩ => by
    have nch : c ∉ ch := fun z => (hch c z).2.2.1 x c e rfl
    by_cases hc : c ∈ X.fs
    . obtain ⟨sl, q⟩ := slot c o (I.cne x c e) hc nch ho (I.freeC x c e)
      exact ⟨_, q, hd⟩
    . exact ⟨o, keep c o (I.cne x c e) hc nch ho (I.freeC x c e), hd⟩
  refine ⟨I.ok, I.os, hg, ⟨fun b o e n hb hx => ?_, fun b o e n hb hx => ?_, fun b o e n hx => ?_, fun b o e hx => ?_, fun b xs e => tups b xs (I.base.tups b xs e), fun b o xs e => frzs b o xs (I.base.frzs b o xs e), fun b ps e => ?_⟩, ?_, fun x c e => ?_, ?_, fun x c e => ?_, fun p hp => ?_, hok, I.len⟩
  . exact keep b o (neL b o e) hb (neC b o e hx) (I.base.keep b o e n hb hx) (I.base.free b o e n hx)
  . obtain ⟨sl, e1⟩ := I.base.slot b o e n hb hx
    obtain ⟨sl', e2⟩ := slot b _ (neL b o e) hb (neC b o e hx) e1 (I.base.free b o e n hx);exact ⟨sl', e2⟩
  . obtain ⟨o', e1⟩ := I.base.there b o e hx
    exact free b o' (neC b o e hx) e1 (I.base.free b o e n hx)
  . obtain ⟨o', e1⟩ := I.base.there b o e hx
    exact there b o' (neC b o e hx) e1
  . obtain ⟨m1, e1⟩ := I.base.tbls b ps e
    obtain ⟨m2, e2⟩ := tbls b _ e1;exact ⟨m1 ++ m2, by rw [e2, Array.append_assoc]⟩
  . obtain ⟨m, hn, hl⟩ := I.loc
    refine ⟨m, ns m hn, fun i x v e1 e2 e3 => ?_⟩;obtain ⟨u, r, l⟩ := hl i x v e1 e2 e3;refine ⟨u, r, ?_⟩
    rcases l with l | ⟨k, c, e, z⟩
    . exact .inl l
    . exact .inr ⟨k, c, e, cellK x c e _ z⟩
  . obtain ⟨v, z⟩ := I.cell x c e
    exact ⟨v, cellK x c e v z⟩
  . obtain ⟨m, ⟨o, _, _, ho, _⟩, _⟩ := I.loc
    exact free _ o (fun z => (hch _ z).2.1 rfl) ho I.free
  . obtain ⟨v, o, ho, hd⟩ := I.cell x c e
    exact free c o (fun z => (hch c z).2.2.1 x c e rfl) ho (I.freeC x c e)
  . obtain ⟨e, n, ne, nf, d⟩ := I.pin p hp
    have nch : p.1 ∉ ch := fun z => (hch p.1 z).2.2.2 p hp rfl
    exact ⟨keep p.1 p.2 ne nf nch e n, free p.1 p.2 nch e n, ne, nf, d⟩
theorem Inv.un {t' : Nat} (I : Inv X pins σ H s) (u : Un X.fs [] H H' s.heap h') (hok : HOk X.prog X.w H' h') : Inv X pins σ H' { s with heap := h', toks := t' } := by
  obtain ⟨m, ⟨o, es, ep, ho, r⟩, _⟩ := id I.loc;obtain ⟨sl, hL⟩ := u.any ho I.free (by simp)
  exact I.step (g' := s.gens) (d' := s.drawn) (ch := []) (fun _ z => nomatch z) (fun b o _ hb _ e n => u.keep b o e n hb (by simp)) (fun b o _ hb _ e n => u.slot b o e n hb (by simp)) (fun b o _ e n => u.free b o e n (by simp)) (fun b o _ e => u.there b o e (by simp)) u.tups u.frzs u.tbls (fun m' hm => by
    obtain ⟨o', es', ep', ho', r'⟩ := hm;rw [ho] at ho'; cases ho'
    exact ⟨_, es', ep', hL, r'⟩) hok I.bare
theorem Inv.call {g' : Array GenState} {t' : Nat} {d' : Drawn} {ch : List Addr} (I : Inv X pins σ H s) (u : Un (frs X.stack) ch H H' s.heap h') (hok : HOk X.prog X.w H' h') (hg : AllBare g')
    (hch : ∀ b ∈ ch, (b ∈ X.ex \/ X.s₀.heap.objs.size <= b) /\ b ≠ X.env.locals /\ (∀ x c, X.env.cells.lookup x = some c -> c ≠ b) /\ ∀ p ∈ X.pn ++ pins, p.1 ≠ b) :
    Inv X pins σ H' { s with heap := h', gens := g', drawn := d', toks := t' } := by
  obtain ⟨m, ⟨o, es, ep, ho, r⟩, _⟩ := id I.loc;obtain ⟨sl, hL⟩ := u.any ho I.free fun z => (hch _ z).2.1 rfl
  exact I.step (ch := ch) hch (fun b o hL hb hc e n => u.keep b o e n (fun z => (ZJ.mp (I.stkSub b z)).elim hL hb) hc) (fun b o _ _ hc e n => u.any e n hc) (fun b o hc e n => u.free b o e n hc) (fun b o hc e => u.there b o e hc) u.tups u.frzs u.tbls (fun m' hm => by
    obtain ⟨o', es', ep', ho', r'⟩ := hm;rw [ho] at ho'; cases ho'
    exact ⟨_, es', ep', hL, r'⟩) hok hg
theorem Inv.turned {t' : Nat} {it : Addr} (I : Inv X pins σ H s) (k : ∀ b o, b ≠ it -> s.heap.get? b = some o -> h'.get? b = some o) (hn : H it = none) (hL : it ≠ X.env.locals)
    (h1 : it ∈ X.ex \/ X.s₀.heap.objs.size <= it) (h2 : ∀ x c, X.env.cells.lookup x = some c -> c ≠ it) (h3 : ∀ p ∈ X.pn ++ pins, p.1 ≠ it) : Inv X pins σ H { s with heap := h', toks := t' } := by
  have nit : ∀ b u, H b = some u -> b ≠ it := fun b u e z => by rw [z, hn] at e; cases e
  refine I.step (g' := s.gens) (d' := s.drawn) (ch := [it]) (fun b hb => ?_) (fun b o _ _ hc e _ => k b o (fun z => hc (by simp [z])) e) (fun b o _ _ hc e _ => ⟨o.slots, k b o (fun z => hc (by simp [z])) e⟩) (fun _ _ _ _ n => n)
    (fun b o hc e => ⟨o, k b o (fun z => hc (by simp [z])) e⟩) (fun _ _ e => e) (fun _ _ _ e => e) (fun b ps e => ⟨#[], by rw [e]; simp⟩) (fun m hm => ?_) (fun b u e => ?_) I.bare
  . have e : b = it := by simpa using hb
    subst e;exact ⟨h1, hL, h2, h3⟩
  . obtain ⟨o, es, ep, ho, r⟩ := hm
    exact ⟨o, es, ep, k _ o (Ne.symm hL) ho, r⟩
  . refine (I.hok b u e).stay (fun c v hc q => k c v ?_ q) (fun _ q => q) fun _ _ q => q
    rcases hc with z | z
    . rw [z]; exact nit b u e
    . exact nit c _ z
theorem Inv.tok (I : Inv X pins σ H s) (t : Nat) : Inv X pins σ H { s with toks := t } := I.un (h' := s.heap) (t' := t) Un.refl I.hok
theorem Inv.kept {t' : Nat} (I : Inv X pins σ H s) (k : ∀ b u, s.heap.get? b = some u -> h'.get? b = some u) : Inv X pins σ H { s with heap := h', toks := t' } := I.un (Un.kept k) (I.hok.kept k)
theorem Inv.laid {a : Addr} {o : HO} {t' : Nat} (I : Inv X pins σ H s) (k : ∀ b u, s.heap.get? b = some u -> h'.get? b = some u) (hp : s.heap.objs.size <= a) (new : ObjOk X.prog X.w (upd H a o) h' a o) :
    Inv X pins σ (upd H a o) { s with heap := h', toks := t' } := I.un (Un.laid k hp (I.hok.fresh hp)) (I.hok.laid k hp new)
theorem Inv.write {x e : Addr} {o : HO} {t' : Nat} (I : Inv X pins σ H s) (mu : Mut (H x)) (he : e = x \/ H e = some (.own x)) (k : ∀ b u, b ≠ e -> s.heap.get? b = some u -> h'.get? b = some u) (heo : ∃ u, h'.get? e = some u)
    (new : ObjOk X.prog X.w (upd H x o) h' x o) : Inv X pins σ (upd H x o) { s with heap := h', toks := t' } := I.un (Un.write mu he k heo) (I.hok.write mu he k heo new)
theorem Inv.weak {σ' : List (Option V)} (I : Inv X pins σ H s) (hl : σ'.length = σ.length) (w : ∀ (i : Nat) v, σ'[i]? = some (some v) -> σ[i]? = some (some v)) : Inv X pins σ' H s :=
  ⟨I.ok, I.os, I.bare, I.base, let ⟨m, hn, hl'⟩ := I.loc; ⟨m, hn, fun i x v e1 e2 e3 => hl' i x v e1 (w i v e2) e3⟩, I.cell, I.free, I.freeC, I.pin, I.hok, hl.trans I.len⟩
theorem Inv.pins_of {pins' : List (Addr × Obj)} (I : Inv X pins σ H s) (h : ∀ p ∈ pins', s.heap.get? p.1 = some p.2 /\ H p.1 = none /\ p.1 ≠ X.env.locals /\ p.1 ∉ X.fs /\ ∀ v, p.2.data ≠ .cell v) : Inv X pins' σ H s :=
  ⟨I.ok, I.os, I.bare, I.base, I.loc, I.cell, I.free, I.freeC, fun p hp => (ZF.mp hp).elim (fun z => I.pin p (Yg _ z)) (h p), I.hok, I.len⟩
theorem p0 {N : List Str} (hN : N.Nodup) {i j : Nat} {x : Str} (a : N[i]? = some x) (b : N[j]? = some x) : i = j := by
  obtain ⟨h1, e1⟩ := Zc.mp a;obtain ⟨h2, e2⟩ := Zc.mp b;exact (Yy hN).mp (e1.trans e2.symm)
theorem m5 {M : Model} {A : Around} {E : Value -> Shared -> Prop} {i : Nat} {x : Str} {v : V} {u : Value} {Q : Unit -> Shared -> Prop} (I : Inv X pins σ H s) (hN : X.N.Nodup) (hi : X.N[i]? = some x) (hx : Loc X.env.scope x) (r : RelV v u)
    (h : ∀ s', Inv X pins (σ.set i (some v)) H s' -> (∃ a, Heap.SameBut a s.heap s'.heap /\ (a = X.env.locals \/ X.env.cells.lookup x = some a)) -> Q () s') (hf : X.fn x = true \/ X.env.scope.names.lookup x = some .local := by first | exact .inl rfl | exact .inr rfl | assumption) : wpAny M A (storeName X.env x u) Q E s := by
  obtain ⟨m, hn, hl⟩ := id I.loc;have hcls : (X.env.scope.kind == .class || (X.env.scope.kind == .module && X.env.locals != X.env.globals)) = false := by rw [I.ok.kind]; rfl
  have hiσ : i < σ.length := by rw [I.len]; exact (Zc.mp hi).1
  have cne := I.cne
  have tracked : ∀ {a : Addr} {h' : Heap}, (∃ o, s.heap.get? a = some o /\ H a = none) -> Heap.SameBut a s.heap h' -> HOk X.prog X.w H h' := fun {a h'} ha hs b ob e => by
    obtain ⟨_, _, hfree⟩ := ha;refine (I.hok b ob e).stay (fun c w' hc q => (hs.2 c ?_).trans q) (fun _ q => q) fun _ _ q => q
    rintro rfl
    rcases hc with rfl | hc
    . rw [hfree] at e; cases e
    . rw [hfree] at hc; cases hc
  rcases hx with hk | hk
  . refine wpAny_storeName_local hk hn (fun h' hn' hs => ?_) hcls
    obtain ⟨oL, _, _, hoL, _⟩ := id hn;refine h _ ⟨I.ok, I.os, I.bare, ⟨fun b o e n hb hx => ?_, fun b o e n hb hx => ?_, I.base.free, fun b o e hx => ?_, I.base.tups, I.base.frzs, I.base.tbls⟩, ⟨_, hn', fun j y v' e1 e2 e3 => ?_⟩, fun y c e => ?_, I.free, I.freeC, fun p hp => ?_, tracked ⟨oL, hoL, I.free⟩ hs, by simpa using I.len⟩ ⟨_, hs, .inl rfl⟩
    . exact (hs.2 b (Zs (Zh (Heap.lt_size e) I.ok.above))).trans (I.base.keep b o e n hb hx)
    . obtain ⟨sl, e1⟩ := I.base.slot b o e n hb hx
      exact ⟨sl, (hs.2 b (Zs (Zh (Heap.lt_size e) I.ok.above))).trans e1⟩
    . obtain ⟨o', e1⟩ := I.base.there b o e hx
      exact ⟨o', (hs.2 b (Zs (Zh (Heap.lt_size e) I.ok.above))).trans e1⟩
    . by_cases hj : j = i
      . subst hj
        rw [hi] at e1; cases e1;rw [ZV hiσ] at e2;cases e2;exact ⟨u, r, .inl ⟨hk, by simp⟩⟩
      . rw [ZY (Ne.symm hj)] at e2
        obtain ⟨u', r', q⟩ := hl j y v' e1 e2 e3;refine ⟨u', r', ?_⟩
        rcases q with ⟨k, e⟩ | ⟨k, c, e, z⟩
        . refine .inl ⟨k, ?_⟩
          have : y ≠ x := fun e => hj (p0 hN e1 (e ▸ hi))
          simp [this, e]
        . exact .inr ⟨k, c, e, z.sameBut hs (cne y c e)⟩
    . obtain ⟨w', z⟩ := I.cell y c e
      exact ⟨w', z.sameBut hs (cne y c e)⟩
    . obtain ⟨e, n, ne, nf, d⟩ := I.pin p hp
      exact ⟨(hs.2 p.1 ne).trans e, n, ne, nf, d⟩
  . have hfn : X.fn x = true := by
      rcases hf with z | z
      . exact z
      . rw [z] at hk; cases hk
    obtain ⟨c, hc⟩ := I.ok.has x (.inl hk);obtain ⟨w', z⟩ := I.cell x c hc;refine wpAny_storeName_cell I.ok.kind hk hc z (fun h' hc' hs => ?_);obtain ⟨oc, hoc, hocd⟩ := id z;refine h { s with heap := h' } ⟨I.ok, I.os, I.bare, ⟨fun b o e n hb hx => ?_, fun b o e n hb hx => ?_, I.base.free, fun b o e hx => ?_, I.base.tups, I.base.frzs, I.base.tbls⟩, ⟨m, hn.sameBut hs (Ne.symm (cne x c hc)), fun j y v' e1 e2 e3 => ?_⟩, fun y c' e => ?_, I.free, I.freeC, fun p hp => ?_, tracked ⟨oc, hoc, I.freeC x c hc⟩ hs, by simpa using I.len⟩ ⟨c, hs, .inr hc⟩
    . exact (hs.2 b (Zs (Zh (Heap.lt_size e) (I.ok.cab x c hfn hc)))).trans (I.base.keep b o e n hb hx)
    . obtain ⟨sl, e1⟩ := I.base.slot b o e n hb hx
      exact ⟨sl, (hs.2 b (Zs (Zh (Heap.lt_size e) (I.ok.cab x c hfn hc)))).trans e1⟩
    . obtain ⟨o', e1⟩ := I.base.there b o e hx
      exact ⟨o', (hs.2 b (Zs (Zh (Heap.lt_size e) (I.ok.cab x c hfn hc)))).trans e1⟩
    . by_cases hj : j = i
      . subst hj
        rw [hi] at e1; cases e1;rw [ZV hiσ] at e2;cases e2;exact ⟨u, r, .inr ⟨.inl hk, c, hc, hc'⟩⟩
      . rw [ZY (Ne.symm hj)] at e2
        obtain ⟨u', r', q⟩ := hl j y v' e1 e2 e3;refine ⟨u', r', ?_⟩
        rcases q with q | ⟨k, c', e, z'⟩
        . exact .inl q
        . refine .inr ⟨k, c', e, z'.sameBut hs ?_⟩
          rintro rfl
          exact hj (p0 hN e1 (I.ok.inj _ _ _ e hc ▸ hi))
    . by_cases hcc : c' = c
      . subst hcc; exact ⟨_, hc'⟩
      . obtain ⟨w2, z2⟩ := I.cell y c' e
        exact ⟨w2, z2.sameBut hs hcc⟩
    . obtain ⟨e, n, ne, nf, d⟩ := I.pin p hp
      refine ⟨(hs.2 p.1 ?_).trans e, n, ne, nf, d⟩;intro q;rw [q, hoc] at e;have q' : oc = p.2 := Option.some.inj e;exact d w' (by rw [<- q']; exact hocd)
theorem rk {M : Model} {A : Around} {E : Value -> Shared -> Prop} {i : Nat} {x : Str} {v : V} {u : Value} {Q : Unit -> Shared -> Prop} (I : Inv X pins σ H s) (hN : X.N.Nodup) (hi : X.N[i]? = some x) (hx : Loc X.env.scope x) (r : RelV v u)
    (h : ∀ s', Inv X pins (σ.set i (some v)) H s' -> Q () s') (hf : X.fn x = true \/ X.env.scope.names.lookup x = some .local := by first | exact .inl rfl | exact .inr rfl | assumption) : wpAny M A (storeName X.env x u) Q E s :=
  m5 I hN hi hx r (fun s' I' _ => h s' I') hf
theorem Inv.call' {s' : Shared} {ch : List Addr} (I : Inv X pins σ H s) (ho : s'.os = s.os) (u : Un (frs X.stack) ch H H' s.heap s'.heap) (hok : HOk X.prog X.w H' s'.heap) (hg : AllBare s'.gens)
    (hch : ∀ b ∈ ch, (b ∈ X.ex \/ X.s₀.heap.objs.size <= b) /\ b ≠ X.env.locals /\ (∀ x c, X.env.cells.lookup x = some c -> c ≠ b) /\ ∀ p ∈ X.pn ++ pins, p.1 ≠ b) : Inv X pins σ H' s' := by
  obtain ⟨h', g', d', t', o'⟩ := s';have e : o' = s.os := ho;subst e;exact I.call (g' := g') (t' := t') (d' := d') u hok hg hch
end
abbrev XK := Value -> Option Addr -> Hp -> Prop
abbrev St := List (Option V)
abbrev VK := V -> Hp -> Prop
abbrev TE := St -> Hp -> VK -> Prop
abbrev TT := St -> Hp -> (Bool -> Hp -> Prop) -> Prop
abbrev TA := St -> Hp -> (List V -> Hp -> Prop) -> Prop
structure Ends where
  nx : St -> Hp -> Prop
  rt : VK
  bk : St -> Hp -> Prop := fun _ _ => False
  ct : St -> Hp -> Prop := fun _ _ => False
abbrev TS := Ends -> St -> Hp -> Prop
def EP (X : Cx) (pins : List (Addr × Obj)) (σ : St) (Q : VK) (u : Value) (s' : Shared) : Prop := ∃ v H', Inv X pins σ H' s' /\ RelV v u /\ Q v H'
def TP (X : Cx) (pins : List (Addr × Obj)) (σ : St) (Q : Bool -> Hp -> Prop) (b : Bool) (s' : Shared) : Prop := ∃ H', Inv X pins σ H' s' /\ Q b H'
def AP (X : Cx) (pins : List (Addr × Obj)) (σ : St) (Q : List V -> Hp -> Prop) (us : List Value) (s' : Shared) : Prop := ∃ vs H', Inv X pins σ H' s' /\ Vals vs us /\ Q vs H'
def SP (X : Cx) (pins : List (Addr × Obj)) (D : Ends) (f : Flow) (s' : Shared) : Prop :=
  match f with
  | .next => ∃ σ' H', Inv X pins σ' H' s' /\ D.nx σ' H'
  | .brk => ∃ σ' H', Inv X pins σ' H' s' /\ D.bk σ' H'
  | .cont => ∃ σ' H', Inv X pins σ' H' s' /\ D.ct σ' H'
  | .ret u => ∃ v σ' H', Inv X pins σ' H' s' /\ RelV v u /\ D.rt v H'
def PE (X : Cx) (e : Expr) (t : TE) : Prop :=
  ∀ (pins : List (Addr × Obj)) (s : Shared) (σ : St) (H : Hp) (Q : VK), Inv X pins σ H s -> t σ H Q -> wpAny (model X.prog X.w) X.A (eval e X.env) (EP X pins σ Q) X.xe s
def PT (X : Cx) (e : Expr) (t : TT) : Prop :=
  ∀ (pins : List (Addr × Obj)) (s : Shared) (σ : St) (H : Hp) (Q : Bool -> Hp -> Prop), Inv X pins σ H s -> t σ H Q -> wpAny (model X.prog X.w) X.A (isTrue e X.env (eval e X.env)) (TP X pins σ Q) X.xe s
def PW (X : Cx) (e : Expr) (t : TT) : Prop :=
  ∀ (whole : Sem Value) (pins : List (Addr × Obj)) (s : Shared) (σ : St) (H : Hp) (Q : Bool -> Hp -> Prop), Inv X pins σ H s -> t σ H Q -> wpAny (model X.prog X.w) X.A (isTrue e X.env whole) (TP X pins σ Q) X.xe s
theorem PW.pt {X : Cx} {e : Expr} {t : TT} (h : PW X e t) : PT X e t := h _
def PA (X : Cx) (es : List Expr) (t : TA) : Prop :=
  ∀ (pos : Pos) (pins : List (Addr × Obj)) (s : Shared) (σ : St) (H : Hp) (Q : List V -> Hp -> Prop), Inv X pins σ H s -> t σ H Q -> wpAny (model X.prog X.w) X.A (spliced (backTo pos (starEach es X.env))) (AP X pins σ Q) X.xe s
def PS (X : Cx) (st : Stmt) (t : TS) : Prop :=
  ∀ (pins : List (Addr × Obj)) (s : Shared) (σ : St) (H : Hp) (D : Ends), Inv X pins σ H s -> t D σ H -> wpAny (model X.prog X.w) X.A (exec st X.env) (SP X pins D) X.xe s
def PSs (X : Cx) (st : List Stmt) (t : TS) : Prop :=
  ∀ (pins : List (Addr × Obj)) (s : Shared) (σ : St) (H : Hp) (D : Ends), Inv X pins σ H s -> t D σ H -> wpAny (model X.prog X.w) X.A (execs st X.env) (SP X pins D) X.xe s
theorem thn {α : Type} {t : Sem α} {Q Q' : α -> Shared -> Prop} {M : Model} {A : Around} {E : Value -> Shared -> Prop} {s : Shared} (h : wpAny M A t Q E s) (hQ : ∀ a s, Q a s -> Q' a s) : wpAny M A t Q' E s := wpAny_mono h hQ fun _ _ x => x
end L2
namespace L2
open PySem PySem.Spec PyProof.Rows
section
variable {X : Cx}
def tVar (i : Nat) : TE := fun σ H Q => ∃ v, σ[i]? = some (some v) /\ Q v H
def tC (v : V) : TE := fun _ H Q => Q v H
theorem pe_var {i : Nat} {x : Str} {pos : Pos} (hN : X.N[i]? = some x) (hv : Vis X.env.scope x) (hd : (x == ("__debug__" : Str)) = false := by decide) (hcd : (x == ("__classdict__" : Str)) = false := by decide) : PE X (.Name x pos) (tVar i) := by
  intro pins s σ H Q I h;obtain ⟨v, e, h⟩ := h;obtain ⟨m, hn, hl⟩ := I.loc;obtain ⟨u, r, l⟩ := hl i x v hN e hv;have fin : EP X pins σ Q u s := ⟨v, H, I, r, h⟩
  rcases l with ⟨hk, hm⟩ | ⟨hk, c, hc, hcell⟩
  . exact wpAny_Name (wpAny_loadName_local I.ok.kind hk hn hm fin) hd
  . rcases hk with hk | hk
    . exact wpAny_Name (wpAny_loadName_cell I.ok.kind hk hc hcell fin) hd
    . exact wpAny_Name (wpAny_loadName_free I.ok.kind hk hc hcell fin hcd) hd
theorem zb {i j pos} : PE X (.Constant (.int i) j pos) (tC (.int i)) := fun _ _ _ H _ I h => wpAny_Constant_int ⟨.int i, H, I.tok _, ⟨_, rfl⟩, h⟩
theorem xm {b j pos} : PE X (.Constant (.bool b) j pos) (tC (.bl b)) := fun _ _ _ H _ I h => Constant_bool ⟨.bl b, H, I, rfl, h⟩
theorem vk {j pos} : PE X (.Constant .none j pos) (tC .non) := fun _ _ _ H _ I h => Constant_none ⟨.non, H, I, rfl, h⟩
theorem yh {x j pos} : PE X (.Constant (.str x) j pos) (tC (.str x)) := fun _ _ _ H _ I h => Calls.Constant_str ⟨.str x, H, I.tok _, ⟨_, rfl⟩, h⟩
def Gl (X : Cx) (x : Str) : Prop := X.env.kindOf x = some .globalImplicit
theorem rc {E : Value -> Shared -> Prop} {pins : List (Addr × Obj)} {s : Shared} {σ : St} {H : Hp} {x : Str} {u : Value} {pos : Pos} {Q : Value -> Shared -> Prop} (I : Inv X pins σ H s) (hg : Gl X x) (hm : X.mg x = some u) (h : Q u s)
    (hd : (x == ("__debug__" : Str)) = false := by decide) : wpAny (model X.prog X.w) X.A (eval (.Name x pos) X.env) Q E s :=
  Calls.Name_function_global I.ok.kind hg (Calls.loadGlobal_global (by rw [I.ok.glob]; exact I.mod.glob.keeps I.bk) hm h) hd
theorem rf {E : Value -> Shared -> Prop} {pins : List (Addr × Obj)} {s : Shared} {σ : St} {H : Hp} {x : Str} {u : Value} {pos : Pos} {Q : Value -> Shared -> Prop} (I : Inv X pins σ H s) (hg : Gl X x) (hm : X.mg x = none) (hv : bootBuiltins x = some u) (h : Q u s)
    (hn : x ≠ "__name__" := by decide) (hd : (x == ("__debug__" : Str)) = false := by decide) : wpAny (model X.prog X.w) X.A (eval (.Name x pos) X.env) Q E s := by
  obtain ⟨mb, h1, h2⟩ := I.mod.blt;exact Calls.Name_function_global I.ok.kind hg (Calls.loadGlobal_builtin (by rw [I.ok.glob]; exact I.mod.glob.keeps I.bk) hm (by rw [I.ok.blt]; exact h1.keeps I.bk) ((h2 x hn).trans hv) h) hd
theorem wx {x : Str} {v : V} {u : Value} {pos : Pos} (hg : Gl X x) (hm : X.mg x = some u) (r : RelV v u) (hd : (x == ("__debug__" : Str)) = false := by decide) : PE X (.Name x pos) (tC v) :=
  fun _ _ _ H _ I h => rc I hg hm ⟨v, H, I, r, h⟩ hd
theorem bo {x : Str} {v : V} {u : Value} {pos : Pos} (hg : Gl X x) (hm : X.mg x = none) (hv : bootBuiltins x = some u) (r : RelV v u) (hn : x ≠ "__name__" := by decide) (hd : (x == ("__debug__" : Str)) = false := by decide) : PE X (.Name x pos) (tC v) :=
  fun _ _ _ H _ I h => rf I hg hm hv ⟨v, H, I, r, h⟩ hn hd
variable {a b : Expr} {ta tb : TE} {pos : Pos}
def tB (t : TE) : TT := fun σ H Q => t σ H fun x H1 => ∃ c, x = .bl c /\ Q c H1
theorem xc {e : Expr} {t : TE} (h : PE X e t) (he : ∀ whole, isTrue e X.env whole = (do let v <- whole; standAt e.pos; holding [v] (truthy v)) := by intro _; rfl) : PT X e (tB t) := by
  intro pins s σ H Q I hw;refine isTrue_plain (thn (h pins s σ H _ I hw) fun v s1 ⟨x, H1, I1, r1, q1⟩ => ?_) (he _);obtain ⟨d, rfl, q⟩ := q1;cases r1;exact wpAny_truthy_bool ⟨H1, I1, q⟩
variable {tA tB' : TT} {rest : List Expr}
def tAnd (t u : TT) : TT := fun σ H Q => t σ H fun c H1 => if c = true then u σ H1 Q else Q false H1
def tOr (t u : TT) : TT := fun σ H Q => t σ H fun c H1 => if c = true then Q true H1 else u σ H1 Q
def tNot (t : TT) : TT := fun σ H Q => t σ H fun c H1 => Q (!c) H1
theorem wq (ha : PT X a tA) : PW X (.BoolOp .Or [a] pos) tA := by
  intro wh pins s σ H Q I h;refine isTrue_or (thn (ha pins s σ H Q I h) fun c s1 e => ?_)
  cases c with
  | false => exact isTrue_or_nil e
  | true => exact e
theorem vq (ha : PT X a tA) (hb : PW X (.BoolOp .Or (b :: rest) pos) tB') : PW X (.BoolOp .Or (a :: b :: rest) pos) (tOr tA tB') := by
  intro wh pins s σ H Q I h;refine isTrue_or (thn (ha pins s σ H _ I h) fun c s1 ⟨H1, I1, q1⟩ => ?_)
  cases c with
  | true => exact ⟨H1, I1, q1⟩
  | false => exact hb wh pins s1 σ H1 Q I1 q1
theorem y6 (ha : PT X a tA) : PT X (.UnaryOp .Not a pos) (tNot tA) := by
  intro pins s σ H Q I h;exact isTrue_not (ha pins s σ H (fun c H1 => Q (!c) H1) I h)
def tAndV (ta tb : TE) : TE := fun σ H Q => ta σ H fun x H1 => ∃ c, x = .bl c /\ if c = true then tb σ H1 Q else Q (.bl false) H1
def tOrV (ta tb : TE) : TE := fun σ H Q => ta σ H fun x H1 => ∃ c, x = .bl c /\ if c = true then Q (.bl true) H1 else tb σ H1 Q
def tNotV (ta : TE) : TE := fun σ H Q => ta σ H fun x H1 => ∃ c, x = .bl c /\ Q (.bl (!c)) H1
theorem vd {op} {t : TE} (h : PE X a t) : PE X (.BoolOp op [a] pos) t := fun pins s σ H Q I hw => BoolOp_one (h pins s σ H Q I hw)
theorem wb (ha : PE X a ta) (hb : PE X (.BoolOp .And (b :: rest) pos) tb) : PE X (.BoolOp .And (a :: b :: rest) pos) (tAndV ta tb) := by
  intro pins s σ H Q I h;refine BoolOp_and (thn (ha pins s σ H _ I h) fun v s1 ⟨x, H1, I1, r1, q1⟩ => ?_);obtain ⟨c, rfl, q1⟩ := q1;cases r1;refine wpAny_truthy_bool ?_
  cases c with
  | true => exact hb pins s1 σ H1 Q I1 q1
  | false => exact ⟨.bl false, H1, I1, rfl, q1⟩
theorem e7 (ha : PE X a ta) : PE X (.UnaryOp .Not a pos) (tNotV ta) := by
  intro pins s σ H Q I h;refine UnaryOp_ (thn (ha pins s σ H _ I h) fun v s1 ⟨x, H1, I1, r1, q1⟩ => ?_);obtain ⟨c, rfl, q1⟩ := q1;cases r1;exact not_of (wpAny_truthy_bool ⟨.bl (!c), H1, I1, rfl, q1⟩)
def tIf (t : TT) (ta tb : TE) : TE := fun σ H Q => t σ H fun c H1 => if c = true then ta σ H1 Q else tb σ H1 Q
end
end L2
namespace L2
open PySem PySem.Spec PyProof.Rows
def SqL (K : Fg) (H : Hp) (a : Addr) (xs : List V) : Prop :=
  Rd H a (.lst xs) \/
    ∃ (o : Obj) (its : Array Value) (n : Nat), K.lookup a = some o /\ o.cls = .type "list" /\ o.dict = none /\ o.data = .seq its n /\ its.size <= sizeLine /\ Vals xs its.toList
def SqT (K : Fg) (H : Hp) (a : Addr) (xs : List V) : Prop :=
  Rd H a (.tup xs) \/
    ∃ (o : Obj) (its : Array Value) (n : Nat), K.lookup a = some o /\ o.cls = .type "tuple" /\ o.data = .seq its n /\ its.size <= sizeLine /\ Vals xs its.toList
def absV : Value -> Option V
  | .none => some .non
  | .bool b => some (.bl b)
  | .int i _ => some (.int i)
  | .str x _ => some (.str x)
  | .bytes b _ => some (.byt b)
  | .float b _ => some (.flt b)
  | .ref a => some (.ref a)
  | .type n => some (.ty n)
  | _ => none
theorem RelV.abs {x : V} {u : Value} (r : RelV x u) : absV u = some x := by
  cases x with
  | non => cases r; rfl
  | bl _ => cases r; rfl
  | int _ => obtain ⟨t, rfl⟩ := r; rfl
  | str _ => obtain ⟨t, rfl⟩ := r; rfl
  | byt _ => obtain ⟨t, rfl⟩ := r; rfl
  | flt _ => obtain ⟨t, rfl⟩ := r; rfl
  | ref _ => cases r; rfl
  | ty _ => cases r; rfl
theorem RelV.inj {x y : V} {u : Value} (r : RelV x u) (q : RelV y u) : x = y := Option.some.inj (r.abs.symm.trans q.abs)
theorem Vals.inj : ∀ {xs ys : List V} {us : List Value}, Vals xs us -> Vals ys us -> xs = ys
  | _, _, _, .nil, .nil => rfl
  | _, _, _, .cons r t, .cons r' t' => by rw [r.inj r', Vals.inj t t']
section
variable {X : Cx} {pins : List (Addr × Obj)} {σ : St} {H : Hp} {s : Shared} {a : Addr} {xs ys : List V}
theorem SqL.of {K : Fg} (h : H a = some (.lst xs)) : SqL K H a xs := .inl (.inl h)
theorem SqT.of {K : Fg} (h : H a = some (.tup xs)) : SqT K H a xs := .inl (.inl h)
theorem Inv.list (I : Inv X pins σ H s) (h : SqL X.K H a xs) : ∃ its : List Value, Vals xs its /\ PlainL s.heap a its.toArray /\ xs.length <= sizeLine := by
  rcases h with h | ⟨o, its, n, hk, hc, hd, hs, hz, r⟩
  . obtain ⟨z, its, n, r, e⟩ := h.ok I.hok
    exact ⟨its, r, ⟨_, n, e, rfl, rfl, rfl⟩, z⟩
  . refine ⟨its.toList, r, ⟨o, n, I.kIn a o hk, hc, hd, by simpa using hs⟩, ?_⟩
    have e := r.length;simp only [Yu] at e;omega
theorem Inv.tuple (I : Inv X pins σ H s) (h : SqT X.K H a xs) : ∃ its : List Value, Vals xs its /\ IsTup s.heap a its.toArray /\ xs.length <= sizeLine := by
  rcases h with h | ⟨o, its, n, hk, hc, hs, hz, r⟩
  . obtain ⟨z, its, r, p⟩ := h.ok I.hok
    exact ⟨its, r, p.tup, z⟩
  . refine ⟨its.toList, r, ⟨o, I.kIn a o hk, hc, n, by simpa using hs⟩, ?_⟩
    have e := r.length;simp only [Yu] at e;omega
theorem Inv.list_inj (I : Inv X pins σ H s) (h : SqL X.K H a xs) (h' : SqL X.K H a ys) : xs = ys := by
  obtain ⟨its, r, ⟨o, n, e, _, _, d⟩, _⟩ := I.list h;obtain ⟨its', r', ⟨o', n', e', _, _, d'⟩, _⟩ := I.list h';rw [e] at e'; cases e';rw [d] at d'
  injection d' with d1 _
  have : its = its' := by simpa using congrArg Array.toList d1
  subst this;exact r.inj r'
theorem Inv.tuple_inj (I : Inv X pins σ H s) (h : SqT X.K H a xs) (h' : SqT X.K H a ys) : xs = ys := by
  obtain ⟨its, r, ⟨o, e, _, n, d⟩, _⟩ := I.tuple h;obtain ⟨its', r', ⟨o', e', _, n', d'⟩, _⟩ := I.tuple h';rw [e] at e'; cases e';rw [d] at d'
  injection d' with d1 _
  have : its = its' := by simpa using congrArg Array.toList d1
  subst this;exact r.inj r'
end
abbrev Cx.wish (X : Cx) (E : Value -> Shared -> Prop) : Cx := { X with xe := E }
abbrev Cx.nox (X : Cx) : Cx := X.wish fun _ _ => False
theorem Cx.Ok.wish {X : Cx} (ok : X.Ok) (E : Value -> Shared -> Prop) : (X.wish E).Ok :=
  ⟨ok.mod, ok.kind, ok.glob, ok.blt, ok.above, ok.inj, ok.has, ok.cab, ok.hd, ok.frames, ok.stk, ok.exf, ok.bs, ok.bsz, ok.noex, ok.exfs, ok.funs, ok.frf⟩
theorem Cx.Ok.unwish {X : Cx} {E : Value -> Shared -> Prop} (ok : (X.wish E).Ok) : X.Ok :=
  ⟨ok.mod, ok.kind, ok.glob, ok.blt, ok.above, ok.inj, ok.has, ok.cab, ok.hd, ok.frames, ok.stk, ok.exf, ok.bs, ok.bsz, ok.noex, ok.exfs, ok.funs, ok.frf⟩
section
variable {X : Cx} {pins : List (Addr × Obj)} {σ : St} {H : Hp} {s : Shared} {E : Value -> Shared -> Prop}
theorem Inv.wish (I : Inv X pins σ H s) (E : Value -> Shared -> Prop) : Inv (X.wish E) pins σ H s := ⟨I.ok.wish E, I.os, I.bare, I.base, I.loc, I.cell, I.free, I.freeC, I.pin, I.hok, I.len⟩
theorem Inv.unwish (I : Inv (X.wish E) pins σ H s) : Inv X pins σ H s := ⟨I.ok.unwish, I.os, I.bare, I.base, I.loc, I.cell, I.free, I.freeC, I.pin, I.hok, I.len⟩
theorem SP.unwish {D : Ends} {f : Flow} {s' : Shared} (h : SP (X.wish E) pins D f s') : SP X pins D f s' := by
  cases f with
  | next => obtain ⟨σ', H', I, q⟩ := h; exact ⟨σ', H', I.unwish, q⟩
  | brk => obtain ⟨σ', H', I, q⟩ := h; exact ⟨σ', H', I.unwish, q⟩
  | cont => obtain ⟨σ', H', I, q⟩ := h; exact ⟨σ', H', I.unwish, q⟩
  | ret u => obtain ⟨v, σ', H', I, r, q⟩ := h; exact ⟨v, σ', H', I.unwish, r, q⟩
theorem PE.nox {e : Expr} {t : TE} (h : PE X.nox e t) : PE X e t := fun pins s σ H Q I hw =>
  wpAny_mono (h pins s σ H Q (I.wish _) hw) (fun _ _ ⟨v, H', I', r, q⟩ => ⟨v, H', I'.unwish, r, q⟩) fun _ _ z => False.elim z
theorem PT.nox {e : Expr} {t : TT} (h : PT X.nox e t) : PT X e t := fun pins s σ H Q I hw =>
  wpAny_mono (h pins s σ H Q (I.wish _) hw) (fun _ _ ⟨H', I', q⟩ => ⟨H', I'.unwish, q⟩) fun _ _ z => False.elim z
theorem PSs.nox {st : List Stmt} {t : TS} (h : PSs X.nox st t) : PSs X st t := fun pins s σ H D I hw =>
  wpAny_mono (h pins s σ H D (I.wish _) hw) (fun _ _ q => q.unwish) fun _ _ z => False.elim z
end
section
variable {X : Cx} {st : Stmt} {rest : List Stmt} {t u : TS} {e : Expr} {te : TE} {pos : Pos}
def tNext : TS := fun D σ H => D.nx σ H
def tSeq (t u : TS) : TS := fun D σ H => t { D with nx := u D } σ H
theorem z5 : PSs X [] tNext := fun _ _ σ H _ I h => wpAny_execs_nil ⟨σ, H, I, h⟩
theorem zu (h1 : PS X st t) (h2 : PSs X rest u) : PSs X (st :: rest) (tSeq t u) := by
  intro pins s σ H D I h;refine wpAny_execs_cons (thn (h1 pins s σ H { D with nx := u D } I h) fun f s1 q => ?_)
  cases f with
  | next =>
    obtain ⟨σ', H', I', q⟩ := q;exact h2 pins s1 σ' H' D I' q
  | ret v => exact q
  | brk => exact q
  | cont => exact q
theorem zk (h1 : PS X st t) : PSs X [st] t := by
  intro pins s σ H D I h;refine wpAny_execs_cons (thn (h1 pins s σ H D I h) fun f s1 q => ?_)
  cases f with
  | next => exact wpAny_execs_nil q
  | ret v => exact q
  | brk => exact q
  | cont => exact q
def tBreak : TS := fun D σ H => D.bk σ H
def tCont : TS := fun D σ H => D.ct σ H
theorem Inv.quiet {pins : List (Addr × Obj)} {σ : St} {H : Hp} {s : Shared} (I : Inv X pins σ H s) : interactive X.env = false := by simp [interactive, I.ok.kind]
def tDrop (te : TE) : TS := fun D σ H => te σ H fun _ H1 => D.nx σ H1
theorem qv (he : PE X e te) (hs : swapsWith e none pos.line X.env = pure false := by rfl) : PS X (.Expr e pos) (tDrop te) := by
  intro pins s σ H D I h;exact wpAny_Expr_any (thn (he pins s σ H _ I h) fun v s1 ⟨x, H1, I1, r1, q1⟩ => ⟨σ, H1, I1, q1⟩) I.quiet hs
def tRet (te : TE) : TS := fun D σ H => te σ H D.rt
theorem zr (he : PE X e te) : PS X (.Return (some e) pos) (tRet te) := by
  intro pins s σ H D I h;exact wpAny_Return_some (thn (he pins s σ H _ I h) fun v s1 ⟨x, H1, I1, r1, q1⟩ => ⟨x, σ, H1, I1, r1, q1⟩)
def tRetN : TS := fun D _ H => D.rt .non H
def tIfS (c : TT) (t u : TS) : TS := fun D σ H => c σ H fun b H1 => if b = true then t D σ H1 else u D σ H1
theorem yf {c : Expr} {a b : List Stmt} {tc : TT} (hc : PT X c tc) (ha : PSs X a t) (hb : PSs X b u) : PS X (.If c a b pos) (tIfS tc t u) := by
  intro pins s σ H D I h;refine wpAny_If (thn (hc pins s σ H _ I h) fun d s1 ⟨H1, I1, q1⟩ => ?_)
  cases d with
  | true => exact ha pins s1 σ H1 D I1 q1
  | false => exact hb pins s1 σ H1 D I1 q1
end
abbrev TG := V -> St -> Hp -> (St -> Hp -> Prop) -> Prop
abbrev TGs := List V -> St -> Hp -> (St -> Hp -> Prop) -> Prop
def PG (X : Cx) (target : Expr) (t : TG) : Prop :=
  ∀ (pins : List (Addr × Obj)) (s : Shared) (σ : St) (H : Hp) (v : V) (u : Value) (Q : St -> Hp -> Prop), Inv X pins σ H s -> RelV v u -> t v σ H Q ->
    wpAny (model X.prog X.w) X.A (assign target X.env u) (fun _ s' => ∃ σ' H', Inv X pins σ' H' s' /\ Q σ' H') X.xe s
def PGs (X : Cx) (ts : List Expr) (t : TGs) : Prop :=
  ∀ (pins : List (Addr × Obj)) (s : Shared) (σ : St) (H : Hp) (vs : List V) (us : List Value) (Q : St -> Hp -> Prop), Inv X pins σ H s -> Vals vs us -> t vs σ H Q ->
    wpAny (model X.prog X.w) X.A (assignInOrder ((assignEach ts X.env).map (·.2)) us) (fun _ s' => ∃ σ' H', Inv X pins σ' H' s' /\ Q σ' H') X.xe s
abbrev TSet := V -> V -> V -> Hp -> (Hp -> Prop) -> Prop
abbrev TIp := V -> V -> Hp -> VK -> Prop
section
variable {X : Cx} {pos : Pos}
def gj (i : Nat) : TG := fun v σ H Q => Q (σ.set i (some v)) H
theorem z7 {i : Nat} {x : Str} (hN : X.N.Nodup) (hi : X.N[i]? = some x) (hx : Loc X.env.scope x) (hf : X.fn x = true \/ X.env.scope.names.lookup x = some .local := by first | exact .inl rfl | exact .inr rfl | assumption) : PG X (.Name x pos) (gj i) := by
  intro pins s σ H v u Q I r h;exact wpAny_assign_Name (rk I hN hi hx r (fun s' I' => ⟨_, H, I', h⟩) hf)
def gNil : TGs := fun vs σ H Q => vs = [] /\ Q σ H
def gCons (t : TG) (u : TGs) : TGs := fun vs σ H Q => ∃ v r, vs = v :: r /\ t v σ H fun σ' H' => u r σ' H' Q
theorem mn : PGs X [] gNil := by
  intro pins s σ H vs us Q I r h;obtain ⟨e, h⟩ := h;subst e;cases r;exact assignInOrder_nil ⟨σ, H, I, h⟩
theorem vz {e : Expr} {es : List Expr} {t : TG} {u : TGs} (h1 : PG X e t) (h2 : PGs X es u)
    (hs : (assignEach (e :: es) X.env).map (·.2) = assign e X.env :: (assignEach es X.env).map (·.2) := by rfl) : PGs X (e :: es) (gCons t u) := by
  intro pins s σ H vs us Q I r h;obtain ⟨v, vr, e1, h⟩ := h;subst e1
  cases r with
  | cons r rr =>
    rw [hs];refine assignInOrder_cons (thn (h1 pins s σ H _ _ _ I r h) fun _ s1 ⟨σ1, H1, I1, q1⟩ => ?_);exact h2 pins s1 σ1 H1 _ _ Q I1 rr q1
def gTup (K : Fg) (n : Nat) (t : TGs) : TG := fun v σ H Q => ∃ a xs, v = .ref a /\ SqT K H a xs /\ xs.length = n /\ t xs σ H Q
theorem jq {es : List Expr} {k : Nat} {t : TGs} {n : Nat} (hc : X.calm = true) (h : PGs X es t)
    (hn : (assignEach es X.env).length = n := by rfl) (hst : (assignEach es X.env).findIdx? (·.1) = none := by rfl) : PG X (.Tuple es k pos) (gTup X.K n t) := by
  intro pins s σ H v u Q I r hw;obtain ⟨a, xs, e1, hq, hl, hw⟩ := hw;subst e1;cases r;obtain ⟨its, rv, ht, hz⟩ := I.tuple hq;refine assign_Tuple_tuple (I.ok.hd hc) ht (by simp [hn, <- hl, rv.length]) hst fun h' hx => ?_
  have I1 : Inv X pins σ H { s with heap := h' } := I.kept (t' := s.toks) fun b o e => hx b o (Zs (Heap.lt_size e)) e
  exact h pins _ σ H xs _ Q I1 (by simpa using rv) hw
def gSub (to ti : TE) (t : TSet) : TG := fun v σ H Q => to σ H fun o H1 => ti σ H1 fun i H2 => t o i v H2 fun H3 => Q σ H3
def tAsg (te : TE) (g : TG) : TS := fun D σ H => te σ H fun x H1 => g x σ H1 D.nx
theorem ft {tg e : Expr} {te : TE} {g : TG} (he : PE X e te) (hg : PG X tg g) (hs : swapsWithSole [tg] e pos.line X.env = pure false := by rfl) (hw : swappedStores [tg] e X.env = pure none := by rfl)
    (h1 : (assignEach [tg] X.env).map (·.2) = [assign tg X.env] := by rfl) : PS X (.Assign [tg] e pos) (tAsg te g) := by
  intro pins s σ H D I h;refine wpAny_Assign_stores (thn (he pins s σ H _ I h) fun v s1 ⟨x, H1, I1, r1, q1⟩ => ?_) hs hw;rw [h1];exact thn (hg pins s1 σ H1 x v _ I1 r1 q1) fun _ s2 q => q
theorem zy {i : Nat} {x : Str} {e : Expr} {te : TE} {pos' : Pos} (hN : X.N.Nodup) (hi : X.N[i]? = some x) (hx : Loc X.env.scope x) (he : PE X e te) (hs : swapsWith e (some (.Name x pos')) pos.line X.env = pure false := by rfl) (hf : X.fn x = true \/ X.env.scope.names.lookup x = some .local := by first | exact .inl rfl | exact .inr rfl | assumption) :
    PS X (.Assign [.Name x pos'] e pos) (tAsg te (gj i)) := by
  intro pins s σ H D I h;refine wpAny_Assign_Name (thn (he pins s σ H _ I h) fun v s1 ⟨y, H1, I1, r1, q1⟩ => ?_) hs;exact rk I1 hN hi hx r1 (fun s2 I2 => ⟨_, H1, I2, q1⟩) hf
def tAugS (to ti te : TE) (tget : V -> V -> Hp -> VK -> Prop) (tip : TIp) (tset : TSet) : TS := fun D σ H => to σ H fun o H1 => ti σ H1 fun i H2 => tget o i H2 fun x H3 => te σ H3 fun y H4 => tip x y H4 fun z H5 => tset o i z H5 fun H6 => D.nx σ H6
def ipI (f : Int -> Int -> Int) : TIp := fun x y H Q => ∃ i j, x = .int i /\ y = .int j /\ Q (.int (f i j)) H
end
section
variable {X : Cx} {pos : Pos}
end
structure It where
  go : Nat -> Hp -> Prop
  yld : Nat -> Hp -> V -> Hp -> Prop
  stop : Nat -> Hp -> Prop
def FpOk (X : Cx) (pins : List (Addr × Obj)) (H : Hp) (b : Addr) : Prop :=
  H b = none /\ b ≠ X.env.locals /\ b ∉ X.fs /\ (b ∈ X.ex \/ X.s₀.heap.objs.size <= b) /\ (∀ x c, X.env.cells.lookup x = some c -> c ≠ b) /\ ∀ p ∈ X.pn ++ pins, p.1 ≠ b
theorem Inv.fpOk {X : Cx} {pins : List (Addr × Obj)} {σ : St} {H H' : Hp} {s : Shared} {b : Addr} (I : Inv X pins σ H s) (hb : s.heap.objs.size <= b) (hn : H' b = none) : FpOk X pins H' b := by
  refine ⟨hn, Yz (Zh I.lt hb), I.nofs hb, .inr (Zd I.sz hb), fun x c e z => ?_, fun p hp z => ?_⟩
  . obtain ⟨v, q⟩ := I.cell x c e
    exact absurd (Zh q.lt (by rw [z]; exact hb)) (ZH _)
  . exact absurd (Zh (Heap.lt_size (I.pin p hp).1) (by rw [z]; exact hb)) (ZH _)
structure Turn (P : Program) (w : World) (K : Fg) (tg : Expr) (J : It) (fp : List Addr) (it : Addr) (tn : Nat -> Heap -> Prop) : Prop where
  mem : it ∈ fp
  obj : ∀ i h, tn i h -> ∀ b ∈ fp, ∃ o, h.get? b = some o /\ ∀ v, o.data ≠ .cell v
  keep : ∀ i h h', tn i h -> (∀ b ∈ fp, ∀ o, h.get? b = some o -> h'.get? b = some o) -> tn i h'
  item : ∀ (X : Cx), X.prog = P -> X.w = w -> X.K = K -> X.calm = true -> ∀ (i : Nat) (pins : List (Addr × Obj)) (s : Shared) (σ : St) (H : Hp) (E : Value -> Shared -> Prop), Inv X pins σ H s -> (∀ b ∈ fp, FpOk X pins H b) -> tn i s.heap -> J.go i H ->
    wpAny (model P w) X.A (pyNext (.ref it)) (fun r s1 => ∃ u, r = some u /\
      wpAny (model P w) X.A (letOwnedTupleGo tg (.ref it) u) (fun _ s2 => ∃ x H', Inv X pins σ H' s2 /\ RelV x u /\ J.yld i H x H' /\ tn (i + 1) s2.heap /\ ∀ b ∈ fp, H' b = none) E s1) E s
  done : ∀ (X : Cx), X.prog = P -> X.w = w -> X.K = K -> X.calm = true -> ∀ (i : Nat) (pins : List (Addr × Obj)) (s : Shared) (σ : St) (H : Hp) (E : Value -> Shared -> Prop), Inv X pins σ H s -> (∀ b ∈ fp, FpOk X pins H b) -> tn i s.heap -> J.stop i H ->
    wpAny (model P w) X.A (pyNext (.ref it)) (fun r s1 => r = none /\ Inv X pins σ H s1) E s
  self : ∀ (A : Around) (i : Nat) (s : Shared) (Q : Value -> Shared -> Prop) (E : Value -> Shared -> Prop), tn i s.heap -> Q (.ref it) s -> wpAny (model P w) A (pyIter (.ref it)) Q E s
abbrev TI := St -> Hp -> (It -> Hp -> Prop) -> Prop
def PIE (X : Cx) (pins : List (Addr × Obj)) (σ : St) (tg : Expr) (R : It -> Hp -> Prop) (itv : Value) (s2 : Shared) : Prop :=
  ∃ (it : Addr) (fp : List Addr) (tn : Nat -> Heap -> Prop) (J : It) (H' : Hp), itv = .ref it /\ Inv X pins σ H' s2 /\ Turn X.prog X.w X.K tg J fp it tn /\ tn 0 s2.heap /\ (∀ b ∈ fp, FpOk X pins H' b) /\ R J H'
def PI (X : Cx) (tg iter : Expr) (wi : TI) : Prop :=
  ∀ (pins : List (Addr × Obj)) (s : Shared) (σ : St) (H : Hp) (R : It -> Hp -> Prop), Inv X pins σ H s -> wi σ H R ->
    wpAny (model X.prog X.w) X.A (eval iter X.env) (fun v s1 => wpAny (model X.prog X.w) X.A (pyIter v) (PIE X pins σ tg R) X.xe s1) X.xe s
theorem l7 {M : Model} {A : Around} {E : Value -> Shared -> Prop} {s : Shared} {tg : Expr} {it : Addr} {u : Value} {o : Obj} {n : String} {vs : Array Value} {Q : Unit -> Shared -> Prop} (ho : s.heap.get? it = some o) (hc : o.cls = .type n) (hd : o.data = .fields vs)
    (hn : ["enumerate", "zip", "dict_itemiterator", "dict_reverseitemiterator", "odict_iterator", "itertools.zip_longest", "itertools.pairwise"].contains n = false) (hQ : Q () s) : wpAny M A (letOwnedTupleGo tg (.ref it) u) Q E s := by
  unfold letOwnedTupleGo
  cases tg <;> first
    | exact wpAny_pure hQ
    | (cases u <;> first
        | exact wpAny_pure hQ
        | (refine wpAny_bind (wpAny_load ho ?_)
           rw [hc, hd]
           show wpAny M A (if (["enumerate", "zip", "dict_itemiterator", "dict_reverseitemiterator", "odict_iterator", "itertools.zip_longest", "itertools.pairwise"].contains n && vs[0]? == some (rawInt _)) = true then _ else _) Q E s
           rw [if_neg (by intro h; rw [hn, Bool.false_and] at h; cases h)]
           exact wpAny_pure hQ))
def Itl (K : Fg) (a : Addr) : It :=
  ⟨fun i H => ∃ xs x, SqL K H a xs /\ xs[i]? = some x, fun i H x H' => H' = H /\ ∀ xs, SqL K H a xs -> xs[i]? = some x, fun i H => ∃ xs, SqL K H a xs /\ xs.length <= i⟩
def Itt (K : Fg) (a : Addr) : It :=
  ⟨fun i H => ∃ xs x, SqT K H a xs /\ xs[i]? = some x, fun i H x H' => H' = H /\ ∀ xs, SqT K H a xs -> xs[i]? = some x, fun i H => ∃ xs, SqT K H a xs /\ xs.length <= i⟩
def Itr (lo : Int) (n : Nat) : It := ⟨fun i _ => i < n, fun i H x H' => H' = H /\ x = .int (lo + i), fun i _ => n <= i⟩
theorem fj {P : Program} {w : World} {K : Fg} {tg : Expr} (a it : Addr) : Turn P w K tg (Itl K a) [it] it (fun i h => h.IsListIter it a i) where
  mem := by simp
  obj := fun i h st b hb => by
    have e : b = it := by simpa using hb
    subst e;obtain ⟨o, e, c, d⟩ := st;exact ⟨o, e, fun v z => by rw [d] at z; cases z⟩
  keep := fun i h h' st k => st.at fun o e => k it (by simp) o e
  item := by
    intro X hP hw hK hc i pins s σ H E I hf st hg;subst hP hw hK;obtain ⟨xs, x, hq, hx⟩ := hg;obtain ⟨its, rv, p, hz⟩ := I.list hq;obtain ⟨u, hu, ru⟩ := rv.get hx;obtain ⟨f0, f1, f2, f3, f4, f5⟩ := hf it (by simp);refine wpAny_pyNext_list_item st p.isList (x := u) (by simpa using hu) fun h' st' sb => ?_
    have I1 : Inv X pins σ H { s with heap := h' } := I.turned (t' := s.toks) (fun b o hb e => (sb.2 b hb).trans e) f0 f1 f3 f4 f5;obtain ⟨o, e, c, d⟩ := id st';exact ⟨u, rfl, l7 (s := { s with heap := h' }) e c d (by decide) ⟨x, H, I1, ru, ⟨rfl, fun ys hy => by rw [I.list_inj hy hq]; exact hx⟩, st', fun b hb => (hf b hb).1⟩⟩
  done := by
    intro X hP hw hK hc i pins s σ H E I hf st hg;subst hP hw hK;obtain ⟨xs, hq, hx⟩ := hg;obtain ⟨its, rv, p, hz⟩ := I.list hq;obtain ⟨f0, f1, f2, f3, f4, f5⟩ := hf it (by simp);have hl := rv.length;exact wpAny_pyNext_list_end (I.ok.hd hc) st p.isList (by simp; omega) fun h' eb => ⟨rfl, I.turned (t' := s.toks) (fun b o hb e => eb b o hb e) f0 f1 f3 f4 f5⟩
  self := fun _ _ _ _ _ st h => wpAny_pyIter_listiter st h
theorem gb {P : Program} {w : World} {K : Fg} {tg : Expr} (it : Addr) (lo : Int) (n : Nat) : Turn P w K tg (Itr lo n) [it] it (fun i h => IsRangeIter h it (lo + (i : Nat) * 1) ((n : Int) - (i : Nat)) 1) where
  mem := by simp
  obj := fun i h st b hb => by
    have e : b = it := by simpa using hb
    subst e
    exact ⟨_, st, fun v z => by
      have z' : Data.fields _ = Data.cell v := z
      cases z'⟩
  keep := fun i h h' st k => k it (by simp) _ st
  item := by
    intro X hP hw hK hc i pins s σ H E I hf st hg;subst hP hw hK;obtain ⟨f0, f1, f2, f3, f4, f5⟩ := hf it (by simp);have W := Walks.range (prog := X.prog) (w := X.w) (I.ok.hd hc) it lo 1 n;refine W.item i s _ _ hg st fun v h' tk hv st' kk => ?_
    obtain ⟨t, rfl⟩ := hv;have I1 : Inv X pins σ H { s with heap := h', toks := tk } := I.turned (fun b o hb e => kk b o (by simpa using hb) e) f0 f1 f3 f4 f5;refine ⟨_, rfl, l7 (s := { s with heap := h', toks := tk }) (n := "range_iterator") st' rfl rfl (by decide) ⟨.int (lo + i), H, I1, ⟨t, ?_⟩, ⟨rfl, rfl⟩, st', fun b hb => (hf b hb).1⟩⟩;rw [Int.mul_one]
  done := by
    intro X hP hw hK hc i pins s σ H E I hf st hg;subst hP hw hK;obtain ⟨f0, f1, f2, f3, f4, f5⟩ := hf it (by simp);exact wpAny_pyNext_range_end (I.ok.hd hc) st (by have : n <= i := hg; omega) fun h' eb => ⟨rfl, I.turned (t' := s.toks) (fun b o hb e => eb b o hb e) f0 f1 f3 f4 f5⟩
  self := fun _ _ _ _ _ st h => wpAny_pyIter_rangeiter st h
end L2
namespace L2
open PySem PySem.Spec PyProof.Rows
section
variable {X : Cx} {tg : Expr}
def iList (K : Fg) (tl : TE) : TI := fun σ H R => tl σ H fun x H1 => ∃ a, x = .ref a /\ (∃ xs, SqL K H1 a xs) /\ R (Itl K a) H1
def iTup (K : Fg) (tl : TE) : TI := fun σ H R => tl σ H fun x H1 => ∃ a, x = .ref a /\ (∃ xs, SqT K H1 a xs) /\ R (Itt K a) H1
theorem yu {l : Expr} {tl : TE} (hl : PE X l tl) : PI X tg l (iList X.K tl) := by
  intro pins s σ H R I h;refine thn (hl pins s σ H _ I h) fun v s1 ⟨x, H1, I1, r1, q1⟩ => ?_
  obtain ⟨a, e, ⟨xs, hq⟩, q⟩ := q1;subst e;cases r1;obtain ⟨its, rv, p, hz⟩ := I1.list hq;refine wpAny_pyIter_list p.isList ?_;refine ⟨s1.heap.objs.size, [s1.heap.objs.size], _, _, H1, rfl, I1.kept (t' := s1.toks) fun b o e => Heap.get?_push_of_some _ e, fj a _, ⟨_, Heap.get?_push_size _ rfl, rfl, rfl⟩, fun b hb => ?_, q⟩;have e : b = s1.heap.objs.size := by simpa using hb
  subst e;exact I1.fpOk (Zm _) (I1.hok.fresh (Zm _))
theorem cb {pins : List (Addr × Obj)} {σ : St} {H : Hp} {s : Shared} {R : It -> Hp -> Prop} {E : Value -> Shared -> Prop} {lo hi : Int} {t u v : Tok} {tk : Nat} (I : Inv X pins σ H s) (h1 : -(2 ^ 62) <= lo) (h2 : lo < 2 ^ 62) (h3 : -(2 ^ 62) <= hi) (h4 : hi < 2 ^ 62)
    (q : R (Itr lo (hi - lo).toNat) H) : wpAny (model X.prog X.w) X.A (pyIter (.ref s.heap.objs.size)) (PIE X pins σ tg R) E { s with heap := s.heap.push { cls := .type "range", data := .fields #[.int lo t, .int hi u, .int 1 v] }, toks := tk } := by
  refine wpAny_pyIter_range (IsRange.new ..) (small_one h1 h2 h3 h4) ?_;have I1 : Inv X pins σ H { s with heap := s.heap.push { cls := .type "range", data := .fields #[.int lo t, .int hi u, .int 1 v] }, toks := tk } := I.kept fun b o e => Heap.get?_push_of_some _ e
  refine ⟨(s.heap.push { cls := .type "range", data := .fields #[.int lo t, .int hi u, .int 1 v] }).objs.size, [(s.heap.push { cls := .type "range", data := .fields #[.int lo t, .int hi u, .int 1 v] }).objs.size], _, _, H, rfl,
    I1.kept (t' := tk) fun b o e => Heap.get?_push_of_some _ e, gb _ lo (hi - lo).toNat, ?_, fun b hb => ?_, q⟩
  . have e1 : lo + ((0 : Nat) : Int) * 1 = lo := by simp
    have e2 : (((hi - lo).toNat : Nat) : Int) - ((0 : Nat) : Int) = Builtin.Range.rangeSize lo hi 1 := by rw [rangeSize_one]; split <;> omega
    show IsRangeIter _ _ (lo + ((0 : Nat) : Int) * 1) ((((hi - lo).toNat : Nat) : Int) - ((0 : Nat) : Int)) 1
    rw [e1, e2];exact Heap.get?_push_size _ rfl
  . have e : b = (s.heap.push { cls := .type "range", data := .fields #[.int lo t, .int hi u, .int 1 v] }).objs.size := by simpa using hb
    subst e;exact I1.fpOk (Zm _) (I1.hok.fresh (Zm _))
def iRng1 (ta : TA) : TI := fun σ H R => ta σ H fun vs H1 => ∃ j : Int, vs = [.int j] /\ -(2 ^ 62) <= j /\ j < 2 ^ 62 /\ R (Itr 0 j.toNat) H1
def iRng2 (ta : TA) : TI := fun σ H R => ta σ H fun vs H1 => ∃ i j : Int, vs = [.int i, .int j] /\ (-(2 ^ 62) <= i /\ i < 2 ^ 62 /\ -(2 ^ 62) <= j /\ j < 2 ^ 62) /\ R (Itr i (j - i).toNat) H1
theorem x0 {a : Expr} {ta : TA} {p pos : Pos} (hg : Gl X "range") (hm : X.mg "range" = none) (ha : PA X [a] ta) (hs : starEach [a] X.env = [(false, eval a X.env)] := by rfl) : PI X tg (.Call (.Name "range" p) [a] [] pos) (iRng1 ta) := by
  intro pins s σ H R I h;refine Call_ (rf I hg hm boot_range (PyProof.Rows.callWith_type1 (thn (ha pos pins s σ H _ I h) fun us s1 ⟨vs, H1, I1, r1, q1⟩ => ?_) hs rfl));obtain ⟨j, e, q1, q2, q⟩ := q1;subst e
  cases r1 with
  | cons r rr =>
    cases rr;obtain ⟨t, rfl⟩ := r;exact call_range_1 (cb I1 (by omega) (by omega) q1 q2 (by simpa using q))
def tFor (wi : TI) (g : TG) (tb : TS) : TS := fun D σ H => wi σ H fun J H1 => ∃ W : Nat -> Nat -> St -> Hp -> Prop, (∃ m, W 0 m σ H1) /\ ∀ i m σ H, W i m σ H ->
  (J.stop i H /\ D.nx σ H) \/ (J.go i H /\ ∃ N : St -> Hp -> Prop, (∀ σ' H', N σ' H' -> ∃ m', m' < m /\ W (i + 1) m' σ' H') /\ ∀ x H', J.yld i H x H' -> g x σ H' fun σ2 H2 => tb { D with nx := N, ct := N, bk := D.nx } σ2 H2)
def ql (fp : List Addr) (h : Heap) : List (Addr × Obj) := fp.filterMap fun b => (h.get? b).map fun o => (b, o)
theorem u8 {fp : List Addr} {h : Heap} {b : Addr} {o : Obj} (hb : b ∈ fp) (e : h.get? b = some o) : (b, o) ∈ ql fp h := ZZ.mpr ⟨b, hb, by rw [e]; rfl⟩
theorem dj {fp : List Addr} {h : Heap} {p : Addr × Obj} (hp : p ∈ ql fp h) : p.1 ∈ fp /\ h.get? p.1 = some p.2 := by
  obtain ⟨b, hb, e⟩ := ZZ.mp hp
  cases q : h.get? b with
  | none => rw [q] at e; cases e
  | some o =>
    rw [q] at e;have e' : (b, o) = p := Option.some.inj e;subst e';exact ⟨hb, q⟩
theorem Inv.pinned {pins : List (Addr × Obj)} {σ : St} {H : Hp} {s : Shared} {fp : List Addr} (I : Inv X pins σ H s) (hf : ∀ b ∈ fp, FpOk X pins H b) (ho : ∀ b ∈ fp, ∃ o, s.heap.get? b = some o /\ ∀ v, o.data ≠ .cell v) : Inv X (pins ++ ql fp s.heap) σ H s :=
  I.pins_of fun p hp => (ZF.mp hp).elim (fun z => I.pin p (Zu _ z)) fun z => by
    obtain ⟨hb, e⟩ := dj z;obtain ⟨f0, f1, f2, _⟩ := hf p.1 hb;obtain ⟨o, e', d⟩ := ho p.1 hb;rw [e] at e'; cases e';exact ⟨e, f0, f1, f2, d⟩
theorem Inv.unpinned {pins pl : List (Addr × Obj)} {σ : St} {H : Hp} {s : Shared} (I : Inv X (pins ++ pl) σ H s) : Inv X pins σ H s := I.pins_of fun p hp => I.pin p (Zu _ (Yg _ hp))
theorem qq {iter : Expr} {body : List Stmt} {wi : TI} {g : TG} {tb : TS} {pos : Pos} (hp : PassesOwn (model X.prog X.w) X.A X.env X.xe) (hc : X.calm = true) (hi : PI X tg iter wi) (hg : PG X tg g) (hb : PSs X body tb)
    (hs : ∀ x, foldedSetIterable iter X.env x = pure x := by intro _; rfl) : PS X (.For tg iter body [] pos) (tFor wi g tb) := by
  intro pins s σ H D I h;refine wpAny_For (thn (hi pins s σ H _ I h) fun v s1 h1 => thn h1 fun itv s2 h2 => ?_) hs;obtain ⟨it, fp, tn, J, H2, e, I2, T, st2, f2, W, ⟨m0, w0⟩, turn⟩ := h2;subst e
  -- what stays true of the iterator's objects through the loop
  have stat : ∀ {H' : Hp}, (∀ b ∈ fp, H' b = none) -> ∀ b ∈ fp, FpOk X pins H' b := fun hn b hb => ⟨hn b hb, (f2 b hb).2⟩
  refine codeAny_forLoop_any (fun n s' => ∃ i σ' H', Inv X pins σ' H' s' /\ tn i s'.heap /\ (∀ b ∈ fp, H' b = none) /\ W i n σ' H') ?_ m0 ⟨0, σ, H2, I2, st2, fun b hb => (f2 b hb).1, w0⟩
  rintro n s3 ⟨i, σ3, H3, I3, st3, fr3, w3⟩
  rcases turn i n σ3 H3 w3 with ⟨stop, qn⟩ | ⟨go, N, hN, step⟩
  . refine wpAny_passesOwn hp (thn (T.done X rfl rfl rfl hc i pins s3 σ3 H3 X.xe I3 (stat fr3) st3 stop) fun r s4 ⟨hr, I4⟩ => ?_)
    subst hr;exact wpAny_execs_nil ⟨σ3, H3, I4, qn⟩
  . refine wpAny_passesOwn hp (thn (T.item X rfl rfl rfl hc i pins s3 σ3 H3 X.xe I3 (stat fr3) st3 go) fun r s4 ⟨u, hr, h4⟩ => ?_)
    subst hr;refine wpAny_passesOwn hp (thn h4 fun _ s5 ⟨x, H5, I5, r5, y5, st5, fr5⟩ => ?_);have I5' := I5.pinned (stat fr5) (T.obj _ _ st5);refine wpAny_passesOwn hp (thn (hg _ s5 σ3 H5 x u _ I5' r5 (step x H5 y5)) fun _ s6 ⟨σ6, H6, I6, q6⟩ => ?_);refine wpAny_passesOwn hp (thn (hb _ s6 σ6 H6 _ I6 q6) fun f s7 q7 => ?_)
    have again : ∀ {σ7 : St} {H7 : Hp}, Inv X (pins ++ ql fp s5.heap) σ7 H7 s7 -> N σ7 H7 -> ∃ m, m < n /\ ∃ i σ' H', Inv X pins σ' H' s7 /\ tn i s7.heap /\ (∀ b ∈ fp, H' b = none) /\ W i m σ' H' := fun {σ7 H7} I7 n7 => by
      obtain ⟨m', hm, w7⟩ := hN σ7 H7 n7;refine ⟨m', hm, i + 1, σ7, H7, I7.unpinned, T.keep _ _ _ st5 fun b hb o e => (I7.pin (b, o) (Zu _ (Zu _ (u8 hb e)))).1, fun b hb => ?_, w7⟩;obtain ⟨o, e, d⟩ := T.obj _ _ st5 b hb;exact (I7.pin (b, o) (Zu _ (Zu _ (u8 hb e)))).2.1
    cases f with
    | next => obtain ⟨σ7, H7, I7, n7⟩ := q7; exact again I7 n7
    | cont => obtain ⟨σ7, H7, I7, n7⟩ := q7; exact again I7 n7
    | brk => obtain ⟨σ7, H7, I7, q7⟩ := q7; exact ⟨σ7, H7, I7.unpinned, q7⟩
    | ret v => obtain ⟨x7, σ7, H7, I7, r7, q7⟩ := q7; exact ⟨x7, σ7, H7, I7.unpinned, r7, q7⟩
end
theorem oi {K : Fg} {a : Addr} {xs : List V} {g : TG} {tb : TS} {D : Ends} {σ : St} {H : Hp} (Pv : Nat -> St -> Hp -> Prop) (h0 : Pv 0 σ H) (hl : ∀ i σ H, i <= xs.length -> Pv i σ H -> SqL K H a xs)
    (hs : ∀ i x σ H, xs[i]? = some x -> Pv i σ H -> g x σ H fun σ2 H2 => tb { D with nx := Pv (i + 1), ct := Pv (i + 1), bk := D.nx } σ2 H2) (hd : ∀ σ H, Pv xs.length σ H -> D.nx σ H) :
    ∃ W : Nat -> Nat -> St -> Hp -> Prop, (∃ m, W 0 m σ H) /\ ∀ i m σ H, W i m σ H ->
      ((Itl K a).stop i H /\ D.nx σ H) \/ ((Itl K a).go i H /\ ∃ N : St -> Hp -> Prop, (∀ σ' H', N σ' H' -> ∃ m', m' < m /\ W (i + 1) m' σ' H') /\ ∀ x H', (Itl K a).yld i H x H' -> g x σ H' fun σ2 H2 => tb { D with nx := N, ct := N, bk := D.nx } σ2 H2) := by
  refine ⟨fun i m σ H => m = xs.length - i /\ i <= xs.length /\ Pv i σ H, ⟨xs.length, by simp, ZD _, h0⟩, ?_⟩
  rintro i m σ H ⟨rfl, hi, p⟩
  have q := hl i σ H hi p
  by_cases hlt : i < xs.length
  . refine .inr ⟨⟨xs, xs[i], q, by simp [hlt]⟩, Pv (i + 1), fun σ' H' p' => ⟨xs.length - (i + 1), by omega, rfl, hlt, p'⟩, fun x H' y => ?_⟩
    obtain ⟨e, y⟩ := y;subst e;exact hs i x σ _ (y xs q) p
  . have e : i = xs.length := by omega
    subst e;exact .inl ⟨⟨xs, q, Zm _⟩, hd σ H p⟩
theorem mt {lo : Int} {n : Nat} {g : TG} {tb : TS} {D : Ends} {σ : St} {H : Hp} (Pv : Nat -> St -> Hp -> Prop) (h0 : Pv 0 σ H)
    (hs : ∀ i σ H, i < n -> Pv i σ H -> g (.int (lo + i)) σ H fun σ2 H2 => tb { D with nx := Pv (i + 1), ct := Pv (i + 1), bk := D.nx } σ2 H2) (hd : ∀ σ H, Pv n σ H -> D.nx σ H) :
    ∃ W : Nat -> Nat -> St -> Hp -> Prop, (∃ m, W 0 m σ H) /\ ∀ i m σ H, W i m σ H ->
      ((Itr lo n).stop i H /\ D.nx σ H) \/ ((Itr lo n).go i H /\ ∃ N : St -> Hp -> Prop, (∀ σ' H', N σ' H' -> ∃ m', m' < m /\ W (i + 1) m' σ' H') /\ ∀ x H', (Itr lo n).yld i H x H' -> g x σ H' fun σ2 H2 => tb { D with nx := N, ct := N, bk := D.nx } σ2 H2) := by
  refine ⟨fun i m σ H => m = n - i /\ i <= n /\ Pv i σ H, ⟨n, by simp, ZD _, h0⟩, ?_⟩
  rintro i m σ H ⟨rfl, hi, p⟩
  by_cases hlt : i < n
  . refine .inr ⟨hlt, Pv (i + 1), fun σ' H' p' => ⟨n - (i + 1), by omega, rfl, hlt, p'⟩, fun x H' y => ?_⟩
    obtain ⟨e, y⟩ := y;subst e y;exact hs i σ _ hlt p
  . have e : i = n := by omega
    subst e;exact .inl ⟨Zm _, hd σ H p⟩
end L2
namespace L2
open PySem PySem.Spec PyProof.Rows
abbrev R2 := V -> V -> Hp -> VK -> Prop
def OpR (X : Cx) (f : Value -> Value -> Sem Value) (r : R2) : Prop :=
  ∀ (pins : List (Addr × Obj)) (s : Shared) (σ : St) (H : Hp) (x y : V) (v u : Value) (Q : VK), Inv X pins σ H s -> RelV x v -> RelV y u -> r x y H Q ->
    wpAny (model X.prog X.w) X.A (f v u) (EP X pins σ Q) X.xe s
def CallR (X : Cx) (f : Value) (r : List V -> Hp -> VK -> Prop) : Prop :=
  ∀ (pins : List (Addr × Obj)) (s : Shared) (σ : St) (H : Hp) (xs : List V) (us : List Value) (Q : VK), Inv X pins σ H s -> Vals xs us -> r xs H Q ->
    wpAny (model X.prog X.w) X.A (call f us) (EP X pins σ Q) X.xe s
def tOp (r : R2) (ta tb : TE) : TE := fun σ H Q => ta σ H fun x H1 => tb σ H1 fun y H2 => r x y H2 Q
def tUn (r : V -> Hp -> VK -> Prop) (ta : TE) : TE := fun σ H Q => ta σ H fun x H1 => r x H1 Q
def rI (C : Int -> Int -> Prop) (g : Int -> Int -> V) : R2 := fun x y H Q => ∃ i j, x = .int i /\ y = .int j /\ C i j /\ Q (g i j) H
def rI0 (g : Int -> Int -> V) : R2 := fun x y H Q => ∃ i j, x = .int i /\ y = .int j /\ Q (g i j) H
def rU (g : Int -> V) : V -> Hp -> VK -> Prop := fun x H Q => ∃ i, x = .int i /\ Q (g i) H
section
variable {X : Cx} {a b c : Expr} {ta tb tc : TE} {pos : Pos}
theorem binT (ha : PE X a ta) (hb : PE X b tb) {pins : List (Addr × Obj)} {s : Shared} {σ : St} {H : Hp} {R : V -> V -> Hp -> Prop} (I : Inv X pins σ H s)
    (h : ta σ H fun x H1 => tb σ H1 fun y H2 => R x y H2) {Q : Value -> Shared -> Prop} {f : Value -> Value -> Sem Value}
    (hf : ∀ v u s2 x y H2, Inv X pins σ H2 s2 -> RelV x v -> RelV y u -> R x y H2 -> wpAny (model X.prog X.w) X.A (f v u) Q X.xe s2) :
    wpAny (model X.prog X.w) X.A (eval a X.env) (fun v s₁ => wpAny (model X.prog X.w) X.A (eval b X.env) (fun u s₂ => wpAny (model X.prog X.w) X.A (f v u) Q X.xe s₂) X.xe s₁) X.xe s := by
  refine thn (ha pins s σ H _ I h) fun v s1 ⟨x, H1, I1, r1, q1⟩ => ?_
  refine thn (hb pins s1 σ H1 _ I1 q1) fun u s2 ⟨y, H2, I2, r2, q2⟩ => ?_
  exact hf v u s2 x y H2 I2 r1 r2 q2
theorem zg {op : Operator} {r : R2} (ho : OpR X (binaryOp op) r) (ha : PE X a ta) (hb : PE X b tb) : PE X (.BinOp a op b pos) (tOp r ta tb) := by
  intro pins s σ H Q I h;exact wpAny_BinOp (binT ha hb I h fun v u s2 x y H2 I2 rx ry q => ho pins s2 σ H2 x y v u Q I2 rx ry q)
theorem opI {f : Value -> Value -> Sem Value} {C : Int -> Int -> Prop} {g : Int -> Int -> Int}
    (rule : ∀ (i j : Int) (t u : Tok) (s : Shared) (Q : Value -> Shared -> Prop) (E : Value -> Shared -> Prop), C i j -> Q (.int (g i j) s.toks) { s with toks := s.toks + 1 } -> wpAny (model X.prog X.w) X.A (f (.int i t) (.int j u)) Q E s) :
    OpR X f (rI C fun i j => .int (g i j)) := by
  intro pins s σ H x y v u Q I rx ry h;obtain ⟨i, j, rfl, rfl, hc, q⟩ := h;obtain ⟨t, rfl⟩ := rx;obtain ⟨t', rfl⟩ := ry;exact rule i j t t' s _ _ hc ⟨.int (g i j), H, I.tok _, ⟨_, rfl⟩, q⟩
theorem opI0 {f : Value -> Value -> Sem Value} {g : Int -> Int -> Int}
    (rule : ∀ (i j : Int) (t u : Tok) (s : Shared) (Q : Value -> Shared -> Prop) (E : Value -> Shared -> Prop), Q (.int (g i j) s.toks) { s with toks := s.toks + 1 } -> wpAny (model X.prog X.w) X.A (f (.int i t) (.int j u)) Q E s) :
    OpR X f (rI0 fun i j => .int (g i j)) := by
  intro pins s σ H x y v u Q I rx ry h;obtain ⟨i, j, rfl, rfl, q⟩ := h;obtain ⟨t, rfl⟩ := rx;obtain ⟨t', rfl⟩ := ry;exact rule i j t t' s _ _ ⟨.int (g i j), H, I.tok _, ⟨_, rfl⟩, q⟩
theorem opB0 {f : Value -> Value -> Sem Value} {g : Int -> Int -> Bool}
    (rule : ∀ (i j : Int) (t u : Tok) (s : Shared) (Q : Value -> Shared -> Prop) (E : Value -> Shared -> Prop), Q (.bool (g i j)) s -> wpAny (model X.prog X.w) X.A (f (.int i t) (.int j u)) Q E s) :
    OpR X f (rI0 fun i j => .bl (g i j)) := by
  intro pins s σ H x y v u Q I rx ry h;obtain ⟨i, j, rfl, rfl, q⟩ := h;obtain ⟨t, rfl⟩ := rx;obtain ⟨t', rfl⟩ := ry;exact rule i j t t' s _ _ ⟨.bl (g i j), H, I, rfl, q⟩
def CDiv (i j : Int) : Prop := 0 < j /\ j < 1073741824
def CPow (i j : Int) : Prop := 0 <= j /\ j <= 1000000 /\ i.natAbs < 2 ^ 64
def CMul (i j : Int) : Prop := (-(2 ^ 64) < i /\ i < 2 ^ 64) \/ (-(2 ^ 64) < j /\ j < 2 ^ 64)
theorem CMul.ok {i j : Int} (h : CMul i j) : IntMulOk i j := by
  rcases h with ⟨h1, h2⟩ | ⟨h1, h2⟩
  . exact .of_left (intBits_le_64 h1 h2)
  . exact .of_right (intBits_le_64 h1 h2)
theorem yt : OpR X (binaryOp .Add) (rI0 fun i j => .int (i + j)) := opI0 fun _ _ _ _ _ _ _ q => add_int q
theorem ue : OpR X (binaryOp .Sub) (rI0 fun i j => .int (i - j)) := opI0 fun _ _ _ _ _ _ _ q => sub_int q
theorem v8 : OpR X (binaryOp .Mult) (rI CMul fun i j => .int (i * j)) := opI fun _ _ _ _ _ _ _ hc q => mul_int q hc.ok
theorem yc : OpR X (binaryOp .FloorDiv) (rI CDiv fun i j => .int (i / j)) := opI fun i j _ _ _ _ _ hc q => by
  have h1 : (0 : Int) < j := hc.1;have h2 : j < 1073741824 := hc.2;exact floordiv_int (by omega) (by rw [Int.fdiv_eq_ediv_of_nonneg i (by omega)]; exact q) (.inl (PyProof.noPylong_small (by omega)))
theorem z4 : OpR X (binaryOp .Mod) (rI (fun _ j => 0 < j) fun i j => .int (i % j)) := opI fun i j _ _ _ _ _ hc q => by
  have h1 : (0 : Int) < j := hc;exact mod_int' (by omega) (by rw [Int.fmod_eq_emod_of_nonneg i (by omega)]; exact q)
theorem vc : OpR X (binaryOp .Pow) (rI CPow fun i j => .int (i ^ j.toNat)) := opI fun _ _ _ _ _ _ _ hc q => pow_int_small hc.1 hc.2.1 hc.2.2 q
end
def scal : V -> V -> Bool
  | .non, .non => true | .non, .int _ => true | .int _, .non => true | .non, .bl _ => true | .bl _, .non => true | .non, .str _ => true | .str _, .non => true
  | .int _, .int _ => true | .bl _, .bl _ => true | .str _, .str _ => true | .byt _, .byt _ => true
  | .int _, .str _ => true | .str _, .int _ => true | .bl _, .str _ => true | .str _, .bl _ => true
  | _, _ => false
def rEq : R2 := fun x y H Q => scal x y = true /\ Q (.bl (decide (x = y))) H
def rNe : R2 := fun x y H Q => scal x y = true /\ Q (.bl (!decide (x = y))) H
theorem ib {i j : Int} : decide (V.int i = V.int j) = (i == j) := by
  rw [Bool.eq_iff_iff];simp
theorem dy {i j : Bool} : decide (V.bl i = V.bl j) = (i == j) := by
  rw [Bool.eq_iff_iff];simp
theorem iy {i j : Str} : decide (V.str i = V.str j) = (i == j) := by
  rw [Bool.eq_iff_iff];simp
theorem iw {i j : Array UInt8} : decide (V.byt i = V.byt j) = (i.toList == j.toList) := by
  rw [Bool.eq_iff_iff];cases i;cases j;simp
section
variable {X : Cx} {a b c : Expr} {ta tb tc : TE} {pos : Pos}
theorem yj {pins : List (Addr × Obj)} {σ : St} {H : Hp} {s : Shared} {Q : VK} {k k' : Bool} (I : Inv X pins σ H s) (q : Q (.bl k) H) (e : k = k') : EP X pins σ Q (.bool k') s := by
  subst e;exact ⟨.bl k, H, I, rfl, q⟩
theorem y3 : OpR X (compareOp .Eq) rEq := by
  intro pins s σ H x y v u Q I rx ry h;obtain ⟨hs, q⟩ := h
  cases x with
  | non =>
    cases rx
    cases y with
    | non => cases ry; exact PySem.EqNone.eq_none_none (yj I q (by simp))
    | bl j => cases ry; exact PySem.EqNone.eq_none_bool (yj I q (by simp))
    | int j => obtain ⟨t', rfl⟩ := ry; exact PySem.EqNone.eq_none_int (yj I q (by simp))
    | str j => obtain ⟨t', rfl⟩ := ry; exact PySem.EqNone.eq_none_str (yj I q (by simp))
    | _ => exact absurd (show false = true from hs) Bool.false_ne_true
  | bl i =>
    cases rx
    cases y with
    | non => cases ry; exact PySem.EqNone.eq_bool_none (yj I q (by simp))
    | bl j => cases ry; exact eq_bool (yj I q dy)
    | str j => obtain ⟨t', rfl⟩ := ry; exact PySem.EqMixed.eq_bool_str (yj I q (by simp))
    | _ => exact absurd (show false = true from hs) Bool.false_ne_true
  | int i =>
    obtain ⟨t, rfl⟩ := rx
    cases y with
    | non => cases ry; exact PySem.EqNone.eq_int_none (yj I q (by simp))
    | int j => obtain ⟨t', rfl⟩ := ry; exact eq_int (yj I q ib)
    | str j => obtain ⟨t', rfl⟩ := ry; exact PySem.EqMixed.eq_int_str (yj I q (by simp))
    | _ => exact absurd (show false = true from hs) Bool.false_ne_true
  | str i =>
    obtain ⟨t, rfl⟩ := rx
    cases y with
    | non => cases ry; exact PySem.EqNone.eq_str_none (yj I q (by simp))
    | bl j => cases ry; exact PySem.EqMixed.eq_str_bool (yj I q (by simp))
    | int j => obtain ⟨t', rfl⟩ := ry; exact PySem.EqMixed.eq_str_int (yj I q (by simp))
    | str j => obtain ⟨t', rfl⟩ := ry; exact eq_str (yj I q iy)
    | _ => exact absurd (show false = true from hs) Bool.false_ne_true
  | byt i =>
    obtain ⟨t, rfl⟩ := rx
    cases y with
    | byt j => obtain ⟨t', rfl⟩ := ry; exact PySem.W.eq_bytes (yj I q iw)
    | _ => exact absurd (show false = true from hs) Bool.false_ne_true
  | _ => cases y <;> exact absurd (show false = true from hs) Bool.false_ne_true
theorem qy : OpR X (compareOp .NotEq) rNe := by
  intro pins s σ H x y v u Q I rx ry h;obtain ⟨hs, q⟩ := h
  cases x with
  | non =>
    cases rx
    cases y with
    | non => cases ry; exact PySem.EqNone.ne_none_none (yj I q (by simp))
    | bl j => cases ry; exact PySem.EqNone.ne_none_bool (yj I q (by simp))
    | int j => obtain ⟨t', rfl⟩ := ry; exact PySem.EqNone.ne_none_int (yj I q (by simp))
    | str j => obtain ⟨t', rfl⟩ := ry; exact PySem.EqNone.ne_none_str (yj I q (by simp))
    | _ => exact absurd (show false = true from hs) Bool.false_ne_true
  | bl i =>
    cases rx
    cases y with
    | non => cases ry; exact PySem.EqNone.ne_bool_none (yj I q (by simp))
    | bl j => cases ry; exact ne_bool (yj I q (congrArg not dy))
    | str j => obtain ⟨t', rfl⟩ := ry; exact PySem.EqMixed.ne_bool_str (yj I q (by simp))
    | _ => exact absurd (show false = true from hs) Bool.false_ne_true
  | int i =>
    obtain ⟨t, rfl⟩ := rx
    cases y with
    | non => cases ry; exact PySem.EqNone.ne_int_none (yj I q (by simp))
    | int j => obtain ⟨t', rfl⟩ := ry; exact ne_int (yj I q (congrArg not ib))
    | str j => obtain ⟨t', rfl⟩ := ry; exact PySem.EqMixed.ne_int_str (yj I q (by simp))
    | _ => exact absurd (show false = true from hs) Bool.false_ne_true
  | str i =>
    obtain ⟨t, rfl⟩ := rx
    cases y with
    | non => cases ry; exact PySem.EqNone.ne_str_none (yj I q (by simp))
    | bl j => cases ry; exact PySem.EqMixed.ne_str_bool (yj I q (by simp))
    | int j => obtain ⟨t', rfl⟩ := ry; exact PySem.EqMixed.ne_str_int (yj I q (by simp))
    | str j => obtain ⟨t', rfl⟩ := ry; exact ne_str (yj I q (congrArg not iy))
    | _ => exact absurd (show false = true from hs) Bool.false_ne_true
  | byt i =>
    obtain ⟨t, rfl⟩ := rx
    cases y with
    | byt j => obtain ⟨t', rfl⟩ := ry; exact PySem.W.ne_bytes (yj I q (congrArg not iw))
    | _ => exact absurd (show false = true from hs) Bool.false_ne_true
  | _ => cases y <;> exact absurd (show false = true from hs) Bool.false_ne_true
theorem ow : OpR X (compareOp .Lt) (rI0 fun i j => .bl (decide (i < j))) := opB0 fun _ _ _ _ _ _ _ q => lt_int q
theorem uo : OpR X (compareOp .LtE) (rI0 fun i j => .bl (decide (i <= j))) := opB0 fun _ _ _ _ _ _ _ q => le_int q
theorem op_isN : OpR X (compareOp .Is) (fun x y H Q => y = .non /\ Q (.bl (decide (x = .non))) H) := by
  intro pins s σ H x y v u Q I rx ry h;obtain ⟨rfl, q⟩ := h;cases ry;refine is_none_gen (yj I q ?_)
  cases x <;> first
    | (cases rx; rfl)
    | (obtain ⟨t, rfl⟩ := rx; rfl)
theorem OpR.or {f : Value -> Value -> Sem Value} {r r' : R2} (h : OpR X f r) (h' : OpR X f r') : OpR X f (fun x y H Q => r x y H Q \/ r' x y H Q) := by
  intro pins s σ H x y v u Q I rx ry q
  rcases q with q | q
  . exact h pins s σ H x y v u Q I rx ry q
  . exact h' pins s σ H x y v u Q I rx ry q
theorem ya (b : Expr) {op : CmpOp} (h : op ≠ .In := by decide) (h2 : op ≠ .NotIn := by decide) : behindInMarks op b = false := by
  have e1 : (op == CmpOp.In) = false := by cases op <;> first | rfl | exact absurd rfl h
  have e2 : (op == CmpOp.NotIn) = false := by cases op <;> first | rfl | exact absurd rfl h2
  cases b <;> simp [behindInMarks, e1, e2]
theorem wy {op : CmpOp} {r : R2} (ho : OpR X (compareOp op) r) (ha : PE X a ta) (hb : PE X b tb) (hm : behindInMarks op b = false) : PE X (.Compare a [op] [b] pos) (tOp r ta tb) := by
  intro pins s σ H Q I h;exact wpAny_Compare1 (binT ha hb I h fun v u s2 x y H2 I2 rx ry q => ho pins s2 σ H2 x y v u Q I2 rx ry q) hm
def fb (t : TE) : TT := fun σ H Q => t σ H fun x H' => ∃ k, x = .bl k /\ Q k H'
theorem ye {op : CmpOp} {r : R2} (ho : OpR X (compareOp op) r) (ha : PE X a ta) (hb : PE X b tb) (hm : behindInMarks op b = false) : PT X (.Compare a [op] [b] pos) (fb (tOp r ta tb)) := by
  intro pins s σ H Q I h
  refine wpAny_isTrue_Compare1 (thn (ha pins s σ H _ I h) fun v s1 ⟨x, H1, I1, r1, q1⟩ => thn (hb pins s1 σ H1 _ I1 q1) fun u s2 ⟨y, H2, I2, r2, q2⟩ =>
    thn (ho pins s2 σ H2 x y v u _ I2 r1 r2 q2) fun c s3 ⟨z, H3, I3, r3, k, e, q3⟩ => ?_) hm
  subst e;cases r3;exact wpAny_truthy_bool ⟨H3, I3, q3⟩
def jf (r r' : R2) (ta tb tc : TE) : TE := fun σ H Q => ta σ H fun x H1 => tb σ H1 fun y H2 => r x y H2 fun z H3 => ∃ k, z = .bl k /\
  (if k = true then tc σ H3 fun w' H4 => r' y w' H4 Q else Q (.bl false) H3)
theorem kq {op op' : CmpOp} {r r' : R2} (ho : OpR X (compareOp op) r) (ho' : OpR X (compareOp op') r') (ha : PE X a ta) (hb : PE X b tb) (hc : PE X c tc)
    (hm : lastMarks [op, op'] [b, c] = false := by with_unfolding_all rfl) : PE X (.Compare a [op, op'] [b, c] pos) (jf r r' ta tb tc) := by
  intro pins s σ H Q I h
  refine Compare_chain (thn (ha pins s σ H _ I h) fun v s1 ⟨x, H1, I1, r1, q1⟩ => chain_link (thn (hb pins s1 σ H1 _ I1 q1) fun u s2 ⟨y, H2, I2, r2, q2⟩ =>
    thn (ho pins s2 σ H2 x y v u _ I2 r1 r2 q2) fun d s3 ⟨z, H3, I3, r3, k, e, q3⟩ => ?_)) hm
  subst e;cases r3;refine wpAny_truthy_bool ?_
  cases k with
  | false => exact ite_ff ⟨.bl false, H3, I3, rfl, q3⟩
  | true => exact ite_tt (chain_last (thn (hc pins s3 σ H3 _ I3 q3) fun w' s4 ⟨z', H4, I4, r4, q4⟩ => ho' pins s4 σ H4 y z' u w' Q I4 r2 r4 q4))
theorem qa {op op' : CmpOp} {r r' : R2} (ho : OpR X (compareOp op) r) (ho' : OpR X (compareOp op') r') (ha : PE X a ta) (hb : PE X b tb) (hc : PE X c tc)
    (hm : lastMarks [op, op'] [b, c] = false := by with_unfolding_all rfl) : PT X (.Compare a [op, op'] [b, c] pos) (fb (jf r r' ta tb tc)) := by
  intro pins s σ H Q I h
  refine isTrue_chain (thn (ha pins s σ H _ I h) fun v s1 ⟨x, H1, I1, r1, q1⟩ => test_link (thn (hb pins s1 σ H1 _ I1 q1) fun u s2 ⟨y, H2, I2, r2, q2⟩ =>
    thn (ho pins s2 σ H2 x y v u _ I2 r1 r2 q2) fun d s3 ⟨z, H3, I3, r3, k, e, q3⟩ => ?_)) hm
  subst e;cases r3;refine wpAny_truthy_bool ?_
  cases k with
  | false =>
    obtain ⟨k', e', q'⟩ := q3;cases e';exact ite_ff ⟨H3, I3, q'⟩
  | true =>
    refine ite_tt (test_last (thn (hc pins s3 σ H3 _ I3 q3) fun w' s4 ⟨z', H4, I4, r4, q4⟩ => thn (ho' pins s4 σ H4 y z' u w' _ I4 r2 r4 q4) fun d' s5 ⟨z2, H5, I5, r5, k2, e2, q5⟩ => ?_));subst e2;cases r5;exact wpAny_truthy_bool ⟨H5, I5, q5⟩
theorem qi : (sizeLine : Nat) < 2 ^ 63 := by rw [sizeLine_eq]; decide
theorem om : OpR X (binaryOp .Add) (fun x y H Q => ∃ i j, x = .str i /\ y = .str j /\ i.length + j.length <= sizeLine /\ Q (.str (i ++ j)) H) := by
  intro pins s σ H x y v u Q I rx ry h;obtain ⟨i, j, rfl, rfl, hz, q⟩ := h;obtain ⟨t, rfl⟩ := rx;obtain ⟨t', rfl⟩ := ry;exact add_str (fun t' tk => ⟨.str (i ++ j), H, I.tok _, ⟨_, rfl⟩, q⟩) hz
theorem o4 {x : V} {us : List Value} (r : Vals [x] us) : ∃ u, us = [u] /\ RelV x u := by
  cases r with
  | cons r1 r2 => cases r2; exact ⟨_, rfl, r1⟩
theorem vals2 {x y : V} {us : List Value} (r : Vals [x, y] us) : ∃ u w', us = [u, w'] /\ RelV x u /\ RelV y w' := by
  cases r with
  | cons r1 r2 =>
    cases r2 with
    | cons r3 r4 => cases r4; exact ⟨_, _, rfl, r1, r3⟩
theorem jh : CallR X (.builtin "abs") (fun xs H Q => ∃ i, xs = [.int i] /\ Q (.int (if i < 0 then -i else i)) H) := by
  intro pins s σ H xs us Q I r h;obtain ⟨i, rfl, q⟩ := h;obtain ⟨u, rfl, t, rfl⟩ := o4 r;exact call_abs_int fun u tk => ⟨.int (if i < 0 then -i else i), H, I.tok _, ⟨_, rfl⟩, q⟩
theorem eg (hc : X.calm = true) : CallR X (.builtin "max") (fun xs H Q => ∃ i j, xs = [.int i, .int j] /\ Q (.int (if j > i then j else i)) H) := by
  intro pins s σ H xs us Q I r h;obtain ⟨i, j, rfl, q⟩ := h;obtain ⟨u, w', rfl, ⟨t, rfl⟩, ⟨t', rfl⟩⟩ := vals2 r;refine max_two_ints (I.ok.hd hc) fun h' tk k => ⟨_, H, I.kept k, ?_, q⟩
  by_cases hj : j > i
  . rw [if_pos hj, if_pos hj]; exact ⟨_, rfl⟩
  . rw [if_neg hj, if_neg hj]; exact ⟨_, rfl⟩
theorem em (hc : X.calm = true) : CallR X (.builtin "min") (fun xs H Q => ∃ i j, xs = [.int i, .int j] /\ Q (.int (if j < i then j else i)) H) := by
  intro pins s σ H xs us Q I r h;obtain ⟨i, j, rfl, q⟩ := h;obtain ⟨u, w', rfl, ⟨t, rfl⟩, ⟨t', rfl⟩⟩ := vals2 r;refine min_two_ints (I.ok.hd hc) fun h' tk k => ⟨_, H, I.kept k, ?_, q⟩
  by_cases hj : j < i
  . rw [if_pos hj, if_pos hj]; exact ⟨_, rfl⟩
  . rw [if_neg hj, if_neg hj]; exact ⟨_, rfl⟩
end
end L2
namespace L2
open PySem PySem.Spec PyProof.Rows
structure ObjM (h : Heap) (x dx C : Addr) (mA : Str -> Option Value) : Prop where
  obj : h.get? x = some (PySem.W.instObj C dx)
  ns : h.Ns1 dx mA
  ne : dx ≠ x
theorem de {h : Heap} {dx : Addr} {mA : Str -> Option Value} (n : h.Ns1 dx mA) : ∃ od, h.get? dx = some od /\ ∀ name, PySem.W.lookIn name od = some (mA name) := by
  obtain ⟨o, es, ep, ho, hd, hk, _, hm⟩ := n;refine ⟨o, ho, fun name => ?_⟩;have e := hm name;unfold nsFind findBy at e;rw [<- Array.find?_toList] at e;unfold PySem.W.lookIn;rw [hd];dsimp only
  split
  . rename_i y q
    rw [q] at e;exact congrArg some e
  . rename_i q
    rw [q] at e
    have a : es.toList.any (·.refKey) = false := by
      rw [List.any_eq_false];intro y hy;obtain ⟨z, t, hkey⟩ := hk y (Array.mem_toList_iff.mp hy);simp [DictEntry.refKey, hkey]
    have a' : ¬ es.toList.any (·.refKey) = true := by rw [a]; exact Bool.false_ne_true
    rw [if_neg a'];exact congrArg some e
theorem ObjM.look {h : Heap} {x dx C : Addr} {mA : Str -> Option Value} (I : ObjM h x dx C mA) : ∃ od, PySem.W.InstAt h x (PySem.W.instObj C dx) C (some od) /\ ∀ name, PySem.W.lookIn name od = some (mA name) :=
  let ⟨od, ho, hl⟩ := de I.ns
  ⟨od, ⟨I.obj, rfl, rfl, ho⟩, hl⟩
section
variable {prog : Program} {w : World} {A : Around} {E : Value -> Shared -> Prop} {s : Shared} {K : Fg} {x dx C f : Addr} {mA : Str -> Option Value} {name : Str} {v : Value}
end
section
variable {P : Program} {w : World} {H H' : Hp} {h h' : Heap} {a C dx : Addr} {fs fs' : List (Str × V)}
theorem ah (hok : HOk P w H h) (e : H a = some (.ins C dx fs)) : ∃ mA, ObjM h a dx C mA /\ (∀ f, RelO (fs.lookup f) (mA f)) /\ PySem.Within mA (fs.map (·.1)) /\ fs.length <= 1000 /\ H dx = some (.own a) := by
  obtain ⟨d, z, ne, ob, mA, n, r, q⟩ := (show ObjOk P w H h a (.ins C dx fs) from hok a _ e);exact ⟨mA, ⟨ob, n, ne⟩, r, q, z, d⟩
end
structure Cls (K : Fg) (C : Addr) : Prop where
  pg : PySem.W.plainGet K C Str.empty = true
  hd : PySem.W.hasDictIn K C = true
  po : PySem.W.plainOver K C = true
  sa : PySem.W.findIn K (.ref C) "__setattr__" = some (some (.builtin "object.__setattr__"))
theorem Cls.get {K : Fg} {C : Addr} (c : Cls K C) (f : Str) : PySem.W.plainGet K C f = true := c.pg
section
variable {X : Cx} {pins : List (Addr × Obj)} {σ : St} {H : Hp} {s : Shared} {a C dx : Addr} {fs : List (Str × V)} {f : Str} {v : V} {A : Around} {E : Value -> Shared -> Prop}
theorem Inv.made (I : Inv X pins σ H s) : Inv X pins σ (upd (upd H s.heap.objs.size (.own (s.heap.objs.size + 1))) (s.heap.objs.size + 1) (.ins C s.heap.objs.size []))
    { s with heap := (s.heap.push PySem.W.emptyDict).push (PySem.W.instObj C s.heap.objs.size) } := by
  have e1 : (s.heap.push PySem.W.emptyDict).get? s.heap.objs.size = some PySem.W.emptyDict := Heap.get?_push_size s.heap rfl
  have e2 : ((s.heap.push PySem.W.emptyDict).push (PySem.W.instObj C s.heap.objs.size)).get? (s.heap.objs.size + 1) = some (PySem.W.instObj C s.heap.objs.size) := by
    have := Heap.get?_push_size (s.heap.push PySem.W.emptyDict) (o := PySem.W.instObj C s.heap.objs.size) rfl
    rwa [Heap.size_push] at this
  have e3 : (s.heap.push PySem.W.emptyDict).Ns s.heap.objs.size (fun _ => none) := ⟨PySem.W.emptyDict, #[], _, e1, rfl, (fun e he => absurd he (by simp)), fun _ => rfl⟩;have I1 := I.laid (a := s.heap.objs.size) (o := .own (s.heap.objs.size + 1)) (h' := s.heap.push PySem.W.emptyDict) (t' := s.toks) (fun b u q => Heap.get?_push_of_some _ q) (Zm _) ⟨_, e1⟩;refine I1.laid (a := s.heap.objs.size + 1) (o := .ins C s.heap.objs.size []) (t' := s.toks) (fun b u q => Heap.get?_push_of_some _ q) (Nat.le_of_eq (Heap.size_push _ _)) ?_;have ne : s.heap.objs.size ≠ s.heap.objs.size + 1 := Zs (YA _);refine ⟨by rw [z0 ne, ze], ZD _, ne, e2, fun _ => none, (Heap.Ns1.of_empty e3).at fun o q => Heap.get?_push_of_some _ q, fun _ => True.intro, fun y hy => absurd rfl hy⟩
end
section
variable {X : Cx} {o e value : Expr} {f : Str} {pos pos' tpos : Pos} {ta tv : TE}
end
section
variable {X : Cx} {pins : List (Addr × Obj)} {σ : St} {H : Hp} {s : Shared} {A : Around} {E : Value -> Shared -> Prop} {Q : Value -> Shared -> Prop} {c : Value} {b : Bool}
inductive TyOf (K : Fg) (H : Hp) : V -> Value -> Prop where
  | non : TyOf K H .non (.type "NoneType")
  | bl (x : Bool) : TyOf K H (.bl x) (.type "bool")
  | int (i : Int) : TyOf K H (.int i) (.type "int")
  | str (x : Str) : TyOf K H (.str x) (.type "str")
  | flt (x : UInt64) : TyOf K H (.flt x) (.type "float")
  | lst {a : Addr} {xs : List V} (e : H a = some (.lst xs)) : TyOf K H (.ref a) (.type "list")
  | frz {a : Addr} {o : Obj} {xs : List V} (e : H a = some (.frz o (.lst xs))) : TyOf K H (.ref a) (.type "list")
  | tup {a : Addr} {xs : List V} (e : H a = some (.tup xs)) : TyOf K H (.ref a) (.type "tuple")
  | dK {a : Addr} {kvs : List (Key × V)} (e : H a = some (.dK kvs)) : TyOf K H (.ref a) (.type "dict")
  | dT {a : Addr} {kvs : List (List Key × V)} (e : H a = some (.dT kvs)) : TyOf K H (.ref a) (.type "dict")
  | ins {a C dx : Addr} {fs : List (Str × V)} (e : H a = some (.ins C dx fs)) (cl : Cls K C) (ha : PySem.W.findIn K (.ref C) "__class__" = some (some (.builtin "object.__class__")))
      (hn : PySem.W.specialIn K (.builtin "object.__class__") "__get__" = some (some (.builtin "getset_descriptor.__get__"))) (htk : PySem.W.takesIn K (.builtin "object.__class__") = some true)
      (hm : PySem.W.mroIn K C (.type "object") = some true) : TyOf K H (.ref a) (.ref C)
theorem eh {x : V} {u t : Value} (I : Inv X pins σ H s) (rx : RelV x u) (ty : TyOf X.K H x t) (e : PySem.W.kitOne X.K t c = some b) (h : ∀ tk, Q (.bool b) { s with toks := tk }) :
    wpAny (model X.prog X.w) A (call (.builtin "isinstance") [u, c]) Q E s := by
  cases ty with
  | non => cases (show u = Value.none from rx); exact PySem.W.kia_one PySem.W.kitx_none I.kIn True.intro e (fun z => nomatch z) h
  | bl y => cases (show u = Value.bool y from rx); exact PySem.W.kia_one PySem.W.kitx_bool I.kIn True.intro e (fun z => nomatch z) h
  | int i => obtain ⟨t, q⟩ := (show ∃ t, u = Value.int i t from rx); cases q; exact PySem.W.kia_one PySem.W.kitx_int I.kIn True.intro e (fun z => nomatch z) h
  | str y => obtain ⟨t, q⟩ := (show ∃ t, u = Value.str y t from rx); cases q; exact PySem.W.kia_one PySem.W.kitx_str I.kIn True.intro e (fun z => nomatch z) h
  | flt y => obtain ⟨t, q⟩ := (show ∃ t, u = Value.float y t from rx); cases q; exact PySem.W.kia_one PySem.W.kitx_float I.kIn True.intro e (fun z => nomatch z) h
  | @lst a xs ea =>
    cases (show u = Value.ref a from rx);obtain ⟨_, _, n, _, h1⟩ := (show ObjOk X.prog X.w H s.heap a (.lst xs) from I.hok a _ ea);exact PySem.W.kia_one PySem.W.kitx_list I.kIn ⟨_, h1, rfl⟩ e (fun z => nomatch z) h
  | @frz a ob xs ea =>
    cases (show u = Value.ref a from rx);obtain ⟨_, _, _, n, _, h1⟩ := (show ObjOk X.prog X.w H s.heap a (.frz ob (.lst xs)) from I.hok a _ ea);exact PySem.W.kia_one PySem.W.kitx_list I.kIn ⟨_, h1, rfl⟩ e (fun z => nomatch z) h
  | @tup a xs ea =>
    cases (show u = Value.ref a from rx);obtain ⟨_, _, _, p⟩ := (show ObjOk X.prog X.w H s.heap a (.tup xs) from I.hok a _ ea);obtain ⟨o, h1, h2, _⟩ := p;exact PySem.W.kia_one PySem.W.kitx_tuple I.kIn ⟨o, h1, h2⟩ e (fun z => nomatch z) h
  | @dK a kvs ea =>
    cases (show u = Value.ref a from rx);obtain ⟨_, _, vs, _, p⟩ := (show ObjOk X.prog X.w H s.heap a (.dK kvs) from I.hok a _ ea);obtain ⟨o, es, ep, h1, h2, _⟩ := p;exact PySem.W.kia_one PySem.W.kitx_dict I.kIn ⟨o, h1, h2.1⟩ e (fun z => nomatch z) h
  | @dT a kvs ea =>
    cases (show u = Value.ref a from rx);obtain ⟨_, _, xs, _, o, es, ep, h1, h2, _⟩ := (show ObjOk X.prog X.w H s.heap a (.dT kvs) from I.hok a _ ea);exact PySem.W.kia_one PySem.W.kitx_dict I.kIn ⟨o, h1, h2.1⟩ e (fun z => nomatch z) h
  | @ins a C dx fs ea cl ha hn htk hm =>
    cases (show u = Value.ref a from rx);obtain ⟨mA, O, _⟩ := ah I.hok ea;obtain ⟨od, J, _⟩ := O.look;exact PySem.W.kia_one (PySem.W.kitx_own (cl.get _) cl.hd ha hn htk hm) I.kIn J e (fun z => nomatch z) h
end
end L2
namespace L2
open PySem PySem.Spec PyProof.Rows
structure Room (k : Nat) (A : Around) : Prop where
  hd : A.handled = none
  dp : A.depth + 3 * k + 5 < recursionLimit
  un : A.units + 16 * k + 200 < cLine
theorem Room.mono {j k : Nat} {A : Around} (r : Room k A) (h : j <= k) : Room j A := ⟨r.hd, by have := r.dp; omega, by have := r.un; omega⟩
theorem Room.deeper {k : Nat} {A : Around} (r : Room (k + 1) A) (env : Env) : Room k (A.deeper env) :=
  ⟨r.hd, by have := r.dp; show A.depth + 1 + 3 * k + 5 < _; omega, by have := r.un; show A.units + 3 + 16 * k + 200 < _; omega⟩
theorem Room.in1 {k : Nat} {A : Around} (r : Room (k + 1) A) : Room k A.in1 :=
  ⟨r.hd, by have := r.dp; show A.depth + 3 * k + 5 < _; omega, by have := r.un; show A.units + 1 + 16 * k + 200 < _; omega⟩
theorem Room.depth {k : Nat} {A : Around} (r : Room k A) : A.depth < recursionLimit := by have := r.dp; omega
theorem Room.units {k : Nat} {A : Around} (r : Room k A) : A.units + 64 < cLine := by have := r.un; omega
def tNil : TA := fun _ H Q => Q [] H
def tCons (ta : TE) (tr : TA) : TA := fun σ H Q => ta σ H fun x H1 => tr σ H1 fun xs H2 => Q (x :: xs) H2
section
variable {X : Cx} {e : Expr} {es : List Expr} {te : TE} {t : TA} {pos : Pos}
theorem zc : PA X [] tNil := fun _ _ _ _ H Q I h => Calls.spliced_nil ⟨[], H, I, .nil, h⟩
theorem za (ha : PE X e te) (hr : PA X es t) (hs : starEach (e :: es) X.env = (false, eval e X.env) :: starEach es X.env := by rfl) : PA X (e :: es) (tCons te t) := by
  intro pos pins s σ H Q I h;rw [hs]
  show wpAny _ _ (spliced ((false, eval e X.env) :: backTo pos (starEach es X.env))) _ _ s
  refine Calls.spliced_cons (thn (ha pins s σ H _ I h) fun u s1 ⟨x, H1, I1, r1, q1⟩ => ?_);exact thn (hr pos pins s1 σ H1 _ I1 q1) fun us s2 ⟨xs, H2, I2, r2, q2⟩ => ⟨x :: xs, H2, I2, .cons r1 r2, q2⟩
def tTup (t : TA) : TE := fun σ H Q => t σ H fun xs H1 => xs.length <= sizeLine /\ ∀ p, H1 p = none -> Q (.ref p) (upd H1 p (.tup xs))
def tLst (t : TA) : TE := fun σ H Q => t σ H fun xs H1 => xs.length <= sizeLine /\ ∀ p, H1 p = none -> Q (.ref p) (upd H1 p (.lst xs))
theorem y9 {x1} (h : PA X es t) : PE X (.Tuple es x1 pos) (tTup t) := by
  intro pins s σ H Q I hq;refine wpAny_Tuple_spliced (thn (h pos pins s σ H _ I hq) fun us s1 ⟨xs, H1, I1, r, z, q⟩ => ⟨by rw [<- r.length]; exact z, ?_⟩);have hf : H1 s1.heap.objs.size = none := I1.hok.fresh (Zm _);refine ⟨.ref s1.heap.objs.size, upd H1 s1.heap.objs.size (.tup xs), I1.laid (t' := s1.toks) (fun b u e => Heap.get?_push_of_some _ e) (Zm _) ?_, rfl, q _ hf⟩;exact ⟨z, us, r, ⟨_, Heap.get?_push_size _ rfl, rfl, _, rfl, rfl⟩⟩
theorem yb (h : PA X es t) : PE X (.List es pos) (tLst t) := by
  intro pins s σ H Q I hq;refine wpAny_List_spliced (thn (h pos pins s σ H _ I hq) fun us s1 ⟨xs, H1, I1, r, z, q⟩ => ⟨by rw [<- r.length]; exact z, ?_⟩);have hf : H1 s1.heap.objs.size = none := I1.hok.fresh (Zm _);refine ⟨.ref s1.heap.objs.size, upd H1 s1.heap.objs.size (.lst xs), I1.laid (t' := s1.toks) (fun b u e => Heap.get?_push_of_some _ e) (Zm _) ?_, rfl, q _ hf⟩;exact ⟨z, us, 0, r, Heap.get?_push_size _ rfl⟩
end
abbrev Sp := List V -> Hp -> VK -> XK -> Prop
abbrev CXT := List Env -> Hp -> Shared -> XK -> Value -> Shared -> Prop
structure Env0 (P : Program) (w : World) (K : Fg) (mg : Str -> Option Value) (base : Heap) (A : Around) (outer : List Env) (s : Shared) (H : Hp) : Prop where
  frames : A.frames = some outer
  mod : Mod K mg base
  bs : ∀ b o, base.get? b = some o -> s.heap.get? b = some o /\ H b = none
  bsz : base.objs.size <= s.heap.objs.size
  funs : s.heap.FunFrames base outer
  frf : ∀ b ∈ frs outer, H b = none
  hok : HOk P w H s.heap
  bare : AllBare s.gens
def CE (outer : List Env) (P : Program) (w : World) (H : Hp) (s : Shared) (Q : VK) (u : Value) (s' : Shared) : Prop :=
  ∃ v H', s'.os = s.os /\ AllBare s'.gens /\ Un (frs outer) [] H H' s.heap s'.heap /\ HOk P w H' s'.heap /\ RelV v u /\ Q v H'
def CR (CX : CXT) (outer : List Env) (P : Program) (w : World) (H : Hp) (s : Shared) (Q : VK) (E : XK) (r : Result) (s' : Shared) : Prop :=
  match r with
  | .ok (.ret u) => CE outer P w H s Q u s'
  | .ok _ => False
  | .error e => CX outer H s E e s'
structure FnOk (P : Program) (w : World) (K : Fg) (mg : Str -> Option Value) (base : Heap) (CX : CXT) (k : Nat) (f : Addr) (fd : FuncData) (ps : List Str) (sp : Sp) : Prop where
  len : ∀ vs H Q E, sp vs H Q E -> vs.length = ps.length
  run : ∀ (A : Around) (outer : List Env) (s : Shared) (H : Hp) (args : Args) (us : List Value) (vs : List V) (Q : VK) (E : XK), Room k A -> Env0 P w K mg base A outer s H -> BindsTo s fd args (ps.zip us) -> Vals vs us -> sp vs H Q E ->
    codeAny (model P w) A (.call (.ref f) args) (CR CX outer P w H s Q E) s
theorem FnOk.mono {P : Program} {w : World} {K : Fg} {mg : Str -> Option Value} {base : Heap} {CX : CXT} {j k : Nat} {f : Addr} {fd : FuncData} {ps : List Str} {sp : Sp} (F : FnOk P w K mg base CX j f fd ps sp) (h : j <= k) :
    FnOk P w K mg base CX k f fd ps sp := ⟨F.len, fun A outer s H args us vs Q E hr => F.run A outer s H args us vs Q E (hr.mono h)⟩
theorem FnOk.imp {P : Program} {w : World} {K : Fg} {mg : Str -> Option Value} {base : Heap} {CX : CXT} {k : Nat} {f : Addr} {fd : FuncData} {ps : List Str} {sp sp' : Sp} (F : FnOk P w K mg base CX k f fd ps sp)
    (h : ∀ vs H Q E, sp' vs H Q E -> sp vs H Q E) : FnOk P w K mg base CX k f fd ps sp' :=
  ⟨fun vs H Q E q => F.len vs H Q E (h _ _ _ _ q), fun A outer s H args us vs Q E hr he hb hv hs => F.run A outer s H args us vs Q E hr he hb hv (h _ _ _ _ hs)⟩
theorem Env0.in1 {P : Program} {w : World} {K : Fg} {mg : Str -> Option Value} {base : Heap} {A : Around} {outer : List Env} {s : Shared} {H : Hp} (e : Env0 P w K mg base A outer s H) :
    Env0 P w K mg base A.in1 outer s H := ⟨e.frames, e.mod, e.bs, e.bsz, e.funs, e.frf, e.hok, e.bare⟩
section
variable {X : Cx} {pins : List (Addr × Obj)} {σ : St} {H : Hp} {s s' : Shared}
theorem Inv.env0 (I : Inv X pins σ H s) : Env0 X.prog X.w X.K X.mg X.base X.A X.stack s H :=
  ⟨I.ok.frames, I.ok.mod, I.bs, Zd I.ok.bsz I.sz, I.stack, I.stkFree, I.hok, I.bare⟩
theorem Inv.after {Q : VK} {u : Value} (I : Inv X pins σ H s) (h : CE X.stack X.prog X.w H s Q u s') : EP X pins σ Q u s' := by
  obtain ⟨v, H', os, bare, un, hok, r, q⟩ := h;obtain ⟨hh, g, d, t, os'⟩ := s';obtain rfl : os' = s.os := os;exact ⟨v, H', I.call (h' := hh) (g' := g) (d' := d) (t' := t) (ch := []) un hok bare (fun b z => absurd z (by simp)), r, q⟩
end
def g0 (sp : Sp) (dvs : List V) (E : XK) (t : TA) : TE := fun σ H Q => t σ H fun vs H1 => sp (vs ++ dvs) H1 Q E
def Binds (K : Fg) (fd : FuncData) (ps : List Str) (ds : List Value) : Prop :=
  ∀ (s : Shared) (us : List Value), K.In s.heap -> (us ++ ds).length = ps.length -> BindsTo s fd ⟨us, []⟩ (ps.zip (us ++ ds))
theorem Binds.all {K : Fg} {fd : FuncData} {ps : List Str} (h : ∀ us : List Value, us.length = ps.length -> bindArgs fd ⟨us, []⟩ = pure (ps.zip us)) : Binds K fd ps [] := fun s us _ hl => by
  rw [Ym] at hl ⊢;exact .of_eq (h us hl)
def kg (CX : CXT) (X : Cx) (E : XK) : Prop := ∀ (pins : List (Addr × Obj)) (σ : St) (H : Hp) (s : Shared) (e : Value) (s' : Shared), Inv X pins σ H s -> CX X.stack H s E e s' -> X.xe e s'
section
variable {X : Cx} {CX : CXT} {k : Nat} {f C : Addr} {fd : FuncData} {ps : List Str} {sp : Sp} {dvs : List V} {ds : List Value} {E : XK} {x m : Str} {p pos apos : Pos} {e o : Expr} {es : List Expr} {ta : TE} {t : TA}
theorem run_fn {pins : List (Addr × Obj)} {σ : St} {H : Hp} {s : Shared} {Q : VK} {us : List Value} {vs : List V} (F : FnOk X.prog X.w X.K X.mg X.base CX k f fd ps sp) (hr : Room k X.A) (hb : Binds X.K fd ps ds) (hd : Vals dvs ds) (hx : kg CX X E)
    (I : Inv X pins σ H s) (r : Vals vs us) (h : sp (vs ++ dvs) H Q E) : wpAny (model X.prog X.w) X.A (call (.ref f) us) (EP X pins σ Q) X.xe s := by
  have r2 : Vals (vs ++ dvs) (us ++ ds) := r.append hd;have hl : (us ++ ds).length = ps.length := by rw [<- r2.length]; exact F.len _ _ _ _ h
  refine wpAny_call (codeAny_mono (F.run X.A X.stack s H ⟨us, []⟩ (us ++ ds) (vs ++ dvs) Q E hr I.env0 (hb s us I.kIn hl) r2 h) fun r s' hq => ?_)
  cases r with
  | error e => exact hx pins σ H s e s' I hq
  | ok fl =>
    cases fl with
    | ret u => exact I.after hq
    | next => exact False.elim hq
    | brk => exact False.elim hq
    | cont => exact False.elim hq
theorem ax (F : FnOk X.prog X.w X.K X.mg X.base CX k f fd ps sp) (hr : Room k X.A) (hg : Gl X x) (hm : X.mg x = some (.ref f)) (hk : PySem.W.keepIn X.K (.ref f) = true) (hb : Binds X.K fd ps ds) (hd : Vals dvs ds) (hx : kg CX X E)
    (ha : PA X (e :: es) t) (hdb : (x == ("__debug__" : Str)) = false := by decide) (he : starEach (e :: es) X.env = (false, eval e X.env) :: starEach es X.env := by rfl) (hpl : (backTo pos (starEach es X.env)).any (·.1) = false := by rfl) :
    PE X (.Call (.Name x p) (e :: es) [] pos) (g0 sp dvs E t) := by
  intro pins s σ H Q I h;refine wpAny_Call_Name_kw (rc I hg hm ?_ hdb);refine PySem.W.callWith_K (h₀ := X.base) I.ok.mod.kin hk (thn (ha pos pins s σ H _ I h) fun us s1 ⟨vs, H1, I1, r, q⟩ => ⟨I1.kIn, ?_⟩) he hpl;exact run_fn F hr hb hd hx I1 r q
end
section
variable {X : Cx} {CX : CXT} {k : Nat} {f C : Addr} {fd : FuncData} {ps ks : List Str} {sp : Sp} {E : XK} {x m : Str} {p pos apos kpos : Pos} {e o : Expr} {es : List Expr} {kws : List Keyword} {te ta : TE} {t tk : TA} {nm : Option Str}
variable {g : List Value -> List Value -> List Value} {gV : List V -> List V -> List V}
end
structure yg (N P : List Str) (sc : Scope) : Prop where
  kind : sc.kind = .function
  co : sc.isCoroutine = false
  gen : sc.isGenerator = false
  nd : N.Nodup
  pre : N.take P.length = P
  par : ∀ x ∈ P, sc.names.lookup x = some .local \/ sc.names.lookup x = some .cell
  nofree : ∀ y ∈ sc.names, y.2 ≠ .free
theorem lh {kindOf : Str -> Option NameKind} {x : Str} : ∀ {binds : List (Str × Value)} {m : Str -> Option Value}, (∀ v, (x, v) ∉ binds) -> bindL kindOf binds m x = m x
  | [], _, _ => rfl
  | (n, v) :: r, m, h => by
    unfold bindL;rw [lh fun w hw => h w (Zv _ hw)]
    split
    . have : x ≠ n := by rintro rfl; exact h v Zz
      simp [this]
    . rfl
theorem lc {kindOf : Str -> Option NameKind} {x : Str} : ∀ {binds : List (Str × Value)} {m : Str -> Option Value}, (∀ v, (x, v) ∉ binds) -> bindC kindOf binds m x = m x
  | [], _, _ => rfl
  | (n, v) :: r, m, h => by
    unfold bindC;rw [lc fun w hw => h w (Zv _ hw)]
    split
    . rfl
    . have : x ≠ n := by rintro rfl; exact h v Zz
      simp [this]
theorem my {kindOf : Str -> Option NameKind} {x : Str} {v : Value} : ∀ {P : List Str} {vs : List Value} {i : Nat} {m : Str -> Option Value}, P.Nodup -> P[i]? = some x -> vs[i]? = some v -> kindOf x = some .local ->
    bindL kindOf (P.zip vs) m x = some v
  | [], _, _, _, _, h, _, _ => by simp at h
  | _ :: _, [], _, _, _, _, h, _ => by simp at h
  | p :: P, w :: vs, 0, m, nd, h1, h2, hk => by
    simp at h1 h2; subst h1; subst h2
    show bindL kindOf ((p, w) :: P.zip vs) m p = _
    unfold bindL;rw [lh fun v hv => (ZS.mp nd).1 (YB hv).1, if_pos hk];simp
  | p :: P, w :: vs, i + 1, m, nd, h1, h2, hk => by
    show bindL kindOf ((p, w) :: P.zip vs) m x = _
    unfold bindL;exact my (i := i) (ZS.mp nd).2 (by simpa using h1) (by simpa using h2) hk
theorem m4 {kindOf : Str -> Option NameKind} {x : Str} {v : Value} : ∀ {P : List Str} {vs : List Value} {i : Nat} {m : Str -> Option Value}, P.Nodup -> P[i]? = some x -> vs[i]? = some v -> kindOf x ≠ some .local ->
    bindC kindOf (P.zip vs) m x = some v
  | [], _, _, _, _, h, _, _ => by simp at h
  | _ :: _, [], _, _, _, _, h, _ => by simp at h
  | p :: P, w :: vs, 0, m, nd, h1, h2, hk => by
    simp at h1 h2; subst h1; subst h2
    show bindC kindOf ((p, w) :: P.zip vs) m p = _
    unfold bindC;rw [lc fun v hv => (ZS.mp nd).1 (YB hv).1, if_neg hk];simp
  | p :: P, w :: vs, i + 1, m, nd, h1, h2, hk => by
    show bindC kindOf ((p, w) :: P.zip vs) m x = _
    unfold bindC;exact m4 (i := i) (ZS.mp nd).2 (by simpa using h1) (by simpa using h2) hk
def start (N : List Str) (vs : List V) : St := vs.map some ++ List.replicate (N.length - vs.length) none
def cxOf (CX : CXT) (P : Program) (w : World) (K : Fg) (mg : Str -> Option Value) (base : Heap) (N : List Str) (qual : Str) (scope : Scope) (f : Addr) (cd : Value) (A : Around) (outer : List Env) (s : Shared) (H : Hp) (E : XK) : Cx where
  prog := P
  w := w
  K := K
  mg := mg
  base := base
  A := A.deeper (envOfC qual scope s.heap.objs.size f cd)
  N := N
  s₀ := s
  H₀ := H
  env := envOfC qual scope s.heap.objs.size f cd
  outer := outer
  stack := envOfC qual scope s.heap.objs.size f cd :: outer
  ex := []
  calm := true
  fn := fun _ => true
  pn := []
  xe := fun e s' => wpAny (model P w) (A.deeper (envOfC qual scope s.heap.objs.size f cd)) (leaving (envOfC qual scope s.heap.objs.size f cd) e) (fun _ s'' => CX outer H s E e s'') (fun e' s'' => CX outer H s E e' s'') s'
theorem jn {sc : Scope} {n : Nat} {x : Str} (h : sc.names.lookup x = some .cell) : ∃ c, (cellsFrom n sc.names []).lookup x = some c := by
  have q := PySem.W.cellsFrom_some sc.names n [] (.inl h);exact Option.isSome_iff_exists.mp q
theorem e8 {CX : CXT} {P : Program} {w : World} {K : Fg} {mg : Str -> Option Value} {base : Heap} {N ps : List Str} {qual : Str} {scope : Scope} {f : Addr} {cd : Value} {A : Around} {outer : List Env} {s s1 : Shared} {H : Hp} {E : XK} {us : List Value} {vs : List V}
    (S : yg N ps scope) (hd : A.handled = none) (e0 : Env0 P w K mg base A outer s H) (hl : vs.length = ps.length) (r : Vals vs us)
    (x : InCallC s s.heap.objs.size (bindL (envOfC qual scope s.heap.objs.size f cd).kindOf (ps.zip us) fun _ => none) (cellsFrom (s.heap.objs.size + 1) scope.names []) (bindC (envOfC qual scope s.heap.objs.size f cd).kindOf (ps.zip us) fun _ => none) s1) :
    Inv (cxOf CX P w K mg base N qual scope f cd A outer s H E) [] (start N vs) H s1 := by
  have hpl : ps.length <= N.length := by have := congrArg List.length S.pre; rw [Zj] at this; omega
  obtain ⟨h1, tk, rfl, hk⟩ := x.done;have noA : ∀ b : Addr, b ∉ (cxOf CX P w K mg base N qual scope f cd A outer s H E).ex := fun b z => absurd (show b ∈ ([] : List Addr) from z) (by simp)
  refine ⟨⟨e0.mod, S.kind, rfl, rfl, Zm _, fun y z c h1 h2 => ?_, fun y hy => ?_, fun y c _ h => ?_, fun _ => hd, Around.frames_deeper e0.frames, .inr ⟨rfl, rfl⟩, fun b z => absurd z (noA b), e0.bs, e0.bsz, fun b _ _ => noA b, fun b z => absurd z (noA b), e0.funs, e0.frf⟩,
    rfl, e0.bare, Un.kept hk, ⟨_, x.toInCall.ns, fun i y v h1 h2 h3 => ?_⟩, fun y c h => ⟨_, x.cell y c h⟩, e0.hok.fresh (Zm _), fun y c h => ?_, fun p hp => absurd (show p ∈ ([] : List (Addr × Obj)) from hp) (by simp), e0.hok.kept hk, ?_⟩
  . exact name_of_addr x.apart (PySem.mem_of_lookup h1) (PySem.mem_of_lookup h2)
  . have hy : scope.names.lookup y = some .cell \/ scope.names.lookup y = some .free := hy
    rcases hy with hy | hy
    . exact jn hy
    . exact absurd rfl (S.nofree _ (PySem.mem_of_lookup hy))
  . exact Nat.le_of_lt (x.above y c (PySem.mem_of_lookup h))
  . have hi : i < vs.length := by
      unfold start at h2
      by_cases hi : i < vs.length
      . exact hi
      . rw [Zf (by simpa using hi)] at h2
        rw [Yn] at h2
        split at h2 <;> cases h2
    have ha : vs[i]? = some v := by
      unfold start at h2;rw [Zg (by simpa using hi), Ze] at h2
      cases e : vs[i]? with
      | none => rw [e] at h2; cases h2
      | some a => rw [e] at h2; cases h2; rfl
    obtain ⟨u, hu, rv⟩ := r.get ha
    have hp : ps[i]? = some y := by
      rw [<- S.pre, List.getElem?_take_of_lt (by omega)]; exact h1
    have ndP : ps.Nodup := by rw [<- S.pre]; exact S.nd.sublist (List.take_sublist _ _)
    refine ⟨u, rv, ?_⟩
    rcases S.par y (Zi hp) with k | k
    . exact .inl ⟨k, my ndP hp hu k⟩
    . obtain ⟨c, e⟩ := jn (n := s.heap.objs.size + 1) k
      refine .inr ⟨.inl k, c, e, ?_⟩;have q := x.cell y c e;rw [m4 ndP hp hu (by show scope.names.lookup y ≠ _; rw [k]; decide)] at q;exact q
  . exact e0.hok.fresh (Nat.le_of_lt (x.above y c (PySem.mem_of_lookup h)))
  . unfold start
    show _ = N.length
    rw [Zo, Za, ZG];omega
theorem fn_of {CX : CXT} {P : Program} {w : World} {K : Fg} {mg : Str -> Option Value} {base : Heap} {k : Nat} {f : Addr} {name qual : Str} {params : Arguments} {body : List Stmt} {scope : Scope} {dV kV doc pm cdv ct oc : Value} {an od : Option Addr}
    {osl : Array (Option Value)} {N ps : List Str} {sp : Sp} (lk : K.lookup f = some ⟨oc, od, .func (PySem.W.fnOf name qual params body scope dV kV doc pm an cdv ct), osl⟩) (hcd : PySem.W.codeIn K cdv qual = true) (S : yg N ps scope)
    (len : ∀ vs H Q E, sp vs H Q E -> vs.length = ps.length)
    (hbody : ∀ (A : Around) (outer : List Env) (s : Shared) (H : Hp) (vs : List V) (Q : VK) (E : XK), Room k (A.deeper (envOfC qual scope s.heap.objs.size f cdv)) -> sp vs H Q E ->
      ∃ t, PSs (cxOf CX P w K mg base N qual scope f cdv A outer s H E) body t /\ t { nx := fun _ H' => Q .non H', rt := Q } (start N vs) H) :
    FnOk P w K mg base CX (k + 1) f (PySem.W.fnOf name qual params body scope dV kV doc pm an cdv ct) ps sp := by
  refine ⟨len, fun A outer s H args us vs Q E hr e0 hb r hsp => ?_⟩;have hl := len _ _ _ _ hsp;have KX : K.In s.heap := e0.mod.kin.keeps fun b o e => (e0.bs b o e).1
  have lim : s.heap.NoLimit := e0.mod.nolimit.keeps fun b o e => (e0.bs b o e).1
  have hkind : ∀ y ∈ ps.zip us, scope.names.lookup y.1 = some .local \/ (scope.names.lookup y.1 = some .cell /\ ((cellsFrom (s.heap.objs.size + 1) scope.names []).lookup y.1).isSome = true) := fun ⟨n, v⟩ hy => by
    rcases S.par n (YB hy).1 with q | q
    . exact .inl q
    . exact .inr ⟨q, PySem.W.cellsFrom_some _ _ _ (.inl q)⟩
  refine codeAny_call_function hr.depth (KX _ _ lk) rfl S.co S.gen rfl (PySem.W.codeRec_of KX hcd) (hb _ _ _ _ ?_);refine wpAny_newFunctionEnv_cells S.kind hkind fun env he s1 x => ?_
  subst he;refine ⟨lim.keeps x.toInCall.keep, codeAny_func ?_⟩;obtain ⟨t, ht, hq⟩ := hbody A outer s H vs Q E (hr.deeper _) hsp;have I : Inv (cxOf CX P w K mg base N qual scope f cdv A outer s H E) [] (start N vs) H s1 := e8 S hr.hd e0 hl r x;refine wpAny_mono (ht [] s1 (start N vs) H _ I hq) (fun fl s' hs => ?_) fun e s' hs => hs
  have fin : ∀ {σ' : St} {H' : Hp} {v : V} {u : Value}, Inv (cxOf CX P w K mg base N qual scope f cdv A outer s H E) [] σ' H' s' -> RelV v u -> Q v H' -> CE outer P w H s Q u s' :=
    fun {σ' H' v u} J rv q => ⟨v, H', J.os, J.bare, J.base, J.hok, rv, q⟩
  cases fl with
  | ret u =>
    obtain ⟨v, σ', H', J, rv, q⟩ := hs;exact fin J rv q
  | next =>
    obtain ⟨σ', H', J, q⟩ := hs;exact fin (v := V.non) (u := Value.none) J rfl q
  | brk =>
    obtain ⟨_, _, _, q⟩ := hs;exact False.elim q
  | cont =>
    obtain ⟨_, _, _, q⟩ := hs;exact False.elim q
end L2
namespace L2
open PySem PySem.Spec PyProof.Rows
section
variable {X : Cx} {x : Str} {p pos : Pos} {e : Expr} {es : List Expr} {t : TA} {id T : String} {r : List V -> Hp -> VK -> Prop}
def tCB (r : List V -> Hp -> VK -> Prop) (t : TA) : TE := fun σ H Q => t σ H fun vs H1 => r vs H1 Q
theorem zo (hc : CallR X (.builtin id) r) (hg : Gl X x) (hm : X.mg x = none) (hv : bootBuiltins x = some (.builtin id)) (ha : PA X (e :: es) t) (hn : x ≠ "__name__" := by decide) (hdb : (x == ("__debug__" : Str)) = false := by decide)
    (he : starEach (e :: es) X.env = (false, eval e X.env) :: starEach es X.env := by rfl) (hpl : (backTo pos (starEach es X.env)).any (·.1) = false := by rfl) : PE X (.Call (.Name x p) (e :: es) [] pos) (tCB r t) := by
  intro pins s σ H Q I h;refine wpAny_Call_Name_kw (rf I hg hm hv ?_ hn hdb);exact PyProof.Rows.callWith_builtin1 (thn (ha pos pins s σ H _ I h) fun us s1 ⟨vs, H1, I1, r1, q1⟩ => hc pins s1 σ H1 vs us Q I1 r1 q1) he hpl
theorem y4 (hc : CallR X (.type T) r) (hg : Gl X x) (hm : X.mg x = none) (hv : bootBuiltins x = some (.type T)) (ha : PA X (e :: es) t) (hn : x ≠ "__name__" := by decide) (hdb : (x == ("__debug__" : Str)) = false := by decide)
    (he : starEach (e :: es) X.env = (false, eval e X.env) :: starEach es X.env := by rfl) (hpl : (backTo pos (starEach es X.env)).any (·.1) = false := by rfl) : PE X (.Call (.Name x p) (e :: es) [] pos) (tCB r t) := by
  intro pins s σ H Q I h;refine wpAny_Call_Name_kw (rf I hg hm hv ?_ hn hdb);exact PyProof.Rows.callWith_type1 (thn (ha pos pins s σ H _ I h) fun us s1 ⟨vs, H1, I1, r1, q1⟩ => hc pins s1 σ H1 vs us Q I1 r1 q1) he hpl
end
end L2
namespace HT
open PySem PyProof.Rows
section
open PySem.SeqAt
open PySem.AutoSeq1 (wpAny_loadPart')
open PySem.MeetsSeq PySem.MeetsSeq2 PySem.MeetsSeq3
end
section
variable {prog : Program} {w : World} {A : Around} {E : Value -> Shared -> Prop} {s : Shared}
theorem cat_tup {t b : Addr} {vs ws : List Value} {Q : Value -> Shared -> Prop} (ht : IsTup s.heap t vs.toArray) (hb : IsTup s.heap b ws.toArray) (hv : vs ≠ [])
    (h1 : ws = [] -> Q (.ref t) s) (h2 : ws ≠ [] -> Q (.ref s.heap.objs.size) { s with heap := s.heap.push { cls := .type "tuple", data := .seq (vs ++ ws).toArray } })
    (hsz : vs.length + ws.length <= sizeLine) : wpAny (model prog w) A (binaryOp .Add (.ref t) (.ref b)) Q E s := by
  obtain ⟨⟨cls, dd, data, sl⟩, ho, hc, n, hd⟩ := id ht;obtain ⟨⟨cls2, dd2, data2, sl2⟩, ho2, hc2, n2, hd2⟩ := id hb;simp only at hc hd hc2 hd2;subst hc hd hc2 hd2;have e : vs.toArray ++ ws.toArray = (vs ++ ws).toArray := by simp
  by_cases hw : ws = []
  . exact concat_meets ⟨_, ho, rfl⟩ ⟨_, ho2, rfl⟩ noFill_tuple_add seq_tuple_add PySem.F.slot_tuple_add PySem.F.entry_tuple_add (PySem.F.args_tuple_add_2 _ _)
      (tuple_addW1 t b vs.toArray ws.toArray n n2 dd dd2 sl sl2 (by simpa using hv) (by simp [hw])) ⟨ho, ho2, h1 hw⟩
  . refine concat_meets ⟨_, ho, rfl⟩ ⟨_, ho2, rfl⟩ noFill_tuple_add seq_tuple_add PySem.F.slot_tuple_add PySem.F.entry_tuple_add (PySem.F.args_tuple_add_2 _ _)
      (tuple_addW2 t b vs.toArray ws.toArray n n2 dd dd2 sl sl2 (by simpa using hv) (by simpa using hw) (by rw [Zr, Zr]; exact hsz)) ⟨ho, ho2, ?_⟩
    rw [e];exact h2 hw
def sIx (n d : Nat) : Option Int -> Nat
  | none => d
  | some v => if v < 0 then (v + (n : Int)).toNat else min v.toNat n
theorem sIx_none (n d : Nat) : sIx n d none = d := rfl
theorem sIx_nat (n d k : Nat) : sIx n d (some (k : Int)) = min k n := by
  show (if (k : Int) < 0 then ((k : Int) + (n : Int)).toNat else min (k : Int).toNat n) = min k n
  rw [if_neg (by omega), Zw]
theorem sIx_le (n d : Nat) (hd : d <= n) (o : Option Int) : sIx n d o <= n := by
  cases o with
  | none => exact hd
  | some v =>
    show (if v < 0 then (v + (n : Int)).toNat else min v.toNat n) <= n
    by_cases hv : v < 0
    . rw [if_pos hv]; omega
    . rw [if_neg hv]; exact ZA _ _
theorem j8 (v : Int) (n d : Nat) : (if v < 0 then max (v + (n : Int)) 0 else min v (n : Int)) = ((sIx n d (some v) : Nat) : Int) := by
  show (if v < 0 then max (v + (n : Int)) 0 else min v (n : Int)) = (((if v < 0 then (v + (n : Int)).toNat else min v.toNat n) : Nat) : Int)
  by_cases hv : v < 0
  . simp only [if_pos hv]; omega
  . simp only [if_neg hv]; omega
theorem gu (lo hi : Option Int) (n : Nat) : Builtin.Slice.sliceAdjust lo hi 1 (n : Int) = (((sIx n 0 lo : Nat) : Int), ((sIx n n hi : Nat) : Int)) := by
  have h1 : ¬ ((1 : Int) < 0) := by omega
  unfold Builtin.Slice.sliceAdjust;simp only [h1, if_false];refine Prod.ext ?_ ?_
  . cases lo with
    | none => rfl
    | some v => exact j8 v n 0
  . cases hi with
    | none => rfl
    | some v => exact j8 v n n
theorem gi (i j : Nat) : Builtin.Slice.slicePlaces (i : Int) (j : Int) 1 = j - i := by
  unfold Builtin.Slice.slicePlaces;have h1 : (1 : Int) > 0 := by omega
  simp only [h1, if_true, Int.ediv_one]
  split <;> omega
theorem nj {v : Value} {o : Option Int} {Q : Option Int -> Shared -> Prop} (p : IsPart v o) (h : Q o s) : wpAny (model prog w) A (Builtin.Slice.slicePartIndex v) Q E s := by
  cases p with
  | none => exact slicePart_none h
  | int i t => exact slicePart_int h
theorem sd {sl : Addr} {vl vu : Value} {lo hi : Option Int} {n : Nat} {Q : Int × Int × Nat -> Shared -> Prop} (hs : s.heap.IsSliceOf sl vl vu .none) (pl : IsPart vl lo) (pu : IsPart vu hi)
    (h : Q (((sIx n 0 lo : Nat) : Int), 1, sIx n n hi - sIx n 0 lo) s) : wpAny (model prog w) A (Builtin.Slice.sliceApplied (.ref sl) (pure (n : Int))) Q E s := by
  obtain ⟨os, hos, hcs, hds⟩ := id hs;unfold Builtin.Slice.sliceApplied Builtin.Slice.sliceFields;refine wpAny_bind (wpAny_bind (wpAny_field hos hds (x := vl) rfl (wpAny_bind (wpAny_field hos hds (x := vu) rfl (wpAny_bind (wpAny_field hos hds (x := .none) rfl (wpAny_pure ?_)))))));refine wpAny_bind (slicePart_none ?_)
  show wpAny _ _ (if ((1 : Int) == 0) = true then _ else _) _ _ s
  rw [if_neg (by decide)];refine wpAny_bind (nj pl (wpAny_bind (nj pu (wpAny_bind (wpAny_pure ?_)))))
  show wpAny _ _ (match Builtin.Slice.sliceAdjust lo hi 1 (n : Int) with | (lo, hi) => pure (lo, (1 : Int), Builtin.Slice.slicePlaces lo hi 1)) _ _ s
  rw [gu lo hi n]
  show wpAny _ _ (pure (((sIx n 0 lo : Nat) : Int), (1 : Int), Builtin.Slice.slicePlaces ((sIx n 0 lo : Nat) : Int) ((sIx n n hi : Nat) : Int) 1)) _ _ s
  rw [gi];exact wpAny_pure h
theorem ck (xs : Array Value) (i k : Nat) : ((List.range k).filterMap fun (m : Nat) => xs[((i : Int) + (m : Int) * 1).toNat]?).toArray = ((xs.toList.drop i).take k).toArray := by
  have e : (fun (m : Nat) => xs[((i : Int) + (m : Int) * 1).toNat]?) = fun m => xs[i + m]? := by
    funext m
    have : ((i : Int) + (m : Int) * 1).toNat = i + m := by omega
    rw [this]
  rw [e];have := pick_run xs i k;rw [List.filterMap_map] at this;have e2 : ((fun x => xs[x]?) ∘ fun x => i + x) = fun m => xs[i + m]? := rfl
  rw [e2] at this;rw [this]
theorem getItem_tuple_cut {t sl : Addr} {items : Array Value} {vl vu : Value} {lo hi : Option Int} {Q : Value -> Shared -> Prop} (ht : IsTup s.heap t items) (hs : s.heap.IsSliceOf sl vl vu .none) (pl : IsPart vl lo) (pu : IsPart vu hi)
    (hw : ¬ (sIx items.size 0 lo = 0 /\ sIx items.size items.size hi = items.size))
    (h : Q (.ref s.heap.objs.size) { s with heap := s.heap.push { cls := .type "tuple", data := .seq ((items.toList.drop (sIx items.size 0 lo)).take (sIx items.size items.size hi - sIx items.size 0 lo)).toArray } })
    (hsz : items.size <= sizeLine) : wpAny (model prog w) A (getItem (.ref t) (.ref sl)) Q E s := by
  have htake : sizeOk (.seq ((items.toList.drop (sIx items.size 0 lo)).take (sIx items.size items.size hi - sIx items.size 0 lo)).toArray) := by
    show ((items.toList.drop (sIx items.size 0 lo)).take (sIx items.size items.size hi - sIx items.size 0 lo)).toArray.size <= sizeLine
    rw [Zr, Zj, ZN, Yu];omega
  have hj : sIx items.size items.size hi <= items.size := sIx_le _ _ (Zm _) hi;obtain ⟨os, hos, hcs, hds⟩ := id hs;have hTs : s.TypeIs (.ref sl) "slice" := ⟨os, hos, hcs⟩;unfold getItem
  try with_reducible refine wpAny_holding ?_
  first | refine wpAny_bind (wpAny_pure ?_) | skip
  refine wpAny_bind (wpAny_sequenceKey ht.typeIs (by decide) ?_)
  refine wpAny_bind (wpAny_callSpecial?_slot (name := Str.ofString "__getitem__") ht.typeIs PyProof.Rows.slot_tuple_getitem
    (wpAny_call_entry PyProof.Rows.slot_tuple_getitem ht.typeIs entry_tuple_getitem ?_ (args_tuple_getitem _ _)))
  show wpAny _ _ (Builtin.Tuple.tupleItemsOf (.ref t) >>= _) _ _ s
  refine wpAny_bind (tupleItemsOf_ ht ?_);refine wpAny_bind (wpAny_typeOf hTs ?_);rw [if_pos (by decide)];refine wpAny_bind (sd hs pl pu ?_)
  have hno : ¬ ((((sIx items.size 0 lo : Nat) : Int) == 0 && (1 : Int) == 1 && (sIx items.size items.size hi - sIx items.size 0 lo) == items.size) = true) := by
    intro q;rw [Bool.and_eq_true, Bool.and_eq_true] at q;have q1 : ((sIx items.size 0 lo : Nat) : Int) = 0 := eq_of_beq q.1.1;have q2 : sIx items.size items.size hi - sIx items.size 0 lo = items.size := eq_of_beq q.2;exact hw ⟨by omega, by omega⟩
  show wpAny _ _ (if (((sIx items.size 0 lo : Nat) : Int) == 0 && (1 : Int) == 1 && (sIx items.size items.size hi - sIx items.size 0 lo) == items.size) = true then _ else _) _ _ s
  rw [if_neg hno, ck]
  first
    | exact wpAny_bind (m := Builtin.Tuple.tupleExact _) (wpAny_newObj_type (wpAny_pure ⟨_, rfl, wpAny_pure h⟩) htake)
    | exact wpAny_bind (m := Builtin.Tuple.tupleExact _) (wpAny_newObj_type (wpAny_bind (wpAny_pure (wpAny_pure ⟨_, rfl, wpAny_pure h⟩))) htake)
    | exact wpAny_bind (wpAny_bind (m := Builtin.Tuple.tupleExact _) (wpAny_newObj_type (wpAny_pure (wpAny_pure ⟨_, rfl, wpAny_pure h⟩)) htake))
    | exact wpAny_bind (wpAny_bind (m := Builtin.Tuple.tupleExact _) (wpAny_newObj_type (wpAny_pure ⟨_, rfl, wpAny_pure h⟩) htake))
end
end HT
namespace L2
open PySem PySem.Spec PyProof.Rows
abbrev TO := St -> Hp -> (Option Int -> Hp -> Prop) -> Prop
def PO (X : Cx) (e : Option Expr) (t : TO) : Prop :=
  ∀ (pins : List (Addr × Obj)) (s : Shared) (σ : St) (H : Hp) (Q : Option Int -> Hp -> Prop), Inv X pins σ H s -> t σ H Q ->
    wpAny (model X.prog X.w) X.A (evalPart e X.env) (fun u s' => ∃ o H', Inv X pins σ H' s' /\ IsPart u o /\ Q o H') X.xe s
def j3 : TO := fun _ H Q => Q none H
def tPart (t : TE) : TO := fun σ H Q => t σ H fun x H1 => ∃ i, x = .int i /\ Q (some i) H1
section
variable {X : Cx} {e : Expr} {te : TE} {lo hi : Option Expr} {tl th : TO} {pos p2 : Pos}
theorem yw : PO X none j3 := by
  intro pins s σ H Q I h;rw [evalPart_none];exact wpAny_pure ⟨none, H, I, .none, h⟩
theorem yv (h : PE X e te) : PO X (some e) (tPart te) := by
  intro pins s σ H Q I hw;rw [evalPart_some];refine thn (h pins s σ H _ I hw) fun u s1 ⟨x, H1, I1, r1, q1⟩ => ?_
  obtain ⟨i, rfl, q⟩ := q1;obtain ⟨t, rfl⟩ := r1;exact ⟨some i, H1, I1, .int i t, q⟩
def SlR (X : Cx) (r : V -> Option Int -> Option Int -> Hp -> VK -> Prop) : Prop :=
  ∀ (pins : List (Addr × Obj)) (s : Shared) (σ : St) (H : Hp) (x : V) (v vl vu : Value) (lo hi : Option Int) (sl : Addr) (Q : VK), Inv X pins σ H s -> RelV x v -> s.heap.IsSliceOf sl vl vu .none -> IsPart vl lo -> IsPart vu hi -> r x lo hi H Q ->
    ∃ T id, typeLookup (.type T) "__getitem__" = pure (some (.builtin id)) /\ s.TypeIs v T /\ wpAny (model X.prog X.w) X.A (getItem v (.ref sl)) (EP X pins σ Q) X.xe s
theorem SlR.or {r r' : V -> Option Int -> Option Int -> Hp -> VK -> Prop} (h : SlR X r) (h' : SlR X r') : SlR X (fun x lo hi H Q => r x lo hi H Q \/ r' x lo hi H Q) := by
  intro pins s σ H x v vl vu lo hi sl Q I rx hs pl pu q
  rcases q with q | q
  . exact h pins s σ H x v vl vu lo hi sl Q I rx hs pl pu q
  . exact h' pins s σ H x v vl vu lo hi sl Q I rx hs pl pu q
def tSl (r : V -> Option Int -> Option Int -> Hp -> VK -> Prop) (te : TE) (tl th : TO) : TE := fun σ H Q => te σ H fun x H1 => tl σ H1 fun l H2 => th σ H2 fun u H3 => r x l u H3 Q
theorem ym {r : V -> Option Int -> Option Int -> Hp -> VK -> Prop} (hr : SlR X r) (he : PE X e te) (hl : PO X lo tl) (hu : PO X hi th) : PE X (.Subscript e (.Slice lo hi none p2) pos) (tSl r te tl th) := by
  intro pins s σ H Q I h;refine Subscript_ (thn (he pins s σ H _ I h) fun v s1 ⟨x, H1, I1, r1, q1⟩ => ?_);refine wpAny_Slice (thn (hl pins s1 σ H1 _ I1 q1) fun vl s2 ⟨l, H2, I2, pl, q2⟩ => thn (hu pins s2 σ H2 _ I2 q2) fun vu s3 ⟨u, H3, I3, pu, q3⟩ => ?_);rw [evalPart_none];refine wpAny_pure ?_;have I4 : Inv X pins σ H3 { s3 with heap := s3.heap.push { cls := .type "slice", data := .fields #[vl, vu, .none] } } := I3.kept (t' := s3.toks) fun b ob q => Heap.get?_push_of_some _ q
  obtain ⟨T, id, hT, ht, hg⟩ := hr pins { s3 with heap := s3.heap.push { cls := .type "slice", data := .fields #[vl, vu, .none] } } σ H3 x v vl vu l u s3.heap.objs.size Q I4 r1 (Heap.IsSliceOf.new ..) pl pu q3
  show wpAny (model X.prog X.w) X.A (subscriptTail e (.Slice lo hi none p2) v (.ref s3.heap.objs.size)) (EP X pins σ Q) X.xe { s3 with heap := s3.heap.push { cls := .type "slice", data := .fields #[vl, vu, .none] } }
  exact tail_any (ops := [.ref s3.heap.objs.size, v]) ht hT hg (by with_unfolding_all rfl)
def cutV (xs : List V) (lo hi : Option Int) : List V := (xs.drop (HT.sIx xs.length 0 lo)).take (HT.sIx xs.length xs.length hi - HT.sIx xs.length 0 lo)
theorem pc (xs : List V) (lo hi : Option Int) : (cutV xs lo hi).length <= xs.length := by
  unfold cutV;rw [Zj, ZN];omega
def rSlT (K : Fg) : V -> Option Int -> Option Int -> Hp -> VK -> Prop := fun x lo hi H Q => ∃ a xs, x = .ref a /\ SqT K H a xs /\
  ¬ (HT.sIx xs.length 0 lo = 0 /\ HT.sIx xs.length xs.length hi = xs.length) /\ ∀ p, H p = none -> Q (.ref p) (upd H p (.tup (cutV xs lo hi)))
theorem sl_tup : SlR X (rSlT X.K) := by
  intro pins s σ H x v vl vu lo hi sl Q I rx hs pl pu h;obtain ⟨a, xs, rfl, hx, hw, q⟩ := h;cases rx;obtain ⟨its, r, ht, hz⟩ := I.tuple hx;have hlen : its.toArray.size = xs.length := by rw [Zr]; exact r.length.symm
  refine ⟨"tuple", _, PyProof.Rows.slot_tuple_getitem.lookup, ht.typeIs, ?_⟩;refine HT.getItem_tuple_cut ht hs pl pu (by rw [hlen]; exact hw) ?_ (by rw [hlen]; exact hz);rw [hlen];refine ⟨.ref s.heap.objs.size, _, I.laid (t' := s.toks) (o := .tup (cutV xs lo hi)) (fun b ob q => Heap.get?_push_of_some _ q) (Zm _) ?_, rfl, q _ (I.hok.fresh (Zm _))⟩;exact ⟨Zd (pc xs lo hi) hz, _, (r.drop (HT.sIx xs.length 0 lo)).take (HT.sIx xs.length xs.length hi - HT.sIx xs.length 0 lo), IsTupD.new _ _⟩
def rCatT (K : Fg) : R2 := fun x y H Q => ∃ a b xs ys, x = .ref a /\ y = .ref b /\ SqT K H a xs /\ SqT K H b ys /\ xs ≠ [] /\ xs.length + ys.length <= sizeLine /\
  (ys = [] -> Q (.ref a) H) /\ (ys ≠ [] -> ∀ p, H p = none -> Q (.ref p) (upd H p (.tup (xs ++ ys))))
theorem Vals.nil_iff {xs : List V} {us : List Value} (r : Vals xs us) : us = [] ↔ xs = [] := by
  cases r with
  | nil => simp
  | cons _ _ => simp
theorem bx : OpR X (binaryOp .Add) (rCatT X.K) := by
  intro pins s σ H x y v u Q I rx ry h;obtain ⟨a, b, xs, ys, rfl, rfl, ha, hb, hx, hz, q1, q2⟩ := h;cases rx;cases ry;obtain ⟨its, r1, p1, _⟩ := I.tuple ha;obtain ⟨its2, r2, p2, _⟩ := I.tuple hb;refine HT.cat_tup p1 p2 (fun z => hx (r1.nil_iff.mp z)) (fun z => ⟨.ref a, H, I, rfl, q1 (r2.nil_iff.mp z)⟩) (fun z => ?_) (by rw [<- r1.length, <- r2.length]; exact hz);refine ⟨.ref s.heap.objs.size, _, I.laid (t' := s.toks) (o := .tup (xs ++ ys)) (fun b ob q => Heap.get?_push_of_some _ q) (Zm _) ?_, rfl, q2 (fun w => z (r2.nil_iff.mpr w)) _ (I.hok.fresh (Zm _))⟩;exact ⟨by rw [Zo]; exact hz, _, r1.append r2, IsTupD.new _ _⟩
end
end L2
namespace L2
open PySem PySem.Spec PyProof.Rows
def ixN (n : Nat) (i : Int) : Option Nat := if 0 <= i then (if i < n then some i.toNat else none) else if -(n : Int) <= i then some (i + n).toNat else none
def atI {α : Type} (xs : List α) (i : Int) : Option α := (ixN xs.length i).bind fun j => xs[j]?
theorem ad {n : Nat} {i : Int} {j : Nat} (h : ixN n i = some j) : seqIndex? i n = some j /\ j < n /\ -(n : Int) <= i /\ i < n := by
  unfold ixN at h
  by_cases h0 : 0 <= i
  . rw [if_pos h0] at h
    by_cases h1 : i < n
    . rw [if_pos h1] at h
      have e : i.toNat = j := Option.some.inj h;exact ⟨by rw [seqIndex_of h0 h1, e], by omega, by omega, h1⟩
    . rw [if_neg h1] at h; cases h
  . rw [if_neg h0] at h
    by_cases h1 : -(n : Int) <= i
    . rw [if_pos h1] at h
      have e : (i + n).toNat = j := Option.some.inj h;exact ⟨by rw [seqIndex_neg (by omega) h1, e], by omega, h1, by omega⟩
    . rw [if_neg h1] at h; cases h
theorem mq {α : Type} {xs : List α} {i : Int} {v : α} (h : atI xs i = some v) : ∃ j, seqIndex? i xs.length = some j /\ xs[j]? = some v /\ j < xs.length /\ -(xs.length : Int) <= i /\ i < xs.length := by
  unfold atI at h
  cases e : ixN xs.length i with
  | none => rw [e] at h; cases h
  | some j =>
    rw [e] at h;obtain ⟨h1, h2, h3, h4⟩ := ad e;exact ⟨j, h1, h, h2, h3, h4⟩
theorem zj {α : Type} {xs : List α} {j : Nat} {v : α} (h : xs[j]? = some v) : atI xs (j : Int) = some v := by
  have hj : j < xs.length := (Zc.mp h).1
  have e : ixN xs.length (j : Int) = some j := by
    unfold ixN;rw [if_pos (by omega), if_pos (by omega)]; simp
  unfold atI; rw [e]; exact h
def zaa (b : Expr) : Prop := ∀ o i, subscripted b false o i = operate [o, i] (getItem o i)
def IxR (X : Cx) (r : R2) : Prop :=
  ∀ (value slice : Expr) (pins : List (Addr × Obj)) (s : Shared) (σ : St) (H : Hp) (x y : V) (v u : Value) (Q : VK), Inv X pins σ H s -> RelV x v -> RelV y u -> r x y H Q ->
    subscripted slice false v u = operate [v, u] (getItem v u) -> wpAny (model X.prog X.w) X.A (subscriptTail value slice v u) (EP X pins σ Q) X.xe s
def MtR (X : Cx) (id : String) (r : V -> List V -> Hp -> VK -> Prop) : Prop :=
  ∀ (pins : List (Addr × Obj)) (s : Shared) (σ : St) (H : Hp) (x : V) (xs : List V) (v : Value) (us : List Value) (Q : VK), Inv X pins σ H s -> RelV x v -> Vals xs us -> r x xs H Q ->
    wpAny (model X.prog X.w) X.A (call (.builtin id) (v :: us)) (EP X pins σ Q) X.xe s
section
variable {X : Cx} {a b : Expr} {ta tb : TE} {pos : Pos}
theorem IxR.or {r r' : R2} (h : IxR X r) (h' : IxR X r') : IxR X (fun x y H Q => r x y H Q \/ r' x y H Q) := by
  intro value slice pins s σ H x y v u Q I rx ry q hs
  rcases q with q | q
  . exact h value slice pins s σ H x y v u Q I rx ry q hs
  . exact h' value slice pins s σ H x y v u Q I rx ry q hs
theorem MtR.or {id : String} {r r' : V -> List V -> Hp -> VK -> Prop} (h : MtR X id r) (h' : MtR X id r') : MtR X id (fun x xs H Q => r x xs H Q \/ r' x xs H Q) := by
  intro pins s σ H x xs v us Q I rx rs q
  rcases q with q | q
  . exact h pins s σ H x xs v us Q I rx rs q
  . exact h' pins s σ H x xs v us Q I rx rs q
theorem z6 {r : R2} (hr : IxR X r) (ha : PE X a ta) (hb : PE X b tb) (hs : zaa b) : PE X (.Subscript a b pos) (tOp r ta tb) := by
  intro pins s σ H Q I h;exact Subscript_ (binT ha hb I h fun v u s2 x y H2 I2 rx ry q => hr a b pins s2 σ H2 x y v u Q I2 rx ry q (hs _ _))
def rIxL (K : Fg) : R2 := fun x y H Q => ∃ p xs i v, x = .ref p /\ y = .int i /\ SqL K H p xs /\ atI xs i = some v /\ Q v H
def rIxT (K : Fg) : R2 := fun x y H Q => ∃ p xs i v, x = .ref p /\ y = .int i /\ SqT K H p xs /\ atI xs i = some v /\ Q v H
def rIxS : R2 := fun x y H Q => ∃ z i c, x = .str z /\ y = .int i /\ z.length <= sizeLine /\ atI z.cps.toList i = some c /\ Q (.str ⟨#[c]⟩) H
theorem yo : IxR X (rIxL X.K) := by
  intro value slice pins s σ H x y v u Q I rx ry h hs;obtain ⟨p, xs, i, z, rfl, rfl, hq, he, q⟩ := h;cases rx;obtain ⟨t, rfl⟩ := ry;obtain ⟨its, r, pl, hz⟩ := I.list hq;obtain ⟨j, h1, h2, h3, h4, h5⟩ := mq he;obtain ⟨w, ew, rw'⟩ := r.get h2;have hl := r.length;have hn := qi;have fin : EP X pins σ Q w s := ⟨z, H, I, rw', q⟩
  by_cases h0 : 0 <= i
  . have hj : i.toNat = j := by
      rw [seqIndex_of h0 h5] at h1;exact Option.some.inj h1
    exact item_listR pl.isList h0 (by omega) (by rw [hj]; simpa using ew) fin hs
  . have hj : (i + (its.toArray.size : Int)).toNat = j := by
      rw [seqIndex_neg (by omega) h4] at h1;rw [Zr, <- hl];exact Option.some.inj h1
    exact subscriptTail_builtinR (x := w) pl.isList.typeIs slot_list_getitem.lookup
      (wpAny_getItem_list_neg (Q := fun r s' => r = w /\ EP X pins σ Q r s') pl.isList (by omega) (by rw [Zr] <;> omega) (by omega) (by rw [hj]; simpa using ew) ⟨rfl, fin⟩) hs
theorem yx : IxR X (rIxT X.K) := by
  intro value slice pins s σ H x y v u Q I rx ry h hs;obtain ⟨p, xs, i, z, rfl, rfl, hq, he, q⟩ := h;cases rx;obtain ⟨t, rfl⟩ := ry;obtain ⟨its, r, pl, hz⟩ := I.tuple hq;obtain ⟨j, h1, h2, h3, h4, h5⟩ := mq he;obtain ⟨w, ew, rw'⟩ := r.get h2;have hl := r.length;have hn := qi;have fin : EP X pins σ Q w s := ⟨z, H, I, rw', q⟩
  exact subscriptTail_builtinR (x := w) pl.typeIs slot_tuple_getitem.lookup
    (getItem_tuple (j := j) (Q := fun r s' => r = w /\ EP X pins σ Q r s') pl (by omega) (by omega) (by rw [Zr, <- hl]; exact h1) (by simpa using ew) ⟨rfl, fin⟩) hs
theorem t9 : IxR X rIxS := by
  intro value slice pins s σ H x y v u Q I rx ry h hs;obtain ⟨z, i, c, rfl, rfl, hz, he, q⟩ := h;obtain ⟨t, rfl⟩ := rx;obtain ⟨t', rfl⟩ := ry;obtain ⟨j, h1, h2, h3, h4, h5⟩ := mq he;have hl : z.cps.toList.length = z.length := by simp [Str.length]
  rw [hl] at h1 h4 h5;have hn := qi
  exact tail_any (typeIs_str s z t) slot_str_getitem.lookup (getItem_str (c := c) (by
    have e1 : decide (i < -(2 ^ 63 : Int)) = false := decide_eq_false (by omega);have e2 : decide (i ≥ 2 ^ 63) = false := decide_eq_false (by omega)
    rw [e1, e2, Bool.or_false]) (by rw [h1]; simpa using h2) ⟨.str ⟨#[c]⟩, H, I.tok _, ⟨_, rfl⟩, q⟩) hs
theorem Inv.lst {pins : List (Addr × Obj)} {σ : St} {H : Hp} {s : Shared} {p : Addr} {xs : List V} (I : Inv X pins σ H s) (h : H p = some (.lst xs)) :
    ∃ (its : List Value) (n : Nat), Vals xs its /\ s.heap.get? p = some { cls := .type "list", data := .seq its.toArray n } /\ xs.length <= sizeLine := by
  obtain ⟨z, its, n, r, e⟩ := I.hok p _ h;exact ⟨its, n, r, e, z⟩
def rSetL : V -> V -> V -> Hp -> (Hp -> Prop) -> Prop := fun o i v H Q => ∃ p xs k j, o = .ref p /\ i = .int k /\ H p = some (.lst xs) /\ ixN xs.length k = some j /\ Q (upd H p (.lst (xs.set j v)))
theorem jl (lo hi : Option Int) (n : Nat) : (sliceBounds lo hi none n).1 = ((HT.sIx n 0 lo : Nat) : Int) /\ (sliceBounds lo hi none n).2.1 = ((HT.sIx n n hi : Nat) : Int) /\ (sliceBounds lo hi none n).2.2 = 1 := by
  refine ⟨?_, ?_, rfl⟩
  . cases lo with
    | none => simp [sliceBounds, HT.sIx]
    | some i =>
      simp only [sliceBounds, HT.sIx, Option.getD_none, show (1 : Int) > 0 by decide, if_true]
      by_cases h : i < 0
      . simp only [h, if_true] <;> omega
      . simp only [h, if_false] <;> omega
  . cases hi with
    | none => simp [sliceBounds, HT.sIx]
    | some i =>
      simp only [sliceBounds, HT.sIx, Option.getD_none, show (1 : Int) > 0 by decide, if_true]
      by_cases h : i < 0
      . simp only [h, if_true] <;> omega
      . simp only [h, if_false] <;> omega
theorem l5 (its : List Value) (lo hi : Option Int) : slicePick its.toArray lo hi none = ((its.drop (HT.sIx its.length 0 lo)).take (HT.sIx its.length its.length hi - HT.sIx its.length 0 lo)).toArray := by
  obtain ⟨h1, h2, h3⟩ := jl lo hi its.toArray.size;unfold slicePick;rw [h1, h2, h3];simp only [sliceRange_one, pick_run, Zr] <;> rfl
def rSlL (K : Fg) : V -> Option Int -> Option Int -> Hp -> VK -> Prop := fun x lo hi H Q => ∃ a xs, x = .ref a /\ SqL K H a xs /\ ∀ p, H p = none -> Q (.ref p) (upd H p (.lst (cutV xs lo hi)))
theorem yy : SlR X (rSlL X.K) := by
  intro pins s σ H x v vl vu lo hi sl Q I rx hs pl pu h;obtain ⟨a, xs, rfl, hx, q⟩ := h;cases rx;obtain ⟨its, r, ht, hz⟩ := I.list hx;have hlen := r.length;refine ⟨"list", _, slot_list_getitem.lookup, ht.isList.typeIs, ?_⟩;refine wpAny_getItem_list_slice ht.isList hs pl pu .none (by simp) ?_ (by rw [Zr] <;> omega);rw [l5, <- hlen];refine ⟨.ref s.heap.objs.size, _, I.laid (t' := s.toks) (o := .lst (cutV xs lo hi)) (fun b ob q => Heap.get?_push_of_some _ q) (Zm _) ?_, rfl, q _ (I.hok.fresh (Zm _))⟩;exact ⟨Zd (pc xs lo hi) hz, _, 0, (r.drop (HT.sIx xs.length 0 lo)).take (HT.sIx xs.length xs.length hi - HT.sIx xs.length 0 lo), Heap.get?_push_size _ rfl⟩
def xk : V -> Bool
  | .non => true
  | .bl _ => true
  | .int _ => true
  | .str _ => true
  | _ => false
def eqV : V -> V -> Bool
  | .non, .non => true
  | .bl a, .bl b => a == b
  | .bl a, .int b => (if a then 1 else 0) == b
  | .int a, .bl b => a == (if b then 1 else 0)
  | .int a, .int b => a == b
  | .str a, .str b => a == b
  | _, _ => false
theorem kw {A : Around} {s : Shared} {y x : V} {u v : Value} (ry : RelV y u) (rx : RelV x v) (fy : xk y = true) (fx : xk x = true) : SeqAt.EqAt A s u v (eqV y x) := by
  cases y with
  | non =>
    cases ry
    cases x with
    | non => cases rx; exact SeqAt.EqAt.same _
    | bl b => cases rx; exact SeqAt.EqAt.none_bool b
    | int b => obtain ⟨t, rfl⟩ := rx; exact SeqAt.EqAt.none_int b t
    | str b => obtain ⟨t, rfl⟩ := rx; exact SeqAt.EqAt.none_str b t
    | _ => exact absurd (show false = true from fx) Bool.false_ne_true
  | bl a =>
    cases ry
    cases x with
    | non => cases rx; exact SeqAt.EqAt.bool_none a
    | bl b => cases rx; exact SeqAt.EqAt.bool_bool a b
    | int b => obtain ⟨t, rfl⟩ := rx; exact SeqAt.EqAt.bool_int a b t
    | str b => obtain ⟨t, rfl⟩ := rx; exact SeqAt.EqAt.bool_str a b t
    | _ => exact absurd (show false = true from fx) Bool.false_ne_true
  | int a =>
    obtain ⟨t', rfl⟩ := ry
    cases x with
    | non => cases rx; exact SeqAt.EqAt.int_none a t'
    | bl b => cases rx; exact SeqAt.EqAt.int_bool a t' b
    | int b => obtain ⟨t, rfl⟩ := rx; exact SeqAt.EqAt.int_int a t' b t
    | str b => obtain ⟨t, rfl⟩ := rx; exact SeqAt.EqAt.int_str a t' b t
    | _ => exact absurd (show false = true from fx) Bool.false_ne_true
  | str a =>
    obtain ⟨t', rfl⟩ := ry
    cases x with
    | non => cases rx; exact SeqAt.EqAt.str_none a t'
    | bl b => cases rx; exact SeqAt.EqAt.str_bool a t' b
    | int b => obtain ⟨t, rfl⟩ := rx; exact SeqAt.EqAt.str_int a t' b t
    | str b => obtain ⟨t, rfl⟩ := rx; exact SeqAt.EqAt.str_str a t' b t
    | _ => exact absurd (show false = true from fx) Bool.false_ne_true
  | _ => exact absurd (show false = true from fy) Bool.false_ne_true
def inV (x : V) (xs : List V) : Bool := xs.any fun y => eqV y x
def rIn (K : Fg) (neg : Bool) : R2 := fun x y H Q => ∃ p xs, y = .ref p /\ (SqL K H p xs \/ SqT K H p xs) /\ xk x = true /\ xs.all xk = true /\ Q (.bl (if neg then !inV x xs else inV x xs)) H
theorem zz : CallR X (.builtin "len") (fun xs H Q => ∃ p ys, xs = [.ref p] /\ (SqL X.K H p ys \/ SqT X.K H p ys) /\ Q (.int ys.length) H) := by
  intro pins s σ H xs us Q I r h;obtain ⟨p, ys, rfl, hq, q⟩ := h;obtain ⟨u, rfl, rx⟩ := o4 r;cases rx;have hn := qi
  rcases hq with hq | hq
  . obtain ⟨its, r', pl, hz⟩ := I.list hq
    have hlen := r'.length;exact Calls.call_len_list pl.isList (by simp only [Zr] <;> omega) ⟨.int ys.length, H, I.tok _, ⟨s.toks + 1, by rw [Zr, hlen]⟩, q⟩
  . obtain ⟨its, r', pl, hz⟩ := I.tuple hq
    have hlen := r'.length;exact len_tuple pl (by simp only [Zr] <;> omega) ⟨.int ys.length, H, I.tok _, ⟨s.toks + 1, by rw [Zr, hlen]⟩, q⟩
theorem qm : CallR X (.builtin "len") (fun xs H Q => ∃ z, xs = [.str z] /\ z.length <= sizeLine /\ Q (.int z.length) H) := by
  intro pins s σ H xs us Q I r h;obtain ⟨z, rfl, hz, q⟩ := h;obtain ⟨u, rfl, t, rfl⟩ := o4 r;have hn := qi;exact len_str (by omega) ⟨.int z.length, H, I.tok _, ⟨_, rfl⟩, q⟩
theorem CallR.or {f : Value} {r r' : List V -> Hp -> VK -> Prop} (h : CallR X f r) (h' : CallR X f r') : CallR X f (fun xs H Q => r xs H Q \/ r' xs H Q) := by
  intro pins s σ H xs us Q I rs q
  rcases q with q | q
  . exact h pins s σ H xs us Q I rs q
  . exact h' pins s σ H xs us Q I rs q
theorem t6 : CallR X (.type "list") (fun xs H Q => ∃ p ys, xs = [.ref p] /\ (SqL X.K H p ys \/ SqT X.K H p ys) /\ ∀ l, H l = none -> Q (.ref l) (upd H l (.lst ys))) := by
  intro pins s σ H xs us Q I r h;obtain ⟨p, ys, rfl, hq, q⟩ := h;obtain ⟨u, rfl, rx⟩ := o4 r;cases rx
  have fin : ∀ (its : List Value), Vals ys its -> ys.length <= sizeLine -> ∀ (h' : Heap) (c' : Nat), (∀ b o', s.heap.get? b = some o' -> h'.get? b = some o') ->
      h'.get? s.heap.objs.size = some { cls := .type "list", dict := none, data := .seq its.toArray c', slots := #[] } -> EP X pins σ Q (.ref s.heap.objs.size) { s with heap := h' } := fun its r' hz h' c' kp e =>
    ⟨.ref s.heap.objs.size, _, I.laid (t' := s.toks) kp (Zm _) (show ObjOk X.prog X.w _ h' _ (.lst ys) from ⟨hz, its, c', r', e⟩), rfl, q _ (I.hok.fresh (Zm _))⟩
  rcases hq with hq | hq
  . obtain ⟨its, r', pl, hz⟩ := I.list hq
    have hlen := r'.length;obtain ⟨o, ho, hc, n, hd⟩ := pl.isList;exact call_list_seq p (.inl rfl) ho hc hd (fun h' c' kp e => fin its r' hz h' c' kp e) (by simp only [Zr] <;> omega)
  . obtain ⟨its, r', pl, hz⟩ := I.tuple hq
    have hlen := r'.length;obtain ⟨o, ho, hc, n, hd⟩ := pl;exact call_list_seq p (.inr rfl) ho hc hd (fun h' c' kp e => fin its r' hz h' c' kp e) (by simp only [Zr] <;> omega)
theorem l6 : CallR X (.type "tuple") (fun xs H Q => ∃ p ys, xs = [.ref p] /\ ((SqL X.K H p ys /\ ∀ l, H l = none -> Q (.ref l) (upd H l (.tup ys))) \/ (SqT X.K H p ys /\ Q (.ref p) H))) := by
  intro pins s σ H xs us Q I r h;obtain ⟨p, ys, rfl, h⟩ := h;obtain ⟨u, rfl, rx⟩ := o4 r;cases rx
  rcases h with ⟨hq, q⟩ | ⟨hq, q⟩
  . obtain ⟨its, r', pl, hz⟩ := I.list hq
    have hlen := r'.length;refine call_tuple_list pl.isList (fun h' kp => ?_) (by simp only [Zr] <;> omega);have I1 : Inv X pins σ H { s with heap := h' } := I.kept (t' := s.toks) kp
    have I2 : Inv X pins σ (upd H h'.objs.size (.tup ys)) { s with heap := h'.push { cls := .type "tuple", data := .seq its.toArray } } :=
      I1.laid (t' := s.toks) (fun b o e => Heap.get?_push_of_some _ e) (Zm _) (show ObjOk X.prog X.w _ _ _ (.tup ys) from ⟨hz, its, r', IsTupD.new _ _⟩)
    exact ⟨.ref h'.objs.size, _, I2, rfl, q _ (I1.hok.fresh (Zm _))⟩
  . obtain ⟨its, r', pl, hz⟩ := I.tuple hq
    exact call_tuple_same pl ⟨.ref p, H, I, rfl, q⟩
def tyV (K : Fg) (T : String) (x : V) (H : Hp) : Prop := match x with
  | .str _ => T = "str"
  | .int _ => T = "int"
  | .ref p => (T = "list" /\ ∃ xs, SqL K H p xs) \/ (T = "tuple" /\ ∃ o, K.lookup p = some o /\ o.cls = .type "tuple" /\ o.dict = none) \/
      (T = "dict" /\ ((∃ kvs, H p = some (.dK kvs)) \/ ∃ kvs, H p = some (.dT kvs))) \/ (T = "set" /\ ∃ S n, H p = some (.set S n))
  | _ => False
theorem tyV_is {pins : List (Addr × Obj)} {σ : St} {H : Hp} {s : Shared} {T : String} {x : V} {v : Value} (I : Inv X pins σ H s) (r : RelV x v) (ty : tyV X.K T x H) :
    s.TypeIs v T /\ ∀ a, v = .ref a -> ∃ ob, s.heap.get? a = some ob /\ ob.dict = none := by
  cases x with
  | str z =>
    obtain ⟨t, rfl⟩ := r;cases (show T = "str" from ty);exact ⟨typeIs_str s z t, fun _ e => nomatch e⟩
  | int i =>
    obtain ⟨t, rfl⟩ := r;cases (show T = "int" from ty);exact ⟨typeIs_int s i t, fun _ e => nomatch e⟩
  | ref p =>
    cases r
    rcases ty with ⟨rfl, xs, hq⟩ | ⟨rfl, o, hk, hc, hd⟩ | ⟨rfl, hk⟩ | ⟨rfl, S, n, hk⟩
    . obtain ⟨its, _, pl, _⟩ := I.list hq
      refine ⟨pl.isList.typeIs, fun a e => ?_⟩;cases e;obtain ⟨o, n, e, c, hd, _⟩ := pl;exact ⟨o, e, hd⟩
    . refine ⟨⟨o, I.kIn p o hk, hc⟩, fun a e => ?_⟩
      cases e;exact ⟨o, I.kIn _ o hk, hd⟩
    . have z : ∃ o, s.heap.get? p = some o /\ o.ExactDict := by
        rcases hk with ⟨kvs, hk⟩ | ⟨kvs, hk⟩
        . obtain ⟨_, _, _, _, o, _, _, e, ex, _⟩ := I.hok p _ hk
          exact ⟨o, e, ex⟩
        . obtain ⟨_, _, _, _, o, _, _, e, ex, _⟩ := I.hok p _ hk
          exact ⟨o, e, ex⟩
      obtain ⟨o, e, ex⟩ := z;refine ⟨⟨o, e, ex.1⟩, fun a e2 => ?_⟩;cases e2;exact ⟨o, e, ex.2.1⟩
    . obtain ⟨o, _, _, _, e, ex, _⟩ := I.hok p _ hk
      refine ⟨⟨o, e, ex.1⟩, fun a e2 => ?_⟩;cases e2;exact ⟨o, e, ex.2.1⟩
  | _ => exact False.elim ty
def tBM0 (K : Fg) (T : String) (r : V -> List V -> Hp -> VK -> Prop) (to : TE) : TE := fun σ H Q => to σ H fun x H1 => tyV K T x H1 /\ r x [] H1 Q
def tBM (K : Fg) (T : String) (r : V -> List V -> Hp -> VK -> Prop) (to : TE) (t : TA) : TE := fun σ H Q => to σ H fun x H1 => tyV K T x H1 /\ t σ H1 fun xs H2 => r x xs H2 Q
variable {o e : Expr} {es : List Expr} {to : TE} {t : TA} {name : Str} {apos cpos : Pos} {T id : String} {r : V -> List V -> Hp -> VK -> Prop}
theorem l9 (pa : PlainAttrs T) (slot : Slot T name id) (hty : typeOf (.builtin id) = pure (.type "method_descriptor")) (hm : MtR X id r) (ho : PE X o to) (ha : PA X (e :: es) t)
    (hbase : attributeBase o name X.env (eval o X.env) = eval o X.env := by rfl)
    (hfew : ((backTo cpos (starEach (e :: es) X.env)).all (fun x => !x.1) && (backToKw cpos (keywordEach [] X.env)).all (fun x => x.1.isSome)
      && decide ((e :: es).length + ([] : List Keyword).length + (if ([] : List Keyword).isEmpty then 0 else 1) < 30)) = true := by rfl)
    (hline : (apos.endLine == cpos.line) = true := by rfl) (hs : starEach (e :: es) X.env = (false, eval e X.env) :: starEach es X.env := by rfl) (hplain : (backTo cpos (starEach es X.env)).any (·.1) = false := by rfl) :
    PE X (.Call (.Attribute o name apos) (e :: es) [] cpos) (tBM X.K T r to t) := by
  intro pins s σ H Q I h;refine wpAny_Call_method_late hbase hfew hline rfl (thn (ho pins s σ H _ I h) fun v s1 ⟨x, H1, I1, r1, ty, q1⟩ => ?_);obtain ⟨h1, h2⟩ := tyV_is I1 r1 ty;refine ⟨T, id, pa, slot, hty, h1, h2, ?_⟩;have hA := ha cpos pins s1 σ H1 _ I1 q1;rw [hs] at hA ⊢;refine Calls.callWith_builtin (by show (false || (backTo cpos (starEach es X.env)).any (·.1)) = false; rw [hplain] <;> rfl) (Calls.evalArgs_plain ?_);exact thn hA fun us s2 ⟨vs, H2, I2, r2, q2⟩ => hm pins s2 σ H2 x vs v us Q I2 r1 r2 q2
end
end L2
namespace L2
open PySem PySem.Spec PyProof.Rows
def MtM (X : Cx) (id : String) (r : V -> List V -> Hp -> VK -> Prop) : Prop :=
  ∀ (pins : List (Addr × Obj)) (s : Shared) (σ : St) (H : Hp) (x : V) (xs : List V) (v : Value) (us : List Value) (Q : VK), Inv X pins σ H s -> RelV x v -> Vals xs us -> r x xs H Q ->
    wpAny (model X.prog X.w) X.A (call (.builtin id) (v :: us)) (EP X pins σ Q) X.xe s
theorem Vals.one : ∀ {x : V} {us : List Value}, Vals [x] us -> ∃ u, us = [u] /\ RelV x u
  | _, _, .cons r .nil => ⟨_, rfl, r⟩
theorem Vals.two : ∀ {x y : V} {us : List Value}, Vals [x, y] us -> ∃ u v, us = [u, v] /\ RelV x u /\ RelV y v
  | _, _, _, .cons r (.cons q .nil) => ⟨_, _, rfl, r, q⟩
theorem Vals.zero : ∀ {us : List Value}, Vals [] us -> us = []
  | _, .nil => rfl
theorem Vals.dropLast {xs : List V} {us : List Value} (h : Vals xs us) : Vals xs.dropLast us.dropLast := by
  induction h with
  | nil => exact .nil
  | cons r t ih =>
    cases t with
    | nil => exact .nil
    | cons q t' => exact .cons r ih
theorem Vals.reverse {xs : List V} {us : List Value} (h : Vals xs us) : Vals xs.reverse us.reverse := by
  induction h with
  | nil => exact .nil
  | cons r t ih => rw [List.reverse_cons, List.reverse_cons]; exact Vals.append ih (.cons r .nil)
theorem Vals.rep {xs : List V} {us : List Value} (h : Vals xs us) : ∀ k : Nat, Vals (List.replicate k xs).flatten (List.replicate k us).flatten
  | 0 => .nil
  | k + 1 => by
    rw [ZO, ZO, Yd, Yd];exact Vals.append h (Vals.rep h k)
theorem m3 (its : List Value) : ∀ (k : Nat) (acc : List Value),
    List.foldl (fun x1 x2 => x1 ++ x2) acc.toArray (List.replicate k its.toArray) = (acc ++ (List.replicate k its).flatten).toArray
  | 0, acc => by simp
  | k + 1, acc => by
    have e : acc.toArray ++ its.toArray = (acc ++ its).toArray := by simp
    have e2 : (acc ++ its) ++ (List.replicate k its).flatten = acc ++ (List.replicate (k + 1) its).flatten := by
      rw [ZO, Yd, Yw]
    rw [<- e2, <- m3 its k (acc ++ its), <- e, ZO, List.foldl_cons]
section
variable {X : Cx} {pins : List (Addr × Obj)} {σ : St} {H : Hp} {s : Shared} {l b : Addr} {xs ys zs : List V}
theorem Inv.lset {its its' : List Value} {n : Nat} {f : Array Value -> Array Value} {t' : Nat} (I : Inv X pins σ H s) (hH : H l = some (.lst xs))
    (e : s.heap.get? l = some { cls := .type "list", data := .seq its.toArray n }) (hf : f its.toArray = its'.toArray) (hv : Vals ys its') (hz : ys.length <= sizeLine) :
    Inv X pins σ (upd H l (.lst ys)) { s with heap := s.heap.update l (Obj.mapSeq f), toks := t' } := by
  have q := PySem.IsL.update e f;rw [hf] at q;refine I.write (x := l) (e := l) (by rw [hH]; exact trivial) (.inl rfl) (fun b' u hb hu => (Heap.get?_update_other s.heap (Obj.mapSeq f) (Ne.symm hb)).trans hu) ⟨_, q⟩ ?_;exact ⟨hz, its', _, hv, q⟩
theorem Inv.lnew {its : List Value} {t' : Nat} (I : Inv X pins σ H s) (hv : Vals ys its) (hz : ys.length <= sizeLine) :
    Inv X pins σ (upd H s.heap.objs.size (.lst ys)) { s with heap := s.heap.push { cls := .type "list", data := .seq its.toArray }, toks := t' } :=
  I.laid (fun _ _ q => Heap.get?_push_of_some _ q) (Zm _) ⟨hz, its, 0, hv, Heap.get?_push_size _ rfl⟩
theorem Inv.fresh (I : Inv X pins σ H s) : H s.heap.objs.size = none := I.hok.fresh (Zm _)
theorem Inv.lstM (I : Inv X pins σ H s) (hH : H l = some (.lst xs)) : xs.length <= sizeLine /\ ∃ (its : List Value) (n : Nat), Vals xs its /\ xs.length = its.length /\ s.heap.get? l = some { cls := .type "list", data := .seq its.toArray n } := by
  obtain ⟨z, its, n, r, e⟩ := I.hok l _ hH;exact ⟨z, its, n, r, r.length, e⟩
theorem d8 {n : Nat} (h : n <= sizeLine) : Builtin.List.listTooLong n = false := by
  unfold Builtin.List.listTooLong;exact decide_eq_false (by omega)
end
section
variable {X : Cx}
def j4 : V -> List V -> Hp -> VK -> Prop := fun x vs H Q => ∃ l xs y, x = .ref l /\ vs = [y] /\ H l = some (.lst xs) /\ xs.length < sizeLine /\ Q .non (upd H l (.lst (xs ++ [y])))
theorem sh : MtM X "list.append" j4 := by
  intro pins s σ H x vs v us Q I rx rv h;obtain ⟨l, xs, y, rfl, rfl, hH, hz, q⟩ := h;cases rx;obtain ⟨u, rfl, ru⟩ := rv.one;obtain ⟨z, its, n, r, hl, e⟩ := I.lstM hH;refine call_meets F.slot_list_append ⟨_, e, rfl⟩ F.entry_list_append (F.args_list_append_2 _ _) (PySem.list_append l its.toArray n u (by rw [Zr]; omega)) ⟨e, ?_⟩;refine ⟨.non, _, I.lset (its' := its ++ [u]) hH e (by simp) (r.append (.cons ru .nil)) ?_, rfl, q⟩;rw [Zo, ZW];omega
def a6 : V -> List V -> Hp -> VK -> Prop := fun x vs H Q => ∃ l b xs zs, x = .ref l /\ vs = [.ref b] /\ H l = some (.lst xs) /\ H b = some (.lst zs) /\ xs.length + zs.length <= sizeLine /\ Q .non (upd H l (.lst (xs ++ zs)))
def rCat : R2 := fun x y H Q => ∃ l b xs zs, x = .ref l /\ y = .ref b /\ H l = some (.lst xs) /\ H b = some (.lst zs) /\ xs.length + zs.length <= sizeLine /\ ∀ p, H p = none -> Q (.ref p) (upd H p (.lst (xs ++ zs)))
theorem xf : OpR X (binaryOp .Add) rCat := by
  intro pins s σ H x y v u Q I rx ry h;obtain ⟨l, b, xs, zs, rfl, rfl, hH, hB, hz, q⟩ := h;cases rx;cases ry;obtain ⟨z, its, n, r, hl, e⟩ := I.lstM hH;obtain ⟨z2, its2, n2, r2, hl2, e2⟩ := I.lstM hB;refine PySem.P.add_list e e2 ?_ (by rw [Zr, Zr]; omega);have ea : its.toArray ++ its2.toArray = (its ++ its2).toArray := by simp
  rw [ea];exact ⟨.ref _, _, I.lnew (t' := s.toks) (r.append r2) (by rw [Zo]; omega), rfl, q _ I.fresh⟩
def rRep : R2 := fun x y H Q => ∃ l k xs, x = .ref l /\ y = .int k /\ H l = some (.lst xs) /\ -(2 ^ 63) <= k /\ k < 2 ^ 63 /\ xs.length * k.toNat <= sizeLine /\
  ∀ p, H p = none -> Q (.ref p) (upd H p (.lst (List.replicate k.toNat xs).flatten))
theorem zab {α : Type} (xs : List α) (k : Nat) : (List.replicate k xs).flatten.length = k * xs.length := by
  induction k with
  | zero => simp
  | succ k ih => rw [ZO, Yd, Zo, ih, Nat.succ_mul, Nat.add_comm]
theorem op_rep : OpR X (binaryOp .Mult) rRep := by
  intro pins s σ H x y v u Q I rx ry h;obtain ⟨l, k, xs, rfl, rfl, hH, h1, h2, hz, q⟩ := h;cases rx;obtain ⟨t, rfl⟩ := ry;obtain ⟨z, its, n, r, hl, e⟩ := I.lstM hH;have hlen : its.toArray.size * k.toNat <= sizeLine := by rw [Zr, <- hl]; exact hz
  have hcap : ¬ its.toArray.size * k.toNat > (2 ^ 63 - 1) / 8 := by
    have : (sizeLine : Nat) <= (2 ^ 63 - 1) / 8 := by decide
    omega
  have hfit : ¬ (!Builtin.List.listFitsIndex k) = true := by
    rw [fitsIndex_both h1 h2];exact Bool.false_ne_true
  have hlong : ¬ Builtin.List.listTooLong (its.toArray.size * k.toNat) = true := by
    rw [d8 hlen];exact Bool.false_ne_true
  have hnew : List.foldl (fun x1 x2 => x1 ++ x2) #[] (List.replicate (if its.toArray.isEmpty = true then 0 else k.toNat) its.toArray) = (List.replicate k.toNat its).flatten.toArray := by
    have f0 : ∀ m : Nat, List.foldl (fun x1 x2 => x1 ++ x2) #[] (List.replicate m its.toArray) = (List.replicate m its).flatten.toArray := fun m => by
      have := m3 its m [];rw [Yb] at this;exact this
    rw [f0]
    cases its with
    | nil => simp
    | cons a r' => rw [if_neg (by simp)]
  refine wpAny_binaryOp_repeat_ref (T := "list") (U := "int") (by decide) ⟨_, e, rfl⟩ (fun s' => typeIs_int s' k t) noFill_list_mul F.fills_int_mul F.slot_int_rmul repeat_list F.slot_int_index.lookup
    (call_meets F.slot_int_rmul (typeIs_int s k t) F.entry_int_rmul (F.args_int_rmul_2 _ _) (int___rmul___int_list k t l its.toArray n)
      ⟨e, rfl, ⟨_, e, rfl⟩, call_meets F.slot_list_mul ⟨_, e, rfl⟩ F.entry_list_mul (F.args_list_mul_2 _ _) (AutoListH.list___mul___list_int_3 l its.toArray n k t hfit hcap hlong) ⟨e, ?_⟩⟩)
  rw [hnew];exact ⟨.ref _, _, I.lnew (t' := s.toks) (r.rep k.toNat) (by rw [zab, Nat.mul_comm]; exact hz), rfl, q _ I.fresh⟩
end
section
variable {prog : Program} {w : World} {A : Around} {E : Value -> Shared -> Prop} {s : Shared}
set_option maxRecDepth 100000 in
end
section
variable {X : Cx}
end
end L2
namespace Att
open PySem PySem.W PySem.Calls PyProof.Rows
theorem nh {P : Params} {h : Heap} : ∀ (ns : List Int) (vs : List Value), WellAll P h vs (ns.map WData.int) -> IntsAre vs ns := by
  intro ns
  induction ns with
  | nil =>
    intro vs w;rw [List.map_nil] at w;cases w;exact .nil
  | cons n ns ih =>
    intro vs w;rw [ZU] at w
    cases w with
    | cons a b =>
      cases a;exact .cons _ _ (ih _ b)
theorem dc {l : OpenLaw} {n : Nat} (hn : l.most = some n) {P : Params} {h : Heap} {args : List WData} {vals : List Value}
    (hpre : l.row.toRowW.claim.pre args = true) (hwl : WellAll P h vals args) :
    ∃ a vs ns, vals = [Value.ref a] /\ args = [WData.list (ns.map WData.int)] /\ h.get? a = some { cls := .type "list", data := .seq vs.toArray } /\ IntsAre vs ns /\ ns.length <= n := by
  have hsh : WShape.hasAll [] args [.list .int] = true := (pre_splitW hpre).1;have hc : l.pre.holds [] { args := args } = true := (pre_splitW hpre).2;obtain ⟨d, r, rfl, h1, h2⟩ := hasAllW_cons hsh;obtain rfl := hasAllW_nil h2;obtain ⟨xs, rfl, h3⟩ := hasW_list h1;obtain ⟨ns, rfl⟩ := items_int h3
  have hlen : ns.length <= n := by
    unfold OpenLaw.pre at hc
    have h4 : (WTm.not (.lt (.lit (.int (n : Int))) (.len (.arg 0)))).holds [] { args := [.list (ns.map .int)] } = true := by
      have h4 := (holds_andW hc).1;rw [hn] at h4;exact h4
    have h5 := condW_of h4 (w_not (w_lt w_lit (w_len_list (w_arg rfl))));rw [Za] at h5;refine Nat.le_of_not_lt fun q => ?_
    have q' : (n : Int) < ((ns.length : Nat) : Int) := by omega
    first
      | (rw [decide_eq_true q'] at h5; exact absurd h5 (by decide))
      | (simp at h5; omega)
  cases hwl with
  | cons w1 w2 =>
    cases w2
    cases w1 with
    | list ho hall => exact ⟨_, _, ns, rfl, rfl, ho, nh ns _ hall, hlen⟩
theorem dr (l : OpenLaw) (args : List WData) : l.row.toRowW.claim.post args (.bool true) args = true :=
  postW_of (r := l.row.toRowW) (X := (true == true))
    (show WShape.has [] (.bool true) .bool = true by first | rfl | decide | simp [WShape.has, WShape.arms, WShape.armsAll])
    (show (WTm.eq .res (.lit (.bool true))).value [] { args := args, res := some (.bool true), after := args } = some (.bool (true == true)) from w_eq_bool (w_res rfl) w_lit) rfl
theorem jv {l : OpenLaw} {n : Nat} {q : Program} {loose : List Str} {XP : (Str -> Option Value) -> Heap -> Prop} {YP : World -> Heap -> Prop} {d : DefRec}
    (hn : l.most = some n) (hdf : d.params.defaults = [])
    (call : ∀ (w : World) (s₀ s₁ : Shared) (mg mb : Str -> Option Value) (fa : Addr) (o : Obj) (pm cd doc : Value) (a : Addr) (vs : List Value) (ns : List Int),
      Ground q loose [] XP w s₀ mg mb s₁.heap -> YP w s₁.heap ->
      s₁.heap.get? fa = some o -> o.data = .func (docDef d.name d.params d.body d.scope pm cd doc) -> s₁.heap.CodeRec cd d.name -> mg d.name = some (.ref fa) ->
      s₁.heap.get? a = some { cls := .type "list", data := .seq vs.toArray } -> IntsAre vs ns -> ns.length <= n -> s₁.gens = #[] ->
      codeAny (model l.prog w) callerA (.call (.ref fa) ⟨[.ref a], []⟩) (fun r s' => r = .ok (.ret (.bool true)) /\ OldK s₁.heap s'.heap /\ s'.os = s₁.os /\ AllBare s'.gens) s₁) :
    WalkO q loose XP YP l.row.toRowW d [] (fun f vs => PySem.call f vs) := by
  intro w s₀ s₁ mg mb G Y fa o pm cd doc dV kV ho hd hcd hD hmg hg args vals as hpre hlay hrd hwl hlo;obtain rfl : dV = .none := Dflts.none hD hdf;obtain rfl : kV = .none := Dflts.noKw hD;obtain ⟨a, vs, ns, rfl, rfl, hobj, hints, hlen⟩ := dc hn hpre hwl;refine enter_call (codeAny_mono (call w s₀ s₁ mg mb fa o pm cd doc a vs ns G Y ho (fd_plain hd) hcd hmg hobj hints hlen hg) fun r s' hq => ?_);obtain ⟨rfl, h2, h3, h4⟩ := hq;exact ⟨.inl ⟨.bool true, .bool true, [], rfl, fun _ => rfl, .bool true, dr l _, fun _ => ⟨List.Pairwise.nil, fun _ hm => (nomatch hm)⟩⟩, h2, h3, h4⟩
section
variable {prog : Program} {w : World} {A : Around} {E : Value -> Shared -> Prop} {s : Shared} {K : Frag}
def ledger (h : Heap) (L d : Addr) : List (Addr × Obj) := (List.range h.objs.size).filterMap fun a => if a = L \/ a = d then none else (h.get? a).map fun o => (a, o)
end
end Att
namespace L2
open PySem PySem.Spec PyProof.Rows
theorem m8 : ∀ {vs : List Value} {ns : List Int}, IntsAre vs ns -> Vals (ns.map V.int) vs
  | _, _, .nil => .nil
  | _, _, .cons n t h => .cons ⟨t, rfl⟩ (m8 h)
def Only (H : Hp) : Prop := ∀ b, H b = none \/ ∃ o xs, H b = some (.frz o (.lst xs))
theorem ce {P : Program} {w : World} {K : Fg} {mg mb : Str -> Option Value} {CX : CXT} {k : Nat} {fa a : Addr} {fd : FuncData} {x : Str} {sp : Sp} {s₁ : Shared} {vs : List Value} {ns : List Int}
    (KX : K.In s₁.heap) (hns : s₁.heap.Ns mainGlobals mg) (hb : s₁.heap.Ns builtinsNs mb) (hbb : ∀ x : Str, x ≠ "__name__" -> mb x = bootBuiltins x) (hlim : s₁.heap.NoLimit) (hg : s₁.gens = #[])
    (ha : s₁.heap.get? a = some { cls := .type "list", data := .seq vs.toArray }) (hi : IntsAre vs ns) (hl : ns.length <= sizeLine) (hr : Room k callerA)
    (F : ∀ base : Heap, K.In base -> base.Ns mainGlobals mg -> FnOk P w K mg base CX k fa fd [x] sp) (hbind : ∀ (s : Shared) (u : Value), BindsTo s fd ⟨[u], []⟩ [(x, u)])
    (hsp : ∀ H : Hp, Only H -> SqL K H a (ns.map V.int) -> sp [.ref a] H (fun v _ => v = .bl true) fun _ _ _ => False)
    (hCX : ∀ H e s', CX [] H s₁ (fun _ _ _ => False) e s' -> False) :
    codeAny (model P w) callerA (.call (.ref fa) ⟨[.ref a], []⟩) (fun r s' => r = .ok (.ret (.bool true)) /\ OldK s₁.heap s'.heap /\ s'.os = s₁.os /\ AllBare s'.gens) s₁ := by
  have rv := m8 hi;have lenV := hi.length
  -- from an abstract heap in which nothing but the script may be tracked
  have core : ∀ H : Hp, Only H -> SqL K H a (ns.map V.int) -> HOk P w H s₁.heap -> (∀ b, H b ≠ none -> b = a) -> (H a ≠ none -> K.lookup a = none) ->
      codeAny (model P w) callerA (.call (.ref fa) ⟨[.ref a], []⟩) (fun r s' => r = .ok (.ret (.bool true)) /\ OldK s₁.heap s'.heap /\ s'.os = s₁.os /\ AllBare s'.gens) s₁ := by
    intro H hO hS hok hA hK;have base_of : ∀ {b : Addr} {o : Obj}, s₁.heap.get? b = some o -> H b = none -> (hidT s₁.heap H).get? b = some o := fun e n => cu e n
    have noA : ∀ {b : Addr} {o : Obj} {es : Array DictEntry} {ep : Nat}, s₁.heap.get? b = some o -> o.data = .dict es ep -> H b = none := fun {b o es ep} e d => by
      cases q : H b with
      | none => rfl
      | some u =>
        have e' : b = a := hA b (by rw [q]; simp);subst e';rw [ha] at e; cases e;have d' : Data.seq vs.toArray _ = Data.dict es ep := d;cases d'
    have nsK : ∀ {b : Addr} {m : Str -> Option Value}, s₁.heap.Ns b m -> (hidT s₁.heap H).Ns b m := fun {b m} ⟨o, es, ep, e, d, r⟩ => ⟨o, es, ep, base_of e (noA e d), d, r⟩
    have hKb : K.In (hidT s₁.heap H) := fun b o e => base_of (KX b o e) (by
      cases q : H b with
      | none => rfl
      | some u =>
        have e' : b = a := hA b (by rw [q]; simp);subst e'
        rw [hK (by rw [q]; simp)] at e; cases e)
    have hM : Mod K mg (hidT s₁.heap H) := ⟨hKb, nsK hns, ⟨mb, nsK hb, hbb⟩, let ⟨mc, h1, h2⟩ := hlim; ⟨mc, nsK h1, h2⟩⟩;have e0 : Env0 P w K mg (hidT s₁.heap H) callerA [] s₁ H := ⟨rfl, hM, fun b o e => bn e, Nat.le_of_eq (f8 _ _), trivial, fun b hb => absurd (show b ∈ ([] : List Addr) from hb) (by simp), hok, .of_eq hg⟩;refine codeAny_mono ((F _ hKb (nsK hns)).run callerA [] s₁ H ⟨[.ref a], []⟩ [.ref a] [.ref a] _ _ hr e0 (hbind s₁ (.ref a)) (.cons rfl .nil) (hsp H hO hS)) fun r s' h => ?_
    cases r with
    | error e => exact (hCX H e s' h).elim
    | ok fl =>
      cases fl with
      | next => exact False.elim h
      | brk => exact False.elim h
      | cont => exact False.elim h
      | ret u =>
        obtain ⟨v, H', os, bare, un, hok', r', q⟩ := h;have q' : v = .bl true := q;subst q';obtain rfl : u = Value.bool true := r';refine ⟨rfl, OldK.of_keep fun b o e => ?_, os, bare⟩
        cases q : H b with
        | none => exact un.keep b o e q (by intro z; exact absurd (show b ∈ ([] : List Addr) from z) (by simp)) (by simp)
        | some u =>
          rcases hO b with z | ⟨ob, xs, z⟩
          . rw [q] at z; cases z
          . have z2 := un.frzs b ob _ z
            obtain ⟨e1, _⟩ := hok b _ z;obtain ⟨e2, _⟩ := hok' b _ z2;rw [e] at e1; cases e1;exact e2
  cases hk : K.lookup a with
  | some o =>
    -- the script is one of the module's own objects
    have e := KX a o hk;rw [ha] at e;cases e;refine core (fun _ => none) (fun _ => .inl rfl) (.inr ⟨_, vs.toArray, _, hk, rfl, rfl, rfl, by rw [Zr, lenV]; exact hl, by simpa using rv⟩) (fun b u z => by have z' : (none : Option HO) = some u := z; cases z') (fun b z => absurd rfl z) fun z => absurd rfl z
  | none =>
    refine core (fun b => if b = a then some (.frz { cls := .type "list", data := .seq vs.toArray } (.lst (ns.map V.int))) else none) (fun b => ?_) (.inl (.inr ⟨{ cls := .type "list", data := .seq vs.toArray }, if_pos rfl⟩)) (fun b u z => ?_) (fun b z => ?_) fun _ => hk
    . by_cases hb : b = a
      . exact .inr ⟨_, _, if_pos hb⟩
      . exact .inl (if_neg hb)
    . by_cases hb : b = a
      . have z' := (if_pos hb).symm.trans z
        cases z';subst hb;exact ⟨ha, by rw [Za]; exact hl, vs, _, rv, ha⟩
      . have z' := (if_neg hb).symm.trans z
        cases z'
    . by_cases hb : b = a
      . exact hb
      . exact absurd (if_neg hb) z
end L2
namespace L2
open PySem PySem.Spec PyProof.Rows
abbrev KOf {K : Fg} {h : Heap} (_ : K.In h) : Fg := K
theorem bi {l : PySem.W.OpenLaw} {n k : Nat} {q : Program} {loose : List Str} {XP : (Str -> Option Value) -> Heap -> Prop} {YP : World -> Heap -> Prop} {d : DefRec} {K : Params -> Fg} {CX : World -> CXT} {sp : World -> Sp} {x : Str}
    (hn : l.most = some n) (hn2 : n <= sizeLine) (hdf : d.params.defaults = []) (hr : Room k callerA)
    (hY : ∀ (w : World) (h : Heap), YP w h -> (K w.params).In h)
    (F : ∀ (w : World) (mg : Str -> Option Value) (fa : Addr) (h : Heap), (K w.params).In h -> h.Ns mainGlobals mg -> mg d.name = some (.ref fa) ->
      ∃ fd : FuncData, (∀ (s : Shared) (u : Value), BindsTo s fd ⟨[u], []⟩ [(x, u)]) /\
        ∀ base : Heap, (K w.params).In base -> base.Ns mainGlobals mg -> FnOk l.prog w (K w.params) mg base (CX w) k fa fd [x] (sp w))
    (hsp : ∀ (w : World) (H : Hp) (a : Addr) (ns : List Int), ns.length <= n -> Only H -> SqL (K w.params) H a (ns.map V.int) -> sp w [.ref a] H (fun v _ => v = .bl true) fun _ _ _ => False)
    (hCX : ∀ (w : World) (H : Hp) (s : Shared) (e : Value) (s' : Shared), CX w [] H s (fun _ _ _ => False) e s' -> False) :
    PySem.W.WalkO q loose XP YP l.row.toRowW d [] (fun f vs => PySem.call f vs) := by
  refine Att.jv hn hdf fun w s₀ s₁ mg mb fa o pm cd doc a vs ns G Y ho hd hcd hmg hobj hints hlen hg => ?_
  have KX := hY w _ Y;obtain ⟨fd, hb, hF⟩ := F w mg fa _ KX G.T.g hmg;exact ce KX G.T.g G.T.b G.T.builtins G.T.nolimit hg hobj hints (Zd hlen hn2) hr hF hb (fun H hO hS => hsp w H a ns hlen hO hS) fun H e s' => hCX w H s₁ e s'
theorem cx {l : PySem.W.OpenLaw} {n k : Nat} {q : Program} {loose : List Str} {XP : (Str -> Option Value) -> Heap -> Prop} {YP : World -> Heap -> Prop} {d : DefRec} {K : Params -> Fg} {CX : CXT} {sp : Fg -> Sp} {x : Str}
    (hn : l.most = some n) (hn2 : n <= sizeLine) (hdf : d.params.defaults = []) (hr : Room k callerA)
    (hY : ∀ (w : World) (h : Heap), YP w h -> (K w.params).In h)
    (F : ∀ (w : World) (mg : Str -> Option Value) (fa : Addr) (h : Heap), (K w.params).In h -> h.Ns mainGlobals mg -> mg d.name = some (.ref fa) ->
      ∃ fd : FuncData, (∀ (s : Shared) (u : Value), BindsTo s fd ⟨[u], []⟩ [(x, u)]) /\
        ∀ base : Heap, (K w.params).In base -> base.Ns mainGlobals mg -> FnOk l.prog w (K w.params) mg base CX k fa fd [x] (sp (K w.params)))
    (hsp : ∀ (K : Fg) (H : Hp) (a : Addr) (ns : List Int), ns.length <= n -> Only H -> SqL K H a (ns.map V.int) -> sp K [.ref a] H (fun v _ => v = .bl true) fun _ _ _ => False)
    (hCX : ∀ (H : Hp) (s : Shared) (e : Value) (s' : Shared), CX [] H s (fun _ _ _ => False) e s' -> False) :
    PySem.W.WalkO q loose XP YP l.row.toRowW d [] (fun f vs => PySem.call f vs) :=
  bi (K := K) (CX := fun _ => CX) (sp := fun w => sp (K w.params)) hn hn2 hdf hr hY F (fun w H a ns h1 h2 h3 => hsp (K w.params) H a ns h1 h2 h3) fun _ H s e s' => hCX H s e s'
end L2
namespace L2
open PySem PySem.Spec PyProof.Rows
def v6 (s : Stmt) : Arguments := match s with
  | .FunctionDef _ a _ _ _ _ _ _ _ _ => a
  | _ => { posonlyargs := [], args := [], vararg := none, kwonlyargs := [], kw_defaults := [], kwarg := none, defaults := [] }
def zi (s : Stmt) : List Stmt := match s with
  | .FunctionDef _ _ b _ _ _ _ _ _ _ => b
  | _ => []
def zf (s : Stmt) : Scope := match s with
  | .FunctionDef _ _ _ _ _ _ sc _ _ _ => sc
  | _ => { kind := .function, names := [], isGenerator := false, isCoroutine := false }
abbrev CX0 : CXT := fun _ _ _ _ _ _ => False
abbrev E0 : XK := fun _ _ _ => False
theorem pass0 {X : Cx} : kg CX0 X E0 := fun _ _ _ _ _ _ _ h => h.elim
structure Fun (K : Fg) (x qual : Str) (st : Stmt) (f : Addr) (fd : FuncData) : Prop where
  ex : ∃ (oc : Value) (od : Option Addr) (kV doc pm : Value) (an : Option Addr) (cdv ct : Value) (osl : Array (Option Value)),
    fd = PySem.W.fnOf x qual (v6 st) (zi st) (zf st) .none kV doc pm an cdv ct /\ K.lookup f = some ⟨oc, od, .func fd, osl⟩ /\ PySem.W.codeIn K cdv qual = true
  kp : PySem.W.keepIn K (.ref f) = true
section
variable {P : Program} {w : World} {K : Fg} {mg : Str -> Option Value} {base : Heap}
theorem Fun.ok {x qual : Str} {st : Stmt} {f : Addr} {fd : FuncData} {N ps : List Str} {k : Nat} {sp : Sp} (F : Fun K x qual st f fd) (S : yg N ps (zf st)) (len : ∀ vs H Q E, sp vs H Q E -> vs.length = ps.length)
    (hbody : ∀ (cdv : Value) (A : Around) (outer : List Env) (s : Shared) (H : Hp) (vs : List V) (Q : VK) (E : XK), Room k (A.deeper (envOfC qual (zf st) s.heap.objs.size f cdv)) -> sp vs H Q E ->
      ∃ t, PSs (cxOf CX0 P w K mg base N qual (zf st) f cdv A outer s H E).nox (zi st) t /\ t { nx := fun _ H' => Q .non H', rt := Q } (start N vs) H) : FnOk P w K mg base CX0 (k + 1) f fd ps sp := by
  obtain ⟨oc, od, kV, doc, pm, an, cdv, ct, osl, rfl, lk, hcd⟩ := F.ex;refine fn_of lk hcd S len fun A outer s H vs Q E hr hsp => ?_
  obtain ⟨t, h, q⟩ := hbody cdv A outer s H vs Q E hr hsp;exact ⟨t, h.nox, q⟩
theorem Fun.binds {x qual : Str} {st : Stmt} {f : Addr} {fd : FuncData} {ps : List Str} (F : Fun K x qual st f fd)
    (h : ∀ (kV doc pm : Value) (an : Option Addr) (cdv ct : Value) (us : List Value), us.length = ps.length -> bindArgs (PySem.W.fnOf x qual (v6 st) (zi st) (zf st) .none kV doc pm an cdv ct) ⟨us, []⟩ = pure (ps.zip us)) : Binds K fd ps [] := by
  obtain ⟨oc, od, kV, doc, pm, an, cdv, ct, osl, rfl, lk, hcd⟩ := F.ex;exact .all (h kV doc pm an cdv ct)
theorem dz {x qual : Str} {st : Stmt} {f : Addr} {oc : Value} {od an : Option Addr} {osl : Array (Option Value)} {kV doc pm cdv ct : Value} (l : K.lookup f = some ⟨oc, od, .func (PySem.W.fnOf x qual (v6 st) (zi st) (zf st) .none kV doc pm an cdv ct), osl⟩)
    (c : PySem.W.codeIn K cdv qual = true) (k : PySem.W.keepIn K (.ref f) = true) : Fun K x qual st f (PySem.W.fnOf x qual (v6 st) (zi st) (zf st) .none kV doc pm an cdv ct) := ⟨⟨oc, od, kV, doc, pm, an, cdv, ct, osl, rfl, l, c⟩, k⟩
end
theorem hu_of {A : Around} {k : Nat} (hr : Room k A) : A.units + 1 < cLine := Nat.lt_of_le_of_lt (Nat.add_le_add_left (by decide : 1 <= 64) _) hr.units
section
variable {X : Cx}
theorem pv (i : Nat) {x : Str} {pos : Pos} (hN : X.N[i]? = some x := by rfl) (hv : Vis X.env.scope x := by first | exact Or.inl rfl | exact Or.inr (Or.inl rfl) | exact Or.inr (Or.inr rfl)) (hd : (x == ("__debug__" : Str)) = false := by decide)
    (hcd : (x == ("__classdict__" : Str)) = false := by decide) : PE X (.Name x pos) (tVar i) := pe_var hN hv hd hcd
end
theorem iteF {A B : Prop} (h : B) : if false = true then A else B := by
  rw [if_neg Bool.false_ne_true];exact h
theorem iteT {A B : Prop} (h : A) : if true = true then A else B := by
  rw [if_pos rfl];exact h
theorem ite2 {c A B : Prop} [Decidable c] (h1 : c -> A) (h2 : ¬ c -> B) : if c then A else B := by
  by_cases h : c
  . rw [if_pos h]
    exact h1 h
  . rw [if_neg h]
    exact h2 h
theorem kc {c A B : Prop} [Decidable c] (hc : c) (h : B) : if (!decide c) = true then A else B := by
  rw [decide_eq_true hc];exact iteF h
def Same (H H' : Hp) : Prop := ∀ b o, H b = some o -> H' b = some o
theorem Same.refl (H : Hp) : Same H H := fun _ _ h => h
theorem Same.trans {H H1 H2 : Hp} (a : Same H H1) (b : Same H1 H2) : Same H H2 := fun c o h => b c o (a c o h)
theorem Same.free {H H' : Hp} (e : Same H H') {l : Addr} (h : H' l = Option.none) : H l = Option.none := by
  cases q : H l with
  | none => rfl
  | some o =>
    rw [e l o q] at h;cases h
theorem Same.seq {K : Fg} {H H' : Hp} {a : Addr} {xs : List V} (e : Same H H') (h : SqL K H a xs) : SqL K H' a xs := by
  rcases h with (h | ⟨o, h⟩) | h
  . exact .inl (.inl (e _ _ h))
  . exact .inl (.inr ⟨o, e _ _ h⟩)
  . exact .inr h
end L2
namespace L2
open PySem PySem.Spec PyProof.Rows
section
variable {κ : Type} [DecidableEq κ]
def valV (kvs : List (κ × V)) (k : κ) : Option V := (kvs.find? fun kv => decide (kv.1 = k)).map (·.2)
def putK (kvs : List (κ × V)) (k : κ) (v : V) : List (κ × V) :=
  if (kvs.any fun kv => decide (kv.1 = k)) = true then kvs.map (fun kv => if kv.1 = k then (kv.1, v) else kv) else kvs ++ [(k, v)]
def dropK (kvs : List (κ × V)) (k : κ) : List (κ × V) := kvs.filter fun kv => decide (kv.1 ≠ k)
theorem p8 {p : κ × V} {r : List (κ × V)} {k : κ} (e : p.1 = k) : valV (p :: r) k = some p.2 := by simp [valV, Yc, e]
theorem pw {p : κ × V} {r : List (κ × V)} {k : κ} (e : ¬ p.1 = k) : valV (p :: r) k = valV r k := by simp [valV, Yc, e]
theorem jk (k : κ) : ∀ kvs : List (κ × V), (kvs.any fun kv => decide (kv.1 = k)) = (valV kvs k).isSome
  | [] => rfl
  | p :: r => by
    rw [List.any_cons]
    by_cases e : p.1 = k
    . simp only [p8 e, decide_eq_true e, Bool.true_or, Option.isSome_some]
    . rw [pw e, decide_eq_false e, Bool.false_or]; exact jk k r
theorem RelO.isSome_eq {o : Option V} {u : Option Value} (r : RelO o u) : o.isSome = u.isSome := by
  cases o with
  | none => cases u with
    | none => rfl
    | some _ => exact (show False from r).elim
  | some _ => cases u with
    | none => exact (show False from r).elim
    | some _ => rfl
theorem RelO.getD {o : Option V} {u : Option Value} {d : V} {d' : Value} (r : RelO o u) (rd : RelV d d') : RelV (o.getD d) (u.getD d') := by
  cases o with
  | none => cases u with
    | none => exact rd
    | some _ => exact (show False from r).elim
  | some _ => cases u with
    | none => exact (show False from r).elim
    | some _ => exact r
theorem KV.val {kvs : List (κ × V)} {vs : List (κ × Value)} (r : KV kvs vs) (k : κ) : RelO (valV kvs k) (valueAt vs k) := by
  unfold KV at r
  induction r with
  | nil => exact True.intro
  | @cons p q ps qs h t ih =>
    obtain ⟨h1, h2⟩ := h
    by_cases e : p.1 = k
    . have e' : q.1 = k := h1.symm.trans e
      have b : valueAt (q :: qs) k = some q.2 := by simp [valueAt, Yc, e']
      rw [p8 e, b]; exact h2
    . have e' : ¬ q.1 = k := fun z => e (h1.trans z)
      have b : valueAt (q :: qs) k = valueAt qs k := by simp [valueAt, Yc, e']
      rw [pw e, b]; exact ih
theorem KV.any {kvs : List (κ × V)} {vs : List (κ × Value)} (r : KV kvs vs) (k : κ) : (kvs.any fun kv => decide (kv.1 = k)) = vs.any fun kv => decide (kv.1 = k) := by
  unfold KV at r
  induction r with
  | nil => rfl
  | cons h t ih => rw [List.any_cons, List.any_cons, ih, h.1]
theorem KV.repl {kvs : List (κ × V)} {vs : List (κ × Value)} (r : KV kvs vs) (k : κ) {y : V} {u : Value} (ry : RelV y u) :
    KV (kvs.map fun kv => if kv.1 = k then (kv.1, y) else kv) (vs.map fun kv => if kv.1 = k then (kv.1, u) else kv) := by
  unfold KV at r ⊢
  induction r with
  | nil => exact .nil
  | @cons p q ps qs h t ih =>
    rw [ZU, ZU];refine .cons ?_ ih;obtain ⟨h1, h2⟩ := h
    by_cases e : p.1 = k
    . rw [if_pos e, if_pos (h1.symm.trans e)]; exact ⟨h1, ry⟩
    . rw [if_neg e, if_neg (fun z => e (h1.trans z))]; exact ⟨h1, h2⟩
theorem KV.put {kvs : List (κ × V)} {vs : List (κ × Value)} (r : KV kvs vs) (k : κ) {y : V} {u : Value} (ry : RelV y u) : KV (putK kvs k y) (stored vs k u) := by
  unfold putK stored;rw [r.any k]
  by_cases e : (vs.any fun kv => decide (kv.1 = k)) = true
  . rw [if_pos e, if_pos e]; exact r.repl k ry
  . rw [if_neg e, if_neg e]; exact Paired.snoc r ⟨rfl, ry⟩
theorem KV.drop {kvs : List (κ × V)} {vs : List (κ × Value)} (r : KV kvs vs) (k : κ) : KV (dropK kvs k) (without vs k) := by
  unfold KV at r ⊢;unfold dropK without
  induction r with
  | nil => exact .nil
  | @cons p q ps qs h t ih =>
    obtain ⟨h1, h2⟩ := h;rw [List.filter_cons, List.filter_cons]
    by_cases e : p.1 = k
    . have a : ¬ decide (p.1 ≠ k) = true := by simp [e]
      have b : ¬ decide (q.1 ≠ k) = true := by simp [h1.symm.trans e]
      rw [if_neg a, if_neg b]; exact ih
    . have e' : ¬ q.1 = k := fun z => e (h1.trans z)
      have a : decide (p.1 ≠ k) = true := by simp [e]
      have b : decide (q.1 ≠ k) = true := by simp [e']
      rw [if_pos a, if_pos b]; exact .cons ⟨h1, h2⟩ ih
theorem KV.keys {kvs : List (κ × V)} {vs : List (κ × Value)} (r : KV kvs vs) : kvs.map (·.1) = vs.map (·.1) := by
  unfold KV at r
  induction r with
  | nil => rfl
  | cons h t ih => rw [ZU, ZU, ih, h.1]
theorem KV.length {kvs : List (κ × V)} {vs : List (κ × Value)} (r : KV kvs vs) : kvs.length = vs.length := Paired.length r
end
abbrev KT (H : Hp) : List (List Key × V) -> List (List Key × Addr × Value) -> Prop := Paired fun p q => p.1 = q.1 /\ H q.2.1 = some (.tup (p.1.map kV)) /\ RelV p.2 q.2.2
theorem KT.val {H : Hp} {kvs : List (List Key × V)} {xs : List (List Key × Addr × Value)} (r : KT H kvs xs) (k : List Key) : RelO (valV kvs k) ((atKey xs k).map (·.2)) := by
  induction r with
  | nil => exact True.intro
  | @cons p q ps qs h t ih =>
    obtain ⟨h1, _, h2⟩ := h
    by_cases e : p.1 = k
    . have e' : q.1 = k := h1.symm.trans e
      have b : atKey (q :: qs) k = some q.2 := by simp [atKey, Yc, e']
      rw [p8 e, b]; exact h2
    . have e' : ¬ q.1 = k := fun z => e (h1.trans z)
      have b : atKey (q :: qs) k = atKey qs k := by simp [atKey, Yc, e']
      rw [pw e, b]; exact ih
theorem KT.repl {H : Hp} {kvs : List (List Key × V)} {xs : List (List Key × Addr × Value)} (r : KT H kvs xs) (k : List Key) {y : V} {u : Value} (ry : RelV y u) :
    KT H (kvs.map fun kv => if kv.1 = k then (kv.1, y) else kv) (xs.map (putAt k u)) := by
  induction r with
  | nil => exact .nil
  | @cons p q ps qs h t ih =>
    rw [ZU, ZU];refine .cons ?_ ih;obtain ⟨h1, h2, h3⟩ := h;unfold putAt
    by_cases e : p.1 = k
    . rw [if_pos e, if_pos (h1.symm.trans e)]; exact ⟨h1, h2, ry⟩
    . rw [if_neg e, if_neg (fun z => e (h1.trans z))]; exact ⟨h1, h2, h3⟩
theorem KT.put {H : Hp} {kvs : List (List Key × V)} {xs : List (List Key × Addr × Value)} (r : KT H kvs xs) (k : List Key) {b : Addr} {y : V} {u : Value} (hb : H b = some (.tup (k.map kV))) (ry : RelV y u) :
    KT H (putK kvs k y) (storedH xs k b u) := by
  have e : (kvs.any fun kv => decide (kv.1 = k)) = (atKey xs k).isSome := by
    rw [jk, (r.val k).isSome_eq, Option.isSome_map]
  unfold putK storedH;rw [e]
  by_cases q : (atKey xs k).isSome = true
  . rw [if_pos q, if_pos q]; exact r.repl k ry
  . rw [if_neg q, if_neg q]; exact Paired.snoc r ⟨rfl, hb, ry⟩
theorem KT.keeps {H H' : Hp} {kvs : List (List Key × V)} {xs : List (List Key × Addr × Value)} (r : KT H kvs xs) (ht : ∀ b ys, H b = some (.tup ys) -> H' b = some (.tup ys)) : KT H' kvs xs :=
  Paired.mapP r fun _ _ z => ⟨z.1, ht _ _ z.2.1, z.2.2⟩
section
variable {P : Program} {w : World} {H : Hp} {h : Heap} {a : Addr}
end
def DGet (H : Hp) (a : Addr) (y : V) (r : Option V) : Prop :=
  (∃ kvs k, Rd H a (.dK kvs) /\ y = kV k /\ r = valV kvs k) \/ ∃ kvs k b, Rd H a (.dT kvs) /\ y = .ref b /\ H b = some (.tup (k.map kV)) /\ r = valV kvs k
def DPut (H : Hp) (a : Addr) (y v : V) (H' : Hp) : Prop :=
  (∃ kvs k, H a = some (.dK kvs) /\ y = kV k /\ kvs.length < sizeLine /\ H' = upd H a (.dK (putK kvs k v))) \/
  ∃ kvs k b, H a = some (.dT kvs) /\ y = .ref b /\ H b = some (.tup (k.map kV)) /\ kvs.length < sizeLine /\ H' = upd H a (.dT (putK kvs k v))
theorem DGet.k {H : Hp} {a : Addr} {kvs : List (Key × V)} {k : Key} (e : H a = some (.dK kvs)) : DGet H a (kV k) (valV kvs k) := .inl ⟨kvs, k, .inl e, rfl, rfl⟩
theorem DGet.t {H : Hp} {a b : Addr} {kvs : List (List Key × V)} {k : List Key} (e : H a = some (.dT kvs)) (eb : H b = some (.tup (k.map kV))) : DGet H a (.ref b) (valV kvs k) := .inr ⟨kvs, k, b, .inl e, rfl, eb, rfl⟩
theorem DPut.k {H : Hp} {a : Addr} {kvs : List (Key × V)} {k : Key} {v : V} (e : H a = some (.dK kvs)) (hl : kvs.length < sizeLine) : DPut H a (kV k) v (upd H a (.dK (putK kvs k v))) := .inl ⟨kvs, k, e, rfl, hl, rfl⟩
theorem DPut.t {H : Hp} {a b : Addr} {kvs : List (List Key × V)} {k : List Key} {v : V} (e : H a = some (.dT kvs)) (eb : H b = some (.tup (k.map kV))) (hl : kvs.length < sizeLine) :
    DPut H a (.ref b) v (upd H a (.dT (putK kvs k v))) := .inr ⟨kvs, k, b, e, rfl, eb, hl, rfl⟩
section
variable {X : Cx} {pins : List (Addr × Obj)} {σ : St} {H : Hp} {s : Shared} {a : Addr} {y v : V} {u r : Value} {o : Option V} {A : Around} {E : Value -> Shared -> Prop}
theorem Inv.big (I : Inv X pins σ H s) : sysModules < s.heap.objs.size := by
  have h : mainGlobals < s.heap.objs.size := (I.mod.glob.keeps I.bk).lt;exact Nat.lt_trans (by decide) h
end
section
variable {X : Cx} {pins : List (Addr × Obj)} {σ : St} {H : Hp} {s : Shared} {a : Addr} {kvs : List (Key × V)} {k : Key} {u : Value} {A : Around} {E : Value -> Shared -> Prop}
end
def tDGet (td ty : TE) : TE := fun σ H Q => td σ H fun x H1 => ty σ H1 fun y H2 => ∃ a v, x = .ref a /\ DGet H2 a y (some v) /\ Q v H2
section
variable {X : Cx} {o i e value : Expr} {pos pos' tpos : Pos} {td ty tv : TE}
end
theorem cg {P : Program} {w : World} {H : Hp} (h : Heap) (hb : sysModules < h.objs.size) : ObjOk P w H (h.push { cls := .type "dict", data := .dict #[] }) h.objs.size (.dK []) :=
  ⟨ZD _, beq_eq_false_iff_ne.mpr (Ne.symm (Zs hb)), [], .nil, Heap.DictOf.new h⟩
def km : TE := fun _ H Q => ∀ p, H p = none -> Q (.ref p) (upd H p (.dK []))
def tDNewT : TE := fun _ H Q => ∀ p, H p = none -> Q (.ref p) (upd H p (.dT []))
section
variable {X : Cx} {pos : Pos}
theorem cz : PE X (.Dict [] [] pos) km := fun pins s σ H Q I h =>
  wpAny_Dict_empty ⟨.ref s.heap.objs.size, _, I.laid (a := s.heap.objs.size) (o := .dK []) (t' := s.toks) (fun _ _ q => Heap.get?_push_of_some _ q) (Zm _) (cg s.heap I.big), rfl, h _ (I.hok.fresh (Zm _))⟩
end
section
variable {X : Cx} {pins : List (Addr × Obj)} {σ : St} {H : Hp} {s : Shared} {a : Addr} {y d : V} {u r : Value} {o : Option V} {A : Around} {E : Value -> Shared -> Prop}
end
section
variable {X : Cx} {o e f : Expr} {apos cpos : Pos} {td ty tx : TE}
end
section
variable {X : Cx} {pins : List (Addr × Obj)} {σ : St} {H : Hp} {s : Shared} {a : Addr} {kvs : List (Key × V)} {A : Around} {E : Value -> Shared -> Prop}
end
section
variable {X : Cx} {pins : List (Addr × Obj)} {σ : St} {H : Hp} {s : Shared} {a : Addr} {y : V} {u : Value} {A : Around} {E : Value -> Shared -> Prop}
end
end L2
namespace L2
open PySem PySem.Spec PyProof.Rows
section
variable {X : Cx}
end
section
variable {κ : Type} [DecidableEq κ]
end
end L2
namespace L2
open PySem PySem.Spec PyProof.Rows
def ni (ns : List (Str × NameKind)) (y n : Str) : Bool := match ns.lookup y with
  | some .free => y == n
  | some .local => false
  | some .cell => false
  | _ => true
def vn (ns : List (Str × NameKind)) : List Str -> List Str -> Bool
  | [], [] => true
  | y :: ys, n :: ms => ni ns y n && vn ns ys ms
  | _, _ => false
def rj (ns : List (Str × NameKind)) (env : Env) : Bool := ns.all fun y => !(y.2 == .free) || (env.kindOf y.1 == some .cell || env.kindOf y.1 == some .free)
def qc (ns : List (Str × NameKind)) : Bool := ns.all fun y => !(y.2 == .cell) && (!(y.2 == .local) || ns.lookup y.1 == some .local)
theorem o0 {ns : List (Str × NameKind)} : ∀ {N2 N : List Str} {i : Nat} {y : Str}, vn ns N2 N = true -> N2[i]? = some y -> ni ns y y = true /\ (ns.lookup y = some .free -> N[i]? = some y)
  | [], [], _, _, _, e => by simp at e
  | y' :: ys, n :: ms, 0, y, h, e => by
    simp at e; subst e;unfold vn at h;rw [Bool.and_eq_true] at h;refine ⟨?_, fun hf => ?_⟩
    . have h1 := h.1
      unfold ni at h1 ⊢
      split at h1 <;> first | rfl | (exact absurd h1 Bool.false_ne_true) | (exact beq_self_eq_true _)
    . have h1 := h.1
      unfold ni at h1;rw [hf] at h1;have e : y' = n := eq_of_beq h1;simp [e]
  | y' :: ys, n :: ms, i + 1, y, h, e => by
    unfold vn at h;rw [Bool.and_eq_true] at h;obtain ⟨h1, h2⟩ := o0 (i := i) (y := y) h.2 (by simpa using e);exact ⟨h1, fun hf => by simpa using h2 hf⟩
  | [], _ :: _, _, _, h, _ => by cases h
  | _ :: _, [], _, _, h, _ => by cases h
theorem ro {ns : List (Str × NameKind)} {env : Env} (h : rj ns env = true) {y : Str × NameKind} (hy : y ∈ ns) (hf : y.2 = .free) : env.kindOf y.1 = some .cell \/ env.kindOf y.1 = some .free := by
  have q := ZK.mp h y hy;rw [hf] at q
  simpa using q
theorem on {ns : List (Str × NameKind)} (h : qc ns = true) : ∀ y ∈ ns, y.2 ≠ .cell := fun y hy e => by
  have q := ZK.mp h y hy;rw [e] at q;simp at q
theorem pi {ns : List (Str × NameKind)} (h : qc ns = true) : ∀ y ∈ ns, y.2 = .local -> ns.lookup y.1 = some .local := fun y hy e => by
  have q := ZK.mp h y hy;rw [e] at q
  simpa using q
theorem um {env : Env} {x : Str} : ∀ {ns : List (Str × NameKind)}, (ns.map fun (n, k) => if (k == NameKind.free && env.scope.kind == .function && env.kindOf n == some .cell) then (n, NameKind.cell) else (n, k)).lookup x =
    (ns.lookup x).map fun k => if (k == NameKind.free && env.scope.kind == .function && env.kindOf x == some .cell) then NameKind.cell else k
  | [] => rfl
  | (n, k) :: r => by
    have ih := @um env x r
    show List.lookup x ((if (k == NameKind.free && env.scope.kind == .function && env.kindOf n == some .cell) = true then (n, NameKind.cell) else (n, k)) :: _) = _
    cases hx : x == n with
    | true =>
      have e : x = n := eq_of_beq hx;subst e;simp only [ZE, beq_self_eq_true]
      by_cases hc : (k == NameKind.free && env.scope.kind == .function && env.kindOf x == some .cell) = true
      . rw [if_pos hc]; simp only [ZE, beq_self_eq_true, Yq]; rw [if_pos hc]
      . rw [if_neg hc]; simp only [ZE, beq_self_eq_true, Yq]; rw [if_neg hc]
    | false =>
      simp only [ZE, hx]
      by_cases hc : (k == NameKind.free && env.scope.kind == .function && env.kindOf n == some .cell) = true
      . rw [if_pos hc]; simp only [ZE, hx]; exact ih
      . rw [if_neg hc]; simp only [ZE, hx]; exact ih
theorem nk {scope : Scope} {env : Env} (h : ∀ y ∈ scope.names, y.2 = .free -> ∃ c, env.cells.lookup y.1 = some c) :
    ∃ cl, closureFor scope env = pure cl /\ (∀ x c, cl.lookup x = some c -> env.cells.lookup x = some c) /\ (∀ y ∈ scope.names, y.2 = .free -> ∃ c, cl.lookup y.1 = some c) := by
  have all : ∀ (ns : List (Str × NameKind)) (cs : List (Str × Addr)), (∀ y ∈ ns, y.2 = .free -> ∃ c, env.cells.lookup y.1 = some c) -> (∀ x c, cs.lookup x = some c -> env.cells.lookup x = some c) ->
      ∃ cl, (forIn ns cs fun x r => (if (x.2 == NameKind.free) = true then do let a <- cellOf env x.1; pure (ForInStep.yield ((x.1, a) :: r)) else pure (ForInStep.yield r) : Sem (ForInStep (List (Str × Addr))))) = pure cl /\
        (∀ x c, cl.lookup x = some c -> env.cells.lookup x = some c) /\ (∀ x, (cs.lookup x).isSome = true -> (cl.lookup x).isSome = true) /\ (∀ y ∈ ns, y.2 = .free -> ∃ c, cl.lookup y.1 = some c) := by
    intro ns
    induction ns with
    | nil => intro cs _ hc; exact ⟨cs, rfl, hc, fun _ z => z, fun _ z => nomatch z⟩
    | cons y r ih =>
      intro cs hh hc;have hr : ∀ z ∈ r, z.2 = .free -> ∃ c, env.cells.lookup z.1 = some c := fun z hz => hh z (Zv _ hz)
      by_cases hf : y.2 = .free
      . obtain ⟨c, ec⟩ := hh y Zz hf
        have hc' : ∀ x d, ((y.1, c) :: cs).lookup x = some d -> env.cells.lookup x = some d := fun x d e => by
          rw [ZE] at e
          cases hx : x == y.1 with
          | true =>
            rw [hx] at e;have e2 : x = y.1 := eq_of_beq hx;cases e;rw [e2]; exact ec
          | false =>
            rw [hx] at e;exact hc x d e
        obtain ⟨cl, e1, e2, e3, e4⟩ := ih ((y.1, c) :: cs) hr hc';refine ⟨cl, ?_, e2, fun x hx => e3 x ?_, fun z hz hzf => ?_⟩
        . rw [List.forIn_cons]
          have ek : (y.2 == NameKind.free) = true := by rw [hf]; rfl
          simp only [ek, if_true, cellOf, ec, pure_bind];exact e1
        . rw [ZE]; split <;> first | rfl | exact hx
        . rcases ZJ.mp hz with rfl | hz
          . have := e3 z.1 (by rw [ZE, beq_self_eq_true]; rfl)
            exact Option.isSome_iff_exists.mp this
          . exact e4 z hz hzf
      . obtain ⟨cl, e1, e2, e3, e4⟩ := ih cs hr hc
        refine ⟨cl, ?_, e2, e3, fun z hz hzf => ?_⟩
        . rw [List.forIn_cons]
          have ek : (y.2 == NameKind.free) = false := by simpa using hf
          simp only [ek, Bool.false_eq_true, if_false, pure_bind];exact e1
        . rcases ZJ.mp hz with rfl | hz
          . exact absurd hzf hf
          . exact e4 z hz hzf
  obtain ⟨cl, e1, e2, _, e4⟩ := all scope.names [] h (fun _ _ z => by cases z);refine ⟨cl, ?_, e2, e4⟩;unfold closureFor
  first
    | (rw [show (forIn scope.names ([] : List (Str × Addr)) _ : Sem (List (Str × Addr))) = pure cl from e1]; rfl)
    | (simp only [bind_pure]; exact e1)
    | (show (forIn scope.names [] _ >>= _) = _; exact (congrArg (fun t => t >>= fun cs => pure cs) e1))
structure Dyn where
  cl : List (Str × Addr)
  C : Addr
  s₀ : Shared
  H₀ : Hp
  fp : List Addr
abbrev y1 (X : Cx) (scope : Scope) (N' : List Str) (d : Dyn) : Cx where
  prog := X.prog
  w := X.w
  K := X.K
  mg := X.mg
  base := X.base
  A := X.A
  N := N'
  s₀ := d.s₀
  H₀ := d.H₀
  env := compEnvC scope d.cl d.C X.env
  outer := X.stack
  stack := X.stack
  ex := d.fp
  fn := fun _ => false
  calm := true
  pn := []
  xe := fun _ _ => False
theorem jx {prog : Program} {w : World} {A : Around} {R : Result -> Shared -> Prop} {s : Shared} {elt target iter : Expr} {ifs : List Expr} {scope : Scope} {pos : Pos} {it acc : Value} {env : Env} (I : Nat -> Shared -> Prop)
    (turn : ∀ n s, I n s -> wpAny (model prog w) A (pyNext it) (fun r s₁ => match r with
      | none => R (.ok .next) s₁
      | some v => wpAny (model prog w) A (letOwnedTupleGo target it v) (fun _ s₁' => wpAny (model prog w) A (assign target env v) (fun _ s₂ =>
          wpAny (model prog w) A (forIn ifs true fun c r => if r = true then do let ok <- isTrue c env (eval c env); pure (ForInStep.yield ok) else pure (ForInStep.yield r)) (fun ok s₃ =>
            if ok = true then wpAny (model prog w) A (eval elt env) (fun x s₄ =>
              wpAny (model prog w) A (call (.builtin "list.append") [acc, x]) (fun _ s₅ => ∃ m, m < n /\ I m s₅) (fun _ _ => False) s₄) (fun _ _ => False) s₃
            else ∃ m, m < n /\ I m s₃) (fun _ _ => False) s₂) (fun _ _ => False) s₁') (fun _ _ => False) s₁) (fun _ _ => False) s)
    (n : Nat) (h : I n s) :
    codeAny (model prog w) A (.compLoop (.ListComp elt [⟨target, iter, ifs, 0⟩] scope pos) 0 it acc env) R s := by
  refine codeAny_loop rfl I (fun n s hI => ?_) n h
  show wpAny _ A ((compTurn (.ListComp elt [⟨target, iter, ifs, 0⟩] scope pos) 0 it acc env).onRaise (fun x => do noteFrame x env; theTreesLotGoes x)) _ _ s
  refine wpAny_noted ?_;rw [compTurn_list];refine wpAny_bind (wpAny_standAt (wpAny_bind (wpAny_mono (turn n s hI) (fun r s₁ h₁ => ?_) fun _ _ f => f.elim)))
  cases r with
  | none => exact wpAny_pure h₁
  | some v =>
    refine wpAny_bind (wpAny_mono h₁ (fun _ s₁' h₁' => ?_) fun _ _ f => f.elim);refine wpAny_bind (wpAny_mono h₁' (fun _ s₂ h₂ => wpAny_bind (wpAny_mono h₂ (fun ok s₃ h₃ => ?_) fun _ _ f => f.elim)) fun _ _ f => f.elim)
    cases ok with
    | false => exact wpAny_pure ⟨rfl, h₃⟩
    | true =>
      exact wpAny_bind (wpAny_bind (wpAny_mono h₃ (fun x s₄ h₄ => wpAny_bind (wpAny_mono h₄ (fun _ s₅ h₅ => wpAny_pure (wpAny_pure ⟨rfl, h₅⟩)) fun _ _ f => f.elim)) fun _ _ f => f.elim))
def PTs (X : Cx) (ifs : List Expr) (t : TT) : Prop :=
  ∀ (pins : List (Addr × Obj)) (s : Shared) (σ : St) (H : Hp) (Q : Bool -> Hp -> Prop), Inv X pins σ H s -> t σ H Q ->
    wpAny (model X.prog X.w) X.A (forIn ifs true fun c r => if r = true then do let ok <- isTrue c X.env (eval c X.env); pure (ForInStep.yield ok) else pure (ForInStep.yield r)) (TP X pins σ Q) X.xe s
def tAll : TT := fun _ H Q => Q true H
theorem yi {X : Cx} : PTs X [] tAll := fun _ _ _ H _ I h => wpAny_tests_nil ⟨H, I, h⟩
def rp (J : It) (σ : St) (k : Nat) (g : TG) (tt : TT) (te : TE) (H1 : Hp) (Fin : List V -> Hp -> Prop) : Prop :=
  ∃ W : Nat -> Nat -> List V -> Hp -> Prop, (∃ m, W 0 m [] H1) /\ ∀ i m ys H, W i m ys H -> ys.length <= sizeLine /\
    ((J.stop i H /\ Fin ys H) \/ (J.go i H /\ ∃ N : List V -> Hp -> Prop, (∀ ys' H', N ys' H' -> ∃ m', m' < m /\ W (i + 1) m' ys' H') /\ ∀ x H', J.yld i H x H' -> g x (List.replicate k none ++ σ) H' fun σ2 H2 => σ2.drop k = σ /\
      tt σ2 H2 fun b H3 => if b = true then te σ2 H3 fun v H4 => N (ys ++ [v]) H4 else N ys H3))
abbrev lobj (its : List Value) : Obj := { cls := .type "list", data := .seq its.toArray its.length }
section
variable {X : Cx} {pins : List (Addr × Obj)} {σ : St} {H2 : Hp} {s₂ : Shared} {scope : Scope} {ts N2 : List Str} {cl : List (Str × Addr)} {C D : Addr} {fp : List Addr}
theorem ao (I2 : Inv X pins σ H2 s₂) (hc : X.calm = true) (f2 : ∀ b ∈ fp, FpOk X pins H2 b /\ b < s₂.heap.objs.size) (hkind : scope.kind = .function) (hown : qc scope.names = true) (hfree : rj scope.names X.env = true)
    (hcl1 : ∀ x c, cl.lookup x = some c -> X.env.cells.lookup x = some c) (hcl2 : ∀ y ∈ scope.names, y.2 = .free -> ∃ c, cl.lookup y.1 = some c) (hC : s₂.heap.objs.size <= C) :
    (y1 X scope (ts ++ N2) ⟨cl, C, s₂, H2, fp⟩).Ok := by
  refine ⟨I2.ok.mod, hkind, I2.ok.glob, I2.ok.blt, hC, fun x y c e1 e2 => I2.ok.inj x y c (hcl1 _ _ e1) (hcl1 _ _ e2), fun x hx => ?_, fun x c z _ => absurd (show false = true from z) Bool.false_ne_true, fun _ => I2.ok.hd hc, I2.ok.frames, .inl rfl, fun b hb => ?_, I2.bs, Zd I2.ok.bsz I2.sz, fun b o e hb => ?_, fun b hb hfs => ?_, I2.stack, I2.stkFree⟩
  . have hx' : (relabel scope X.env).names.lookup x = some .cell \/ (relabel scope X.env).names.lookup x = some .free := hx
    have e0 : (relabel scope X.env).names.lookup x = _ := um (env := X.env) (x := x) (ns := scope.names);rw [e0] at hx'
    cases q : scope.names.lookup x with
    | none => rw [q] at hx'; simp at hx'
    | some k =>
      rw [q] at hx';simp only [Yq, Option.some.injEq] at hx';have hm : (x, k) ∈ scope.names := PySem.mem_of_lookup q
      have hk : k = .free := by
        have nc := on hown _ hm
        split at hx'
        . rename_i hcond
          simp only [Bool.and_eq_true] at hcond;exact eq_of_beq hcond.1.1
        . rcases hx' with z | z
          . exact absurd z nc
          . exact z
      exact hcl2 _ hm hk
  . obtain ⟨⟨f0, f1, f3, f4, f5, f6⟩, hlt⟩ := f2 b hb
    exact ⟨Zs (Zh hlt hC), fun x c e => f5 x c (hcl1 x c e)⟩
  . obtain ⟨⟨f0, f1, f3, f4, f5, f6⟩, hlt⟩ := f2 b hb
    rcases f4 with z | z
    . exact I2.ok.noex b o e z
    . exact absurd (Zh (Heap.lt_size e) (Zd I2.ok.bsz z)) (ZH _)
  . obtain ⟨⟨f0, f1, f3, f4, f5, f6⟩, hlt⟩ := f2 b hb
    rcases ZJ.mp (I2.stkSub b hfs) with z | z
    . exact f1 z
    . exact f3 z
theorem gm (I2 : Inv X pins σ H2 s₂) (hc : X.calm = true) (f2 : ∀ b ∈ fp, FpOk X pins H2 b /\ b < s₂.heap.objs.size) (hkind : scope.kind = .function) (hown : qc scope.names = true) (hfree : rj scope.names X.env = true) (hout : vn scope.names N2 X.N = true)
    (hcl1 : ∀ x c, cl.lookup x = some c -> X.env.cells.lookup x = some c) (hcl2 : ∀ y ∈ scope.names, y.2 = .free -> ∃ c, cl.lookup y.1 = some c) (hC : s₂.heap.objs.size <= C) (hDC : D ≠ C) (hD : s₂.heap.objs.size <= D)
    {h₁ : Heap} {tk : Nat} {m : Str -> Option Value} (hn : h₁.Ns C m) (old : ∀ b o, s₂.heap.get? b = some o -> h₁.get? b = some o) (hacc : h₁.get? D = some (lobj [])) :
    Inv (y1 X scope (ts ++ N2) ⟨cl, C, s₂, H2, fp⟩) [(D, lobj [])] (List.replicate ts.length none ++ σ) H2 { s₂ with heap := h₁, toks := tk } := by
  have ok := ao (ts := ts) (N2 := N2) I2 hc f2 hkind hown hfree hcl1 hcl2 hC
  have hlN : ∀ {a b : List Str}, vn scope.names a b = true -> a.length = b.length := by
    intro a
    induction a with
    | nil => intro b h; cases b with | nil => rfl | cons _ _ => cases h
    | cons y ys ih =>
      intro b h
      cases b with
      | nil => cases h
      | cons n ms =>
        unfold vn at h;rw [Bool.and_eq_true] at h;rw [ZR, ZR, ih h.2]
  refine ⟨ok, rfl, I2.bare, Un.kept old, ⟨m, hn, fun i x v e1 e2 e3 => ?_⟩, fun x c e => ?_, ?_, fun x c e => I2.freeC x c (hcl1 x c e), fun p hp => ?_, I2.hok.kept old, ?_⟩
  . by_cases hi : i < ts.length
    . rw [Zg (by simpa using hi), Yn] at e2
      split at e2 <;> cases e2
    . have hi' : ts.length <= i := ZC.mp hi
      rw [Zf (by simpa using hi')] at e2;rw [ZG] at e2;have e1' : (ts ++ N2)[i]? = some x := e1;rw [Zf hi'] at e1';obtain ⟨k1, k2⟩ := o0 hout e1';have e0 : (relabel scope X.env).names.lookup x = _ := um (env := X.env) (x := x) (ns := scope.names);have e3' : (relabel scope X.env).names.lookup x = some .local \/ (relabel scope X.env).names.lookup x = some .cell \/ (relabel scope X.env).names.lookup x = some .free := e3;rw [e0] at e3'
      cases q : scope.names.lookup x with
      | none => rw [q] at e3'; simp at e3'
      | some k =>
        have hm : (x, k) ∈ scope.names := PySem.mem_of_lookup q
        have hk : k = .free := by
          unfold ni at k1;rw [q] at k1 e3'
          cases k with
          | free => rfl
          | «local» => cases k1
          | cell => cases k1
          | _ => exfalso; revert e3'; simp
        subst hk;obtain ⟨mo, hmo, hl⟩ := I2.loc;have hkv := ro hfree hm rfl;have vis : Vis X.env.scope x := hkv.elim (fun z => .inr (.inl z)) fun z => .inr (.inr z)
        obtain ⟨u, r, l⟩ := hl _ x v (k2 q) e2 vis;refine ⟨u, r, .inr ⟨?_, ?_⟩⟩
        . show (relabel scope X.env).names.lookup x = some .cell \/ (relabel scope X.env).names.lookup x = some .free
          rw [e0, q];simp only [Yq, Option.some.injEq]
          split
          . exact .inl rfl
          . exact .inr rfl
        . rcases l with ⟨kl, _⟩ | ⟨_, c, ec, z⟩
          . exfalso
            rcases hkv with z | z <;> (rw [kl] at z; cases z)
          . obtain ⟨c', ec'⟩ := hcl2 _ hm rfl
            have := hcl1 _ _ ec';rw [ec] at this;cases this;obtain ⟨o, ho, hd⟩ := z;exact ⟨c, ec', o, old _ _ ho, hd⟩
  . obtain ⟨v, o, ho, hd⟩ := I2.cell x c (hcl1 x c e)
    exact ⟨v, o, old _ _ ho, hd⟩
  . exact I2.hok.fresh hC
  . have e : p = (D, lobj []) := by simpa using hp
    subst e;refine ⟨hacc, I2.hok.fresh hD, hDC, fun z => ?_, fun v z => by cases z⟩
    rcases ZJ.mp (I2.stkSub D z) with z | z
    . exact absurd (Zh I2.lt (by rw [<- z]; exact hD)) (ZH _)
    . exact I2.nofs hD z
  . show (List.replicate ts.length none ++ σ).length = (ts ++ N2).length
    rw [Zo, Zo, ZG, I2.len, hlN hout]
theorem d6 (I2 : Inv X pins σ H2 s₂) (f2 : ∀ b ∈ fp, FpOk X pins H2 b) (hD : s₂.heap.objs.size <= D) {σ' : St} {H' : Hp} {s' : Shared} {its : List Value} {ys : List V} {pl : List (Addr × Obj)}
    (J : Inv (y1 X scope (ts ++ N2) ⟨cl, C, s₂, H2, fp⟩) pl σ' H' s') (hp : s'.heap.get? D = some (lobj its)) (hn : H' D = none) (hv : Vals ys its) (hz : ys.length <= sizeLine) : Inv X pins σ (upd H' D (.lst ys)) s' := by
  have neD : ∀ b o, s₂.heap.get? b = some o -> b ≠ D := fun b o e => Zs (Zh (Heap.lt_size e) hD)
  have neH : ∀ b o, H2 b = some o -> b ≠ D := fun b o e => Zs (Zh (I2.hok.lt e) hD)
  have u := J.base
  have un : Un (frs X.stack) fp H2 (upd H' D (.lst ys)) s₂.heap s'.heap :=
    ⟨u.keep, u.slot, fun b o e n hx => by rw [z0 (neD b o e)]; exact u.free b o e n hx, u.there, fun b xs e => by rw [z0 (neH b _ e)]; exact u.tups b xs e, fun b o v e => by rw [z0 (neH b _ e)]; exact u.frzs b o v e,
      fun b ps e => by rw [z0 (neH b _ e)]; exact u.tbls b ps e⟩
  have hok : HOk X.prog X.w (upd H' D (.lst ys)) s'.heap := fun b o e => by
    by_cases hb : b = D
    . subst hb
      rw [ze] at e;cases e;exact ⟨hz, its, its.length, hv, hp⟩
    . rw [z0 hb] at e
      exact (J.hok b o e).stay (fun c v _ q => q) (fun c q => by rw [z0 (y8 q hn)]; exact q) fun c xs q => by rw [z0 (y8 q hn)]; exact q
  exact I2.call' (ch := fp) J.os un hok J.bare fun b hb => by
    obtain ⟨f0, f1, f3, f4, f5, f6⟩ := f2 b hb;exact ⟨f4, f1, f5, f6⟩
theorem o9 {E : Value -> Shared -> Prop} {tg elt iter : Expr} {ifs : List Expr} {pos : Pos} {it : Addr} {tn : Nat -> Heap -> Prop} {J : It} {g : Dyn -> TG} {tt : Dyn -> TT} {te : Dyn -> TE} {RR : Value -> Addr -> Result -> Shared -> Prop} {Fin : List V -> Hp -> Prop}
    (I2 : Inv X pins σ H2 s₂) (hc : X.calm = true) (T : Turn X.prog X.w X.K tg J fp it tn) (st : tn 0 s₂.heap) (f2 : ∀ b ∈ fp, FpOk X pins H2 b) (hkind : scope.kind = .function) (hown : qc scope.names = true) (hfree : rj scope.names X.env = true) (hout : vn scope.names N2 X.N = true)
    (hcl1 : ∀ x c, cl.lookup x = some c -> X.env.cells.lookup x = some c) (hcl2 : ∀ y ∈ scope.names, y.2 = .free -> ∃ c, cl.lookup y.1 = some c)
    (hg : ∀ d, PG (y1 X scope (ts ++ N2) d) tg (g d)) (ht : ∀ d, PTs (y1 X scope (ts ++ N2) d) ifs (tt d)) (he : ∀ d, PE (y1 X scope (ts ++ N2) d) elt (te d))
    (hW : ∀ d, rp J σ ts.length (g d) (tt d) (te d) H2 Fin)
    (hRR : ∀ D C s' H' ys, s₂.heap.objs.size <= C -> C ≠ D -> Inv X pins σ (upd H' D (.lst ys)) s' -> H' D = none -> H' C = none -> (∃ m, s'.heap.Ns C m) -> ys.length <= sizeLine -> Fin ys H' -> RR (.ref D) C (.ok .next) s') :
    wpAny (model X.prog X.w) X.A (newList []) (fun acc s₃ => wpAny (model X.prog X.w) X.A (newFunctionEnv scope X.env.globals cl [] X.env.qual none .none (some X.env)) (fun cenv s₄ =>
      codeAny (model X.prog X.w) X.A (.compStart (.ListComp elt [⟨tg, iter, ifs, 0⟩] scope pos) 0 (.ref it) acc { cenv with scope := relabel scope X.env }) (RR acc cenv.locals) s₄) E s₃) E s₂ := by
  refine wpAny_newObj_type (wpAny_newFunctionEnv (on hown) (by intro y hy; simp at hy) (fun h₁ hns₁ hsb₁ => ?_) hkind);dsimp only at hns₁ hsb₁ ⊢;generalize hH2 : s₂.heap.push { cls := .type "list", dict := none, data := .seq ([] : List Value).toArray } = HP at hns₁ hsb₁ ⊢;have hC : HP.objs.size = s₂.heap.objs.size + 1 := by rw [<- hH2, Heap.size_push]
  have hDC : s₂.heap.objs.size ≠ HP.objs.size := by rw [hC]; exact Zs (YA _)
  have hCle : s₂.heap.objs.size <= HP.objs.size := by rw [hC]; exact Nat.le_succ _
  have below : ∀ b, b < s₂.heap.objs.size -> b ≠ HP.objs.size /\ b ≠ s₂.heap.objs.size := fun b hb => ⟨by rw [hC]; exact Zs (Yx hb), Zs hb⟩
  have old : ∀ b o, s₂.heap.get? b = some o -> h₁.get? b = some o := fun b o e => hsb₁.extBut b o (below b (Heap.lt_size e)).1 (Heap.get?_push_of_some _ (hH2 ▸ Heap.get?_push_of_some _ e))
  have hacc : h₁.get? s₂.heap.objs.size = some (lobj []) := hsb₁.extBut _ _ hDC (Heap.get?_push_of_some _ (hH2 ▸ Heap.get?_push_size _ rfl))
  have flt : ∀ b ∈ fp, b < s₂.heap.objs.size := fun b hb => by
    obtain ⟨o, e, _⟩ := T.obj _ _ st b hb;exact Heap.lt_size e
  generalize hDD : s₂.heap.objs.size = D at *;generalize hCC : HP.objs.size = C at *;have hDle : s₂.heap.objs.size <= D := Nat.le_of_eq hDD;have I4 := fun (tk : Nat) => gm (ts := ts) (D := D) (C := C) (tk := tk) I2 hc (fun b hb => ⟨f2 b hb, by rw [hDD]; exact flt b hb⟩) hkind hown hfree hout hcl1 hcl2 (by rw [hDD]; exact hCle) hDC hDle hns₁ old hacc
  generalize hd : (⟨cl, C, s₂, H2, fp⟩ : Dyn) = d at *;obtain ⟨W, ⟨m0, w0⟩, turn⟩ := hW d
  have Xs : ∀ {pl : List (Addr × Obj)} {H' : Hp}, (∀ b ∈ fp, H' b = none) -> (∀ p ∈ pl, p.1 = D) -> ∀ b ∈ fp, FpOk (y1 X scope (ts ++ N2) d) pl H' b := fun {pl H'} hn hp b hb => by
    subst hd;obtain ⟨f0, f1, f3, f4, f5, f6⟩ := f2 b hb;refine ⟨hn b hb, (below b (flt b hb)).1, fun z => ?_, .inl hb, fun x c e => f5 x c (hcl1 x c e), fun p hp' => ?_⟩
    . rcases ZJ.mp (I2.stkSub b z) with z | z
      . exact f1 z
      . exact f3 z
    . rw [hp p (by simpa using hp')]
      exact Ne.symm (below b (flt b hb)).2
  have loop : ∀ s₃ : Shared, s₃ = { s₂ with heap := h₁, toks := s₂.toks + ([] : List (Str × Value)).length } ->
      codeAny (model X.prog X.w) X.A (.compLoop (.ListComp elt [⟨tg, iter, ifs, 0⟩] scope pos) 0 (.ref it) (.ref D) (compEnvC scope cl C X.env)) (RR (.ref D) C) s₃ := by
    rintro s₃ rfl
    refine jx (fun n s' => ∃ i ys H' its, Inv (y1 X scope (ts ++ N2) d) [(D, lobj its)] (List.replicate ts.length none ++ σ) H' s' /\ tn i s'.heap /\ (∀ b ∈ fp, H' b = none) /\ Vals ys its /\ W i n ys H') ?_ m0
      ⟨0, [], H2, [], I4 _, T.keep _ _ _ st fun b _ o e => old b o e, fun b hb => (f2 b hb).1, .nil, w0⟩
    rintro n s3 ⟨i, ys, H3, its, I3, st3, fr3, hv3, w3⟩
    obtain ⟨hlen, tr⟩ := turn i n ys H3 w3
    have one : ∀ p ∈ [(D, lobj its)], p.1 = D := fun p hp => by
      have e : p = (D, lobj its) := by simpa using hp
      rw [e]
    have eenv : (y1 X scope (ts ++ N2) d).env = compEnvC scope cl C X.env := by subst hd; rfl
    rcases tr with ⟨stop, fin⟩ | ⟨go, N, hN, step⟩
    . refine thn (T.done (y1 X scope (ts ++ N2) d) rfl rfl rfl rfl i _ s3 _ H3 (fun _ _ => False) I3 (Xs fr3 one) st3 stop) fun r s4 ⟨hr, J4⟩ => ?_
      subst hr
      show RR (.ref D) C (.ok .next) s4
      obtain ⟨pe, pn, _⟩ := J4.pin (D, lobj its) (by simp);have fC : H3 C = none := by have := J4.free; rw [eenv] at this; exact this
      have nC : ∃ m, s4.heap.Ns C m := by
        obtain ⟨m, z, _⟩ := J4.loc;rw [eenv] at z;exact ⟨m, z⟩
      subst hd;exact hRR D C s4 H3 ys hCle (Ne.symm hDC) (d6 I2 f2 hDle J4 pe pn hv3 hlen) pn fC nC hlen fin
    . refine thn (T.item (y1 X scope (ts ++ N2) d) rfl rfl rfl rfl i _ s3 _ H3 (fun _ _ => False) I3 (Xs fr3 one) st3 go) fun r s4 ⟨u, hr, h4⟩ => ?_
      subst hr;refine thn h4 fun _ s5 ⟨x, H5, I5, r5, y5, st5, fr5⟩ => ?_
      have I5' := I5.pinned (Xs fr5 one) (T.obj _ _ st5);rw [<- eenv];refine thn (hg d _ s5 _ H5 x u _ I5' r5 (step x H5 y5)) fun _ s6 ⟨σ6, H6, I6, hdrop, q6⟩ => ?_
      have back : ∀ {ys' : List V} {its' : List Value} {H' : Hp} {s' : Shared} {pl : List (Addr × Obj)}, Inv (y1 X scope (ts ++ N2) d) ([(D, lobj its')] ++ pl) σ6 H' s' -> Inv (y1 X scope (ts ++ N2) d) [(D, lobj its')] (List.replicate ts.length none ++ σ) H' s' := fun {ys' its' H' s' pl} I' => by
        have hl : σ6.length = (ts ++ N2).length := I'.len;refine (I'.pins_of (pins' := [(D, lobj its')]) fun p hp => I'.pin p (Zu _ (Yg _ hp))).weak ?_ ?_
        . rw [hl]; exact I3.len
        . intro j v e
          by_cases hj : j < ts.length
          . rw [Zg (by simpa using hj), Yn] at e
            split at e <;> cases e
          . have hj' : ts.length <= j := ZC.mp hj
            rw [Zf (by simpa using hj'), ZG, <- hdrop, List.getElem?_drop] at e;rw [show ts.length + (j - ts.length) = j by omega] at e;exact e
      refine thn (ht d _ s6 σ6 H6 _ I6 q6) fun b s7 ⟨H7, I7, q7⟩ => ?_
      have pinsOf : ∀ {its' : List Value} {H' : Hp} {s' : Shared}, Inv (y1 X scope (ts ++ N2) d) ([(D, lobj its')] ++ ql fp s5.heap) σ6 H' s' -> (∀ b ∈ fp, ∀ o, s5.heap.get? b = some o -> s'.heap.get? b = some o) /\ ∀ b ∈ fp, H' b = none := fun {its' H' s'} I' => by
        refine ⟨fun b hb o e => (I'.pin (b, o) (Zu _ (Zu _ (u8 hb e)))).1, fun b hb => ?_⟩;obtain ⟨o, e, _⟩ := T.obj _ _ st5 b hb;exact (I'.pin (b, o) (Zu _ (Zu _ (u8 hb e)))).2.1
      cases b with
      | false =>
        have q7' : N ys H7 := by simpa using q7
        obtain ⟨m', hm, w7⟩ := hN _ _ q7';obtain ⟨k1, k2⟩ := pinsOf I7
        show ∃ m, m < n /\ _
        exact ⟨m', hm, i + 1, ys, H7, its, back (ys' := ys) I7, T.keep _ _ _ st5 k1, k2, hv3, w7⟩
      | true =>
        have q7' : te d σ6 H7 fun v H4 => N (ys ++ [v]) H4 := by simpa using q7
        show wpAny _ _ _ _ _ _
        refine thn (he d _ s7 σ6 H7 _ I7 q7') fun y s8 ⟨v, H8, I8, r8, n8⟩ => ?_
        obtain ⟨m', hm, w8⟩ := hN _ _ n8;obtain ⟨k1, k2⟩ := pinsOf I8;obtain ⟨pe, pn, pC, pf, pd⟩ := I8.pin (D, lobj its) (by simp);have hsz : its.toArray.size <= sizeLine := by rw [Zr, <- hv3.length]; exact hlen
        refine append_at (hsz := hsz) pe fun h9 sb9 e9 => ?_
        have J8 : Inv (y1 X scope (ts ++ N2) d) [] σ6 H8 s8 := I8.pins_of fun p hp => nomatch hp
        have hDs : (y1 X scope (ts ++ N2) d).s₀.heap.objs.size <= D := by subst hd; exact hDle
        have J9 : Inv (y1 X scope (ts ++ N2) d) [] σ6 H8 { s8 with heap := h9 } := J8.turned (t' := s8.toks) (it := D) (fun b o hb e => sb9.extBut b o hb e) pn pC (.inr hDs)
          (fun x c e => by
            obtain ⟨v', z⟩ := I3.cell x c e;subst hd;obtain ⟨v2, z2⟩ := I2.cell x c (hcl1 x c e)
            exact Zs (Zh z2.lt hDle)) (fun p hp => nomatch hp)
        have e9' : h9.get? D = some (lobj (its ++ [y])) := by
          rw [e9]
          show some ({ cls := .type "list", data := .seq (its.toArray.push y) (its.length + 1) } : Obj) = some { cls := .type "list", data := .seq (its ++ [y]).toArray (its ++ [y]).length }
          rw [Zo, ZW, List.push_toArray]
        have J9' : Inv (y1 X scope (ts ++ N2) d) ([(D, lobj (its ++ [y]))] ++ []) σ6 H8 { s8 with heap := h9 } := J9.pins_of fun p hp => by
          have e : p = (D, lobj (its ++ [y])) := by simpa using hp
          subst e;exact ⟨e9', pn, pC, pf, fun v z => by cases z⟩
        refine ⟨m', hm, i + 1, ys ++ [v], H8, its ++ [y], back (ys' := ys) J9', ?_, k2, hv3.append (.cons r8 .nil), w8⟩;exact T.keep _ _ _ st5 fun b hb o e => sb9.extBut b o (below b (flt b hb)).2 (k1 b hb o e)
  exact codeAny_compStart_list (loop _ rfl) (T.self _ 0 _ _ _ (T.keep _ _ _ st fun b _ o e => old b o e) (loop _ rfl))
end
def gv (k : Nat) (wi : TI) (g : Dyn -> TG) (tt : Dyn -> TT) (te : Dyn -> TE) : TE := fun σ H Q => wi σ H fun J H1 => ∀ d : Dyn, rp J σ k (g d) (tt d) (te d) H1 fun ys H' => ∀ l, H' l = none -> Q (.ref l) (upd H' l (.lst ys))
theorem yn {X : Cx} {tg elt iter : Expr} {ifs : List Expr} {scope : Scope} {pos : Pos} (ts N2 : List Str) {wi : TI} {g : Dyn -> TG} {tt : Dyn -> TT} {te : Dyn -> TE} (hc : X.calm = true) (hi : PI X tg iter wi)
    (hg : ∀ d, PG (y1 X scope (ts ++ N2) d) tg (g d)) (ht : ∀ d, PTs (y1 X scope (ts ++ N2) d) ifs (tt d)) (he : ∀ d, PE (y1 X scope (ts ++ N2) d) elt (te d))
    (hkind : scope.kind = .function) (hown : qc scope.names = true) (hfree : rj scope.names X.env = true) (hout : vn scope.names N2 X.N = true)
    (hs : ∀ x, foldedSetIterable iter X.env x = pure x := by intro _; rfl) : PE X (.ListComp elt [⟨tg, iter, ifs, 0⟩] scope pos) (gv ts.length wi g tt te) := by
  intro pins s σ H Q I h;obtain ⟨cl, hclos, hcl1, hcl2⟩ := nk (scope := scope) (env := X.env) fun y hy hf => I.ok.has y.1 (ro hfree hy hf)
  rw [eval_ListComp];refine wpAny_comprehension_free (use := none) rfl hs hclos hkind (pi hown) (thn (hi pins s σ H _ I h) fun v s1 h1 => thn h1 fun itv s2 h2 => ?_);obtain ⟨it, fp, tn, J, H2, e, I2, T, st2, f2, hW⟩ := h2;subst e;refine o9 (RR := fun acc C => compPost (model X.prog X.w) X.A X.xe none (EP X pins σ Q) acc C) I2 hc T st2 f2 hkind hown hfree hout hcl1 hcl2 hg ht he hW ?_;intro D C s' H' ys hC hCD I' hD hCn hNs hl fin;obtain ⟨m, hm⟩ := hNs;refine ⟨m, hm, fun h' sb => ?_⟩
  have I'' : Inv X pins σ (upd H' D (.lst ys)) { s' with heap := h' } := by
    refine I'.turned (t' := s'.toks) (it := C) (fun b o hb e => sb.extBut b o hb e) (by rw [z0 hCD]; exact hCn) (Yz (Zh I2.lt hC)) (.inr (Zd I2.sz hC)) (fun x c e => ?_) fun p hp => ?_
    . obtain ⟨v, q⟩ := I2.cell x c e
      exact Zs (Zh q.lt hC)
    . exact Zs (Zh (Heap.lt_size (I2.pin p hp).1) hC)
  exact ⟨.ref D, _, I'', rfl, fin D hD⟩
def tSetC (i : Nat) (te : TE) : TS := fun D σ H => te σ H fun x H1 => D.nx (σ.set i (some x)) H1
theorem mm {X : Cx} {tg elt iter : Expr} {ifs : List Expr} {scope : Scope} {pos spos py : Pos} {i : Nat} {y : Str} (ts N2 : List Str) {wi : TI} {g : Dyn -> TG} {tt : Dyn -> TT} {te : Dyn -> TE} (hN : X.N.Nodup) (hi' : X.N[i]? = some y) (hy : X.env.scope.names.lookup y = some .local) (hc : X.calm = true) (hi : PI X tg iter wi)
    (hg : ∀ d, PG (y1 X scope (ts ++ N2) d) tg (g d)) (ht : ∀ d, PTs (y1 X scope (ts ++ N2) d) ifs (tt d)) (he : ∀ d, PE (y1 X scope (ts ++ N2) d) elt (te d))
    (hkind : scope.kind = .function) (hown : qc scope.names = true) (hfree : rj scope.names X.env = true) (hout : vn scope.names N2 X.N = true)
    (hsw : swapsWith (.ListComp elt [⟨tg, iter, ifs, 0⟩] scope pos) (some (.Name y py)) spos.line X.env = pure true)
    (hs : ∀ x, foldedSetIterable iter X.env x = pure x := by intro _; rfl) : PS X (.Assign [.Name y py] (.ListComp elt [⟨tg, iter, ifs, 0⟩] scope pos) spos) (tSetC i (gv ts.length wi g tt te)) := by
  intro pins s σ H D0 I h;obtain ⟨cl, hclos, hcl1, hcl2⟩ := nk (scope := scope) (env := X.env) fun z hz hf => I.ok.has z.1 (ro hfree hz hf)
  rw [exec_Assign_Name_used _ _ _ _ hsw];refine wpAny_bind (wpAny_standAt (wpAny_bind ?_))
  show wpAny _ X.A (do let _ <- comprehension (.ListComp elt [⟨tg, iter, ifs, 0⟩] scope pos) scope X.env _ (newList []) false (eval iter X.env) (some (assign (.Name y py) X.env))) _ _ s
  refine wpAny_bind (wpAny_mono (wpAny_comprehension_free (use := some (assign (.Name y py) X.env)) (Q := fun _ s' => SP X pins D0 .next s') rfl hs hclos hkind (pi hown)
    (thn (hi pins s σ H _ I h) fun v s1 h1 => thn h1 fun itv s2 h2 => ?_)) (fun _ s' hq => wpAny_pure (wpAny_pure hq)) fun _ _ e => e)
  obtain ⟨it, fp, tn, J, H2, e, I2, T, st2, f2, hW⟩ := h2;subst e;refine o9 (RR := fun acc C => compPost (model X.prog X.w) X.A X.xe (some (assign (.Name y py) X.env)) (fun _ s' => SP X pins D0 .next s') acc C) I2 hc T st2 f2 hkind hown hfree hout hcl1 hcl2 hg ht he hW ?_;intro D C s' H' ys hC hCD I' hD hCn hNs hl fin;obtain ⟨m, hm⟩ := hNs
  show wpAny _ _ _ _ _ _
  have hcl : C ≠ X.env.locals := Yz (Zh I2.lt hC)
  have hcc : ∀ x c, X.env.cells.lookup x = some c -> c ≠ C := fun x c e => by
    obtain ⟨v, q⟩ := I2.cell x c e;exact Zs (Zh q.lt hC)
  refine wpAny_assign_Name (m5 I' hN hi' (.inl hy) (v := .ref D) (u := .ref D) rfl (fun s'' I'' ⟨a, sb, ha⟩ => ?_) (.inr hy))
  have haC : C ≠ a := by
    rcases ha with z | z
    . rw [z]; exact hcl
    . exact Ne.symm (hcc y a z)
  refine ⟨m, hm.sameBut sb haC, fun h' sb' => ?_⟩
  have I3 : Inv X pins (σ.set i (some (.ref D))) (upd H' D (.lst ys)) { s'' with heap := h' } := by
    refine I''.turned (t' := s''.toks) (it := C) (fun b o hb e => sb'.extBut b o hb e) (by rw [z0 hCD]; exact hCn) hcl (.inr (Zd I2.sz hC)) hcc fun p hp => ?_
    exact Zs (Zh (Heap.lt_size (I2.pin p hp).1) hC)
  exact ⟨_, _, I3, fin D hD⟩
section
variable {σ : St} {k : Nat} {g : TG} {tt : TT} {te : TE} {H1 : Hp} {Fin : List V -> Hp -> Prop}
theorem wp {lo : Int} {n : Nat} (Pv : Nat -> List V -> Hp -> Prop) (h0 : Pv 0 [] H1) (hz : ∀ i ys H, i <= n -> Pv i ys H -> ys.length <= sizeLine)
    (hs : ∀ i ys H, i < n -> Pv i ys H -> g (.int (lo + i)) (List.replicate k none ++ σ) H fun σ2 H2 => σ2.drop k = σ /\ tt σ2 H2 fun b H3 => if b = true then te σ2 H3 fun v H4 => Pv (i + 1) (ys ++ [v]) H4 else Pv (i + 1) ys H3)
    (hd : ∀ ys H, Pv n ys H -> Fin ys H) : rp (Itr lo n) σ k g tt te H1 Fin := by
  refine ⟨fun i m ys H => m = n - i /\ i <= n /\ Pv i ys H, ⟨n, by simp, ZD _, h0⟩, ?_⟩
  rintro i m ys H ⟨rfl, hi, p⟩
  refine ⟨hz i ys H hi p, ?_⟩
  by_cases hlt : i < n
  . refine .inr ⟨hlt, Pv (i + 1), fun ys' H' p' => ⟨n - (i + 1), by omega, rfl, hlt, p'⟩, fun x H' y => ?_⟩
    obtain ⟨e, y⟩ := y;subst e y;exact hs i ys _ hlt p
  . have e : i = n := by omega
    subst e;exact .inl ⟨Zm _, hd ys H p⟩
theorem yq {K : Fg} {a : Addr} {xs : List V} (Pv : Nat -> List V -> Hp -> Prop) (h0 : Pv 0 [] H1) (hz : ∀ i ys H, i <= xs.length -> Pv i ys H -> ys.length <= sizeLine /\ SqL K H a xs)
    (hs : ∀ i x ys H, xs[i]? = some x -> Pv i ys H -> g x (List.replicate k none ++ σ) H fun σ2 H2 => σ2.drop k = σ /\ tt σ2 H2 fun b H3 => if b = true then te σ2 H3 fun v H4 => Pv (i + 1) (ys ++ [v]) H4 else Pv (i + 1) ys H3)
    (hd : ∀ ys H, Pv xs.length ys H -> Fin ys H) : rp (Itl K a) σ k g tt te H1 Fin := by
  refine ⟨fun i m ys H => m = xs.length - i /\ i <= xs.length /\ Pv i ys H, ⟨xs.length, by simp, ZD _, h0⟩, ?_⟩
  rintro i m ys H ⟨rfl, hi, p⟩
  have q := (hz i ys H hi p).2;refine ⟨(hz i ys H hi p).1, ?_⟩
  by_cases hlt : i < xs.length
  . refine .inr ⟨⟨xs, xs[i], q, by simp [hlt]⟩, Pv (i + 1), fun ys' H' p' => ⟨xs.length - (i + 1), by omega, rfl, hlt, p'⟩, fun x H' y => ?_⟩
    obtain ⟨e, y⟩ := y;subst e;exact hs i x ys _ (y xs q) p
  . have e : i = xs.length := by omega
    subst e;exact .inl ⟨⟨xs, q, Zm _⟩, hd ys H p⟩
end
end L2
namespace L2
open PySem PySem.Spec PyProof.Rows
theorem qk (A : Around) : A.in1.units = A.units + 1 := by first | rfl | simp [Around.in1] | (unfold Around.in1; rfl)
theorem r6 {xs : List V} {us : List Value} (r : Vals xs us) {j : Nat} (h : j < us.length) : ∃ x, xs[j]? = some x /\ RelV x us[j] := by
  have hl := r.length;have hj : j < xs.length := by omega
  obtain ⟨u, hu, rx⟩ := r.get (i := j) (x := xs[j]) (by simp [hj]);refine ⟨xs[j], by simp [hj], ?_⟩;have : us[j]? = some us[j] := by simp [h]
  rw [this] at hu;cases hu;exact rx
section
variable {X : Cx} {pins : List (Addr × Obj)} {σ : St} {H : Hp} {s : Shared} {A : Around} {a b : Addr}
end
def GridL (K : Fg) (H : Hp) (a : Addr) (as : List Addr) (rows : List (List Int)) : Prop := SqL K H a (as.map V.ref) /\ as.length = rows.length /\ ∀ (i : Nat) (r : Addr) (ns : List Int), as[i]? = some r -> rows[i]? = some ns -> SqL K H r (ns.map V.int)
section
variable {X : Cx} {pins : List (Addr × Obj)} {σ : St} {H : Hp} {s : Shared} {A : Around} {a b : Addr}
end
def kit0 (T1 T2 : String) : Option Bool := if (Value.type T1 == Value.type T2) = true then some true else if PySem.W.kitMeta T2 = true then (fastBuiltinMro T1).map (·.contains (Value.type T2)) else none
theorem cv (K : Fg) (T1 T2 : String) : PySem.W.kitOne K (.type T1) (.type T2) = kit0 T1 T2 := rfl
section
variable {X : Cx}
theorem yk : CallR X (.builtin "isinstance") (fun xs H Q => ∃ x T T1 b, xs = [x, .ty T] /\ TyOf X.K H x (.type T1) /\ kit0 T1 T = some b /\ Q (.bl b) H) := by
  intro pins s σ H xs us Q I r h;obtain ⟨x, T, T1, b, rfl, ty, e, q⟩ := h;obtain ⟨u, v, rfl, rx, ry⟩ := Vals.two r;cases ry;exact eh I rx ty ((cv X.K T1 T).trans e) fun tk => ⟨.bl b, H, I.tok _, rfl, q⟩
theorem xx {x : Str} {T : String} {pos : Pos} (hg : Gl X x) (hm : X.mg x = none) (hv : bootBuiltins x = some (.type T)) (hn : x ≠ "__name__" := by decide) (hd : (x == ("__debug__" : Str)) = false := by decide) : PE X (.Name x pos) (tC (.ty T)) :=
  bo hg hm hv rfl hn hd
end
theorem yp : bootBuiltins "len" = some (.builtin "len") := by decide +kernel
theorem z8 : bootBuiltins "isinstance" = some (.builtin "isinstance") := by decide +kernel
theorem bt_max : bootBuiltins "max" = some (.builtin "max") := by decide +kernel
theorem bt_min : bootBuiltins "min" = some (.builtin "min") := by decide +kernel
theorem vi : bootBuiltins "all" = some (.builtin "all") := by decide +kernel
theorem db : bootBuiltins "abs" = some (.builtin "abs") := by decide +kernel
theorem dq : bootBuiltins "int" = some (.type "int") := by decide +kernel
theorem j9 : bootBuiltins "bool" = some (.type "bool") := by decide +kernel
theorem wf : bootBuiltins "list" = some (.type "list") := by decide +kernel
theorem xb : bootBuiltins "tuple" = some (.type "tuple") := by decide +kernel
theorem di : bootBuiltins "str" = some (.type "str") := by decide +kernel
theorem bt_set : bootBuiltins "set" = some (.type "set") := by decide +kernel
structure zt (K : Fg) (mg : Str -> Option Value) (name : Str) (st : Stmt) (ps : List Str) : Prop where
  ex : ∃ f fd, mg name = some (.ref f) /\ Fun K name name st f fd /\ Binds K fd ps []
structure FnAt (P : Program) (w : World) (K : Fg) (mg : Str -> Option Value) (base : Heap) (name : Str) (k : Nat) (ps : List Str) (sp : Sp) : Prop where
  ex : ∃ f fd, mg name = some (.ref f) /\ PySem.W.keepIn K (.ref f) = true /\ Binds K fd ps [] /\ FnOk P w K mg base CX0 k f fd ps sp
theorem FnAt.of {P : Program} {w : World} {K : Fg} {mg : Str -> Option Value} {base : Heap} {name : Str} {st : Stmt} {N ps : List Str} {k : Nat} {sp : Sp} (D : zt K mg name st ps) (S : yg N ps (zf st)) (len : ∀ vs H Q E, sp vs H Q E -> vs.length = ps.length)
    (hbody : ∀ (f : Addr) (cdv : Value) (A : Around) (outer : List Env) (s : Shared) (H : Hp) (vs : List V) (Q : VK) (E : XK), Room k (A.deeper (envOfC name (zf st) s.heap.objs.size f cdv)) -> sp vs H Q E ->
      ∃ t, PSs (cxOf CX0 P w K mg base N name (zf st) f cdv A outer s H E).nox (zi st) t /\ t { nx := fun _ H' => Q .non H', rt := Q } (start N vs) H) : FnAt P w K mg base name (k + 1) ps sp := by
  obtain ⟨f, fd, hm, F, hb⟩ := D.ex;exact ⟨f, fd, hm, F.kp, hb, F.ok S len (hbody f)⟩
theorem def_mk {K : Fg} {h : Heap} {mg : Str -> Option Value} (X : K.In h) (G : h.Ns mainGlobals mg) {name : Str} {st : Stmt} {f : Addr} {oc : Value} {od an : Option Addr} {osl : Array (Option Value)} {kV doc pm cdv ct : Value} {ps : List Str}
    (a : PySem.W.nsIn K mainGlobals name = some (some (.ref f))) (l : K.lookup f = some ⟨oc, od, .func (PySem.W.fnOf name name (v6 st) (zi st) (zf st) .none kV doc pm an cdv ct), osl⟩)
    (c : PySem.W.codeIn K cdv name = true) (k : PySem.W.keepIn K (.ref f) = true)
    (hb : ∀ (kV doc pm : Value) (an : Option Addr) (cdv ct : Value) (us : List Value), us.length = ps.length -> bindArgs (PySem.W.fnOf name name (v6 st) (zi st) (zf st) .none kV doc pm an cdv ct) ⟨us, []⟩ = pure (ps.zip us)) : zt K mg name st ps :=
  ⟨f, _, PySem.W.mg_of X G a, dz l c k, (dz (st := st) l c k).binds hb⟩
section
variable {X : Cx} {x : Str} {k : Nat} {ps : List Str} {sp : Sp} {p pos : Pos} {e : Expr} {es : List Expr} {t : TA}
theorem zw (F : FnAt X.prog X.w X.K X.mg X.base x k ps sp) (hr : Room k X.A) (hg : Gl X x) (ha : PA X (e :: es) t) (hdb : (x == ("__debug__" : Str)) = false := by decide) (he : starEach (e :: es) X.env = (false, eval e X.env) :: starEach es X.env := by rfl)
    (hpl : (backTo pos (starEach es X.env)).any (·.1) = false := by rfl) : PE X (.Call (.Name x p) (e :: es) [] pos) (g0 sp [] E0 t) := by
  obtain ⟨f, fd, hm, hk, hb, G⟩ := F.ex;exact ax G hr hg hm hk hb .nil pass0 ha hdb he hpl
end
theorem cxK {CX : CXT} {P : Program} {w : World} {K : Fg} {mg : Str -> Option Value} {base : Heap} {N : List Str} {qual : Str} {scope : Scope} {f : Addr} {cd : Value} {A : Around} {outer : List Env} {s : Shared} {H : Hp} {E : XK} : (cxOf CX P w K mg base N qual scope f cd A outer s H E).K = K := rfl
section
variable {D : Ends} {σ : St} {H : Hp} {Q : VK} {QT : Bool -> Hp -> Prop} {QA : List V -> Hp -> Prop} {QS : St -> Hp -> Prop} {R : It -> Hp -> Prop} {a b c : TE} {s t : TS} {tt uu : TT} {ta tr : TA} {g : TG} {i : Nat} {v x y z : V} {r r' : R2} {wi : TI}
theorem e_var : tVar i σ H Q = ∃ v, σ[i]? = some (some v) /\ Q v H := rfl
theorem e_C : tC v σ H Q = Q v H := rfl
theorem e_op : tOp r a b σ H Q = a σ H fun x H1 => b σ H1 fun y H2 => r x y H2 Q := rfl
theorem e_un {u : V -> Hp -> VK -> Prop} : tUn u a σ H Q = a σ H fun x H1 => u x H1 Q := rfl
theorem e_rI {C : Int -> Int -> Prop} {f : Int -> Int -> V} : rI C f x y H Q = ∃ i j, x = .int i /\ y = .int j /\ C i j /\ Q (f i j) H := rfl
theorem e_rI0 {f : Int -> Int -> V} : rI0 f x y H Q = ∃ i j, x = .int i /\ y = .int j /\ Q (f i j) H := rfl
theorem e_rU {f : Int -> V} : rU f x H Q = ∃ i, x = .int i /\ Q (f i) H := rfl
theorem e_rEq : rEq x y H Q = (scal x y = true /\ Q (.bl (decide (x = y))) H) := rfl
theorem e_rNe : rNe x y H Q = (scal x y = true /\ Q (.bl (!decide (x = y))) H) := rfl
theorem e_ixL {K : Fg} : rIxL K x y H Q = ∃ p xs i v, x = .ref p /\ y = .int i /\ SqL K H p xs /\ atI xs i = some v /\ Q v H := rfl
theorem e_ixT {K : Fg} : rIxT K x y H Q = ∃ p xs i v, x = .ref p /\ y = .int i /\ SqT K H p xs /\ atI xs i = some v /\ Q v H := rfl
theorem e_set {o i v : V} {Q : Hp -> Prop} : rSetL o i v H Q = ∃ p xs k j, o = .ref p /\ i = .int k /\ H p = some (.lst xs) /\ ixN xs.length k = some j /\ Q (upd H p (.lst (xs.set j v))) := rfl
theorem e_cat : rCat x y H Q = ∃ l b xs zs, x = .ref l /\ y = .ref b /\ H l = some (.lst xs) /\ H b = some (.lst zs) /\ xs.length + zs.length <= sizeLine /\ ∀ p, H p = none -> Q (.ref p) (upd H p (.lst (xs ++ zs))) := rfl
theorem e_test : fb a σ H QT = a σ H fun x H' => ∃ k, x = .bl k /\ QT k H' := rfl
theorem e_B : tB a σ H QT = a σ H fun x H1 => ∃ c, x = .bl c /\ QT c H1 := rfl
theorem e_and : tAnd tt uu σ H QT = tt σ H fun c H1 => if c = true then uu σ H1 QT else QT false H1 := rfl
theorem e_or : tOr tt uu σ H QT = tt σ H fun c H1 => if c = true then QT true H1 else uu σ H1 QT := rfl
theorem e_not : tNot tt σ H QT = tt σ H fun c H1 => QT (!c) H1 := rfl
theorem e_andV : tAndV a b σ H Q = a σ H fun x H1 => ∃ c, x = .bl c /\ if c = true then b σ H1 Q else Q (.bl false) H1 := rfl
theorem e_orV : tOrV a b σ H Q = a σ H fun x H1 => ∃ c, x = .bl c /\ if c = true then Q (.bl true) H1 else b σ H1 Q := rfl
theorem e_notV : tNotV a σ H Q = a σ H fun x H1 => ∃ c, x = .bl c /\ Q (.bl (!c)) H1 := rfl
theorem e_ifE : tIf tt a b σ H Q = tt σ H fun c H1 => if c = true then a σ H1 Q else b σ H1 Q := rfl
theorem e_all : tAll σ H QT = QT true H := rfl
theorem e_next : tNext D σ H = D.nx σ H := rfl
theorem e_seq : tSeq s t D σ H = s { D with nx := t D } σ H := rfl
theorem e_brk : tBreak D σ H = D.bk σ H := rfl
theorem e_cnt : tCont D σ H = D.ct σ H := rfl
theorem e_drop : tDrop a D σ H = a σ H fun _ H1 => D.nx σ H1 := rfl
theorem e_ret : tRet a D σ H = a σ H D.rt := rfl
theorem e_retN : tRetN D σ H = D.rt .non H := rfl
theorem e_ifS : tIfS tt s t D σ H = tt σ H fun b H1 => if b = true then s D σ H1 else t D σ H1 := rfl
theorem e_asg : tAsg a g D σ H = a σ H fun x H1 => g x σ H1 D.nx := rfl
theorem ai : gj i v σ H QS = QS (σ.set i (some v)) H := rfl
theorem e_setC : tSetC i a D σ H = a σ H fun x H1 => D.nx (σ.set i (some x)) H1 := rfl
theorem e_augS {tget : V -> V -> Hp -> VK -> Prop} {tip : TIp} {tset : TSet} : tAugS a b c tget tip tset D σ H = a σ H fun o H1 => b σ H1 fun i H2 => tget o i H2 fun x H3 => c σ H3 fun y H4 => tip x y H4 fun z H5 => tset o i z H5 fun H6 => D.nx σ H6 := rfl
theorem e_ipI {f : Int -> Int -> Int} : ipI f x y H Q = ∃ i j, x = .int i /\ y = .int j /\ Q (.int (f i j)) H := rfl
theorem e_nil : tNil σ H QA = QA [] H := rfl
theorem e_cons : tCons a ta σ H QA = a σ H fun x H1 => ta σ H1 fun xs H2 => QA (x :: xs) H2 := rfl
theorem e_tup : tTup ta σ H Q = ta σ H fun xs H1 => xs.length <= sizeLine /\ ∀ p, H1 p = none -> Q (.ref p) (upd H1 p (.tup xs)) := rfl
theorem e_lst : tLst ta σ H Q = ta σ H fun xs H1 => xs.length <= sizeLine /\ ∀ p, H1 p = none -> Q (.ref p) (upd H1 p (.lst xs)) := rfl
theorem e_call {sp : Sp} {E : XK} : g0 sp [] E ta σ H Q = ta σ H fun vs H1 => sp (vs ++ []) H1 Q E := rfl
theorem e_CB {u : List V -> Hp -> VK -> Prop} : tCB u ta σ H Q = ta σ H fun vs H1 => u vs H1 Q := rfl
theorem e_BM {K : Fg} {T : String} {u : V -> List V -> Hp -> VK -> Prop} : tBM K T u a ta σ H Q = a σ H fun x H1 => tyV K T x H1 /\ ta σ H1 fun xs H2 => u x xs H2 Q := rfl
theorem e_app {vs : List V} : j4 x vs H Q = ∃ l xs y, x = .ref l /\ vs = [y] /\ H l = some (.lst xs) /\ xs.length < sizeLine /\ Q .non (upd H l (.lst (xs ++ [y]))) := rfl
theorem e_rng1 : iRng1 ta σ H R = ta σ H fun vs H1 => ∃ j : Int, vs = [.int j] /\ -(2 ^ 62) <= j /\ j < 2 ^ 62 /\ R (Itr 0 j.toNat) H1 := rfl
theorem e_rng2 : iRng2 ta σ H R = ta σ H fun vs H1 => ∃ i j : Int, vs = [.int i, .int j] /\ (-(2 ^ 62) <= i /\ i < 2 ^ 62 /\ -(2 ^ 62) <= j /\ j < 2 ^ 62) /\ R (Itr i (j - i).toNat) H1 := rfl
theorem e_iL {K : Fg} : iList K a σ H R = a σ H fun x H1 => ∃ p, x = .ref p /\ (∃ xs, SqL K H1 p xs) /\ R (Itl K p) H1 := rfl
def ForW (J : It) (g : TG) (tb : TS) (D : Ends) (σ : St) (H1 : Hp) : Prop := ∃ W : Nat -> Nat -> St -> Hp -> Prop, (∃ m, W 0 m σ H1) /\ ∀ i m σ H, W i m σ H ->
  (J.stop i H /\ D.nx σ H) \/ (J.go i H /\ ∃ N : St -> Hp -> Prop, (∀ σ' H', N σ' H' -> ∃ m', m' < m /\ W (i + 1) m' σ' H') /\ ∀ x H', J.yld i H x H' -> g x σ H' fun σ2 H2 => tb { D with nx := N, ct := N, bk := D.nx } σ2 H2)
theorem e_for : tFor wi g t D σ H = wi σ H fun J H1 => ForW J g t D σ H1 := rfl
theorem e_comp {k : Nat} {g : Dyn -> TG} {tt : Dyn -> TT} {te : Dyn -> TE} : gv k wi g tt te σ H Q = wi σ H fun J H1 => ∀ d : Dyn, rp J σ k (g d) (tt d) (te d) H1 fun ys H' => ∀ l, H' l = none -> Q (.ref l) (upd H' l (.lst ys)) := rfl
end
end L2
namespace L2
open PySem PySem.Spec PyProof.Rows
section
variable {X : Cx}
theorem xt (hc : X.calm = true) : CallR X (.builtin "all") (fun xs H Q => ∃ (p : Addr) (bs : List Bool), xs = [.ref p] /\ SqL X.K H p (bs.map V.bl) /\ Q (.bl (bs.all id)) H) := by
  intro pins s σ H xs us Q I r h;obtain ⟨p, bs, rfl, hq, q⟩ := h;obtain ⟨u, rfl, rx⟩ := Vals.one r;cases rx;obtain ⟨its, rv, pl, hz⟩ := I.list hq;have hlt : p < s.heap.objs.size := by obtain ⟨_, e, _⟩ := pl.isList; exact Heap.lt_size e
  have hlen : its.length = bs.length := by have := rv.length; rw [Za] at this; exact this.symm
  refine call_all_walk (wpAny_pyIter_list pl.isList ?_)
  refine ⟨s.heap.objs.size, [s.heap.objs.size, p], [s.heap.objs.size], its.toArray.size, _, _, fun i => (bs[i]?).getD true, rfl, Walks.list (A := X.A.in1) (I.ok.hd hc) _ p (Zs hlt) its.toArray,
    ⟨⟨_, Heap.get?_push_size _ rfl, rfl, rfl⟩, pl.isList.push _⟩, fun i v s' Q' E' hP hQ => ?_, fun h' tk hk => ?_⟩
  . have hi : its[i]? = some v := by simpa using hP
    have hil : i < bs.length := by rw [<- hlen]; exact (Zc.mp hi).1
    have e : bs[i]? = some bs[i] := by simp [hil]
    obtain ⟨u, hu, ru⟩ := rv.get (i := i) (x := V.bl bs[i]) (by rw [Ze, e]; rfl);rw [hi] at hu;cases hu;cases ru;simp only [e, Option.getD_some] at hQ;exact wpAny_truthy_bool hQ
  . have e : ((List.range its.toArray.size).all fun i => (bs[i]?).getD true) = bs.all id := by
      rw [Zr, hlen];rw [Bool.eq_iff_iff, ZK, ZK]
      constructor
      . intro z b hb
        obtain ⟨i, hi, rfl⟩ := Zy hb;have := z i (ZM.mpr hi)
        simpa [Zb hi] using this
      . intro z i hi
        have hi' := ZM.mp hi;simp only [Zb hi', Option.getD_some];exact z _ (Zl hi')
    rw [e];exact ⟨.bl (bs.all id), H, I.kept fun b x e => hk b x (fun hm => by rw [ZB.mp hm] at e; exact ZH _ (Heap.lt_size e)) (Heap.get?_push_of_some _ e), rfl, q⟩
end
def Itz (K : Fg) (a b : Addr) : It :=
  ⟨fun i H => ∃ xs ys x y, SqL K H a xs /\ SqL K H b ys /\ xs[i]? = some x /\ ys[i]? = some y,
   fun i H v H' => ∃ T x y, v = .ref T /\ H T = none /\ H' = upd H T (.tup [x, y]) /\ ∀ xs ys, SqL K H a xs -> SqL K H b ys -> xs[i]? = some x /\ ys[i]? = some y,
   fun i H => ∃ xs ys, SqL K H a xs /\ SqL K H b ys /\ (xs.length <= i \/ ys.length <= i)⟩
def iZip (K : Fg) (ta : TA) : TI := fun σ H R => ta σ H fun vs H1 => ∃ a b, vs = [.ref a, .ref b] /\ (∃ xs, SqL K H1 a xs) /\ (∃ ys, SqL K H1 b ys) /\ R (Itz K a b) H1
theorem e_zip {K : Fg} {ta : TA} {σ : St} {H : Hp} {R : It -> Hp -> Prop} : iZip K ta σ H R = ta σ H fun vs H1 => ∃ a b, vs = [.ref a, .ref b] /\ (∃ xs, SqL K H1 a xs) /\ (∃ ys, SqL K H1 b ys) /\ R (Itz K a b) H1 := rfl
theorem e_gTup {K : Fg} {n : Nat} {t : TGs} {v : V} {σ : St} {H : Hp} {Q : St -> Hp -> Prop} : gTup K n t v σ H Q = ∃ a xs, v = .ref a /\ SqT K H a xs /\ xs.length = n /\ t xs σ H Q := rfl
theorem e_gNil {vs : List V} {σ : St} {H : Hp} {Q : St -> Hp -> Prop} : gNil vs σ H Q = (vs = [] /\ Q σ H) := rfl
theorem al {t : TG} {u : TGs} {vs : List V} {σ : St} {H : Hp} {Q : St -> Hp -> Prop} : gCons t u vs σ H Q = ∃ v r, vs = v :: r /\ t v σ H fun σ' H' => u r σ' H' Q := rfl
end L2
namespace L2
open PySem PySem.Spec PyProof.Rows
def eqVs : List V -> List V -> Bool
  | [], [] => true
  | x :: xs, y :: ys => eqV x y && eqVs xs ys
  | _, _ => false
theorem oz : ∀ {xs ys : List V}, xs.length = ys.length -> ((List.range xs.length).all fun j => eqV (xs.getD j .non) (ys.getD j .non)) = eqVs xs ys
  | [], [], _ => rfl
  | [], _ :: _, h => by simp at h
  | _ :: _, [], h => by simp at h
  | x :: xs, y :: ys, h => by
    have ih := @oz xs ys (by simpa using h);rw [ZR, List.range_succ_eq_map, Yp, Yr]
    show (eqV x y && _) = (eqV x y && eqVs xs ys)
    rw [<- ih];rfl
theorem k8 : ∀ {xs ys : List V}, xs.length ≠ ys.length -> eqVs xs ys = false
  | [], [], h => by simp at h
  | [], _ :: _, _ => rfl
  | _ :: _, [], _ => rfl
  | x :: xs, y :: ys, h => by
    have ih := @k8 xs ys (by simpa using h);unfold eqVs;rw [ih, Bool.and_false]
theorem qh {xs : List V} (h : xs.all xk = true) {j : Nat} {x : V} (e : xs[j]? = some x) : xk x = true := ZK.mp h x (Zi e)
theorem js {A : Around} {s : Shared} {us vs : List Value} {xs ys : List V} (hu : Vals xs us) (hv : Vals ys vs) (fx : xs.all xk = true) (fy : ys.all xk = true) :
    ∀ j (h1 : j < us.toArray.size) (h2 : j < vs.toArray.size), SeqAt.EqAt A s us.toArray[j] vs.toArray[j] (eqV (xs.getD j .non) (ys.getD j .non)) := by
  intro j h1 h2;have h1' : j < us.length := by simpa using h1
  have h2' : j < vs.length := by simpa using h2
  obtain ⟨x, ex, rx⟩ := r6 hu h1';obtain ⟨y, ey, ry⟩ := r6 hv h2';rw [Yh, Yh, Zk, Zk, ex, ey];exact kw rx ry (qh fx ex) (qh fy ey)
section
variable {X : Cx}
theorem op_eqF (hu : X.A.units < cLine) : OpR X (compareOp .Eq) (fun x y H Q => ∃ (a b : Addr) (xs ys : List V), x = .ref a /\ y = .ref b /\ SqL X.K H a xs /\ SqL X.K H b ys /\ xs.all xk = true /\ ys.all xk = true /\ Q (.bl (eqVs xs ys)) H) := by
  intro pins s σ H x y v u Q I rx ry h;obtain ⟨a, b, xs, ys, rfl, rfl, ha, hb, fx, fy, q⟩ := h;cases rx; cases ry;obtain ⟨us, r1, p1, z1⟩ := I.list ha;obtain ⟨vs, r2, p2, z2⟩ := I.list hb;have l1 := r1.length;have l2 := r2.length
  by_cases hl : xs.length = ys.length
  . refine SeqAt.eq_listAt p1.isList p2.isList (by simp; omega) hu (js (A := X.A.in1) (s := s) r1 r2 fx fy) ?_
    rw [Zr, <- l1, oz hl];exact ⟨.bl (eqVs xs ys), H, I, rfl, q⟩
  . refine SeqAt.eq_list_lengthsAt p1.isList p2.isList (by simp; omega) hu ?_
    rw [k8 hl] at q;exact ⟨.bl false, H, I, rfl, q⟩
end
section
variable {X : Cx}
end
theorem e_gSub {to ti : TE} {t : TSet} {v : V} {σ : St} {H : Hp} {Q : St -> Hp -> Prop} : gSub to ti t v σ H Q = to σ H fun o H1 => ti σ H1 fun i H2 => t o i v H2 fun H3 => Q σ H3 := rfl
theorem e_rep {x y : V} {H : Hp} {Q : VK} : rRep x y H Q = ∃ l k xs, x = .ref l /\ y = .int k /\ H l = some (.lst xs) /\ -(2 ^ 63) <= k /\ k < 2 ^ 63 /\ xs.length * k.toNat <= sizeLine /\ ∀ p, H p = none -> Q (.ref p) (upd H p (.lst (List.replicate k.toNat xs).flatten)) := rfl
end L2
namespace L2
open PySem PySem.Spec PyProof.Rows
section
variable {σ : St} {k : Nat} {g : TG} {tt : TT} {te : TE} {H1 : Hp} {Fin : List V -> Hp -> Prop}
end
theorem e_slL {K : Fg} {x : V} {lo hi : Option Int} {H : Hp} {Q : VK} : rSlL K x lo hi H Q = ∃ a xs, x = .ref a /\ SqL K H a xs /\ ∀ p, H p = none -> Q (.ref p) (upd H p (.lst (cutV xs lo hi))) := rfl
theorem e_tSl {r : V -> Option Int -> Option Int -> Hp -> VK -> Prop} {te : TE} {tl th : TO} {σ : St} {H : Hp} {Q : VK} : tSl r te tl th σ H Q = te σ H fun x H1 => tl σ H1 fun l H2 => th σ H2 fun u H3 => r x l u H3 Q := rfl
theorem cw {σ : St} {H : Hp} {Q : Option Int -> Hp -> Prop} : j3 σ H Q = Q none H := rfl
theorem e_part {t : TE} {σ : St} {H : Hp} {Q : Option Int -> Hp -> Prop} : tPart t σ H Q = t σ H fun x H1 => ∃ i, x = .int i /\ Q (some i) H1 := rfl
end L2
namespace L2
open PySem PySem.Spec PyProof.Rows
section
variable {σ : St} {H : Hp} {Q : VK} {a b c : TE} {x : V} {vs : List V} {r r' : R2}
theorem e_BM0 {K : Fg} {T : String} {u : V -> List V -> Hp -> VK -> Prop} : tBM0 K T u a σ H Q = a σ H fun x H1 => tyV K T x H1 /\ u x [] H1 Q := rfl
theorem bq : jf r r' a b c σ H Q = a σ H fun x H1 => b σ H1 fun y H2 => r x y H2 fun z H3 => ∃ k, z = .bl k /\ (if k = true then c σ H3 fun w' H4 => r' y w' H4 Q else Q (.bl false) H3) := rfl
theorem aq : km σ H Q = ∀ p, H p = none -> Q (.ref p) (upd H p (.dK [])) := rfl
theorem ky {X : Cx} {pos : Pos} : PE X (.Dict [] [] pos) km := cz
theorem e_in {K : Fg} {neg : Bool} {y : V} : rIn K neg x y H Q = ∃ p xs, y = .ref p /\ (SqL K H p xs \/ SqT K H p xs) /\ xk x = true /\ xs.all xk = true /\ Q (.bl (if neg then !inV x xs else inV x xs)) H := rfl
end
theorem wd {X : Cx} {x : Str} {i : Int} {pos : Pos} (hg : Gl X x) (hm : ∃ t, X.mg x = some (Value.int i t)) (hd : (x == ("__debug__" : Str)) = false := by decide) : PE X (.Name x pos) (tC (.int i)) := by
  obtain ⟨t, hm⟩ := hm;exact wx hg hm ⟨t, rfl⟩ hd
def Ite (K : Fg) (a : Addr) : It :=
  ⟨fun i H => ∃ xs x, SqL K H a xs /\ xs[i]? = some x,
   fun i H v H' => ∃ T x, v = .ref T /\ H T = none /\ H' = upd H T (.tup [.int i, x]) /\ ∀ xs, SqL K H a xs -> xs[i]? = some x,
   fun i H => ∃ xs, SqL K H a xs /\ xs.length <= i⟩
def iEnum (K : Fg) (ta : TA) : TI := fun σ H R => ta σ H fun vs H1 => ∃ a, vs = [.ref a] /\ (∃ xs, SqL K H1 a xs) /\ R (Ite K a) H1
theorem e_enum {K : Fg} {ta : TA} {σ : St} {H : Hp} {R : It -> Hp -> Prop} : iEnum K ta σ H R = ta σ H fun vs H1 => ∃ a, vs = [.ref a] /\ (∃ xs, SqL K H1 a xs) /\ R (Ite K a) H1 := rfl
section
variable {X : Cx}
end
section
variable {X : Cx}
end
end L2
namespace L2
open PySem PySem.Spec PyProof.Rows
section
variable {X : Cx} {pins : List (Addr × Obj)} {σ : St} {H : Hp} {k : Nat} {f : Addr} {fd : FuncData} {ps : List Str} {sp : Sp}
def tMinK (K : Fg) (sp : Sp) (ta : TA) : TE := fun σ H Q => ta σ H fun vs H1 => ∃ (l : Addr) (xs : List V) (kf : Nat -> Int), vs = [.ref l] /\ SqL K H1 l xs /\ 0 < xs.length /\
  (∀ i x, xs[i]? = some x -> sp [x] H1 (fun v H' => v = .int (kf i) /\ H' = H1) E0) /\ ∀ i x, xs[i]? = some x -> (∀ j, j < xs.length -> kf i <= kf j /\ (j < i -> kf i < kf j)) -> Q x H1
theorem e_minK {K : Fg} {ta : TA} {Q : VK} : tMinK K sp ta σ H Q = ta σ H fun vs H1 => ∃ (l : Addr) (xs : List V) (kf : Nat -> Int), vs = [.ref l] /\ SqL K H1 l xs /\ 0 < xs.length /\
  (∀ i x, xs[i]? = some x -> sp [x] H1 (fun v H' => v = .int (kf i) /\ H' = H1) E0) /\ ∀ i x, xs[i]? = some x -> (∀ j, j < xs.length -> kf i <= kf j /\ (j < i -> kf i < kf j)) -> Q x H1 := rfl
end
end L2
namespace L2
open PySem PySem.Spec PyProof.Rows
def CX1 (P : Program) (w : World) : CXT := fun outer H s E e s' => ∃ (ea C : Addr) (a0 : Value) (B : Heap) (H' : Hp), e = .ref ea /\ s'.os = s.os /\ AllBare s'.gens /\ Un (frs outer) [] H H' s.heap s'.heap /\ HOk P w H' s'.heap /\
  Heap.FlyingW B outer ea (.ref C) a0 s'.heap /\ H' ea = none /\ (∀ b o, H' b = some o -> ∃ ob, B.get? b = some ob) /\ (∀ b o, s.heap.get? b = some o -> b ∉ frs outer -> ∃ ob, B.get? b = some ob /\ (H b = none -> ob = o)) /\ E (.ref C) none H'
theorem UpToSlots.get {h h' : Heap} (u : h.UpToSlots h') {b : Addr} {o : Obj} (e : h.get? b = some o) (n : ∀ vs, o.data ≠ .fields vs) : ∃ sl, h'.get? b = some { o with slots := sl } := u b o e n
theorem HOk.flown {P : Program} {w : World} {H : Hp} {h h' B : Heap} (x : HOk P w H h) (bh : B.StaysIn h) (bh' : B.StaysIn h') (dom : ∀ b o, H b = some o -> ∃ ob, B.get? b = some ob) : HOk P w H h' := fun a o e =>
  (x a o e).stay (fun b u hb q => by
    have hB : ∃ ob, B.get? b = some ob := by
      rcases hb with rfl | hb
      . exact dom _ _ e
      . exact dom _ _ hb
    obtain ⟨ob, hob⟩ := hB;have := bh b ob hob;rw [q] at this;cases this
    exact bh' b u hob) (fun _ q => q) fun _ _ q => q
theorem ph {P : Program} {w : World} {H : Hp} {h : Heap} {a : Addr} {o : HO} (x : ObjOk P w H h a o) : ∃ ob, h.get? a = some ob := by
  cases o with
  | lst xs => obtain ⟨_, _, _, _, e⟩ := x; exact ⟨_, e⟩
  | tup xs => obtain ⟨_, _, _, o, e, _⟩ := x; exact ⟨_, e⟩
  | dK kvs => obtain ⟨_, _, _, _, o, _, _, e, _⟩ := x; exact ⟨_, e⟩
  | dT kvs => obtain ⟨_, _, _, _, o, _, _, e, _⟩ := x; exact ⟨_, e⟩
  | set S n => obtain ⟨o, _, _, _, e, _⟩ := x; exact ⟨_, e⟩
  | ins C dx fs => obtain ⟨_, _, _, e, _⟩ := x; exact ⟨_, e⟩
  | own y => exact x
  | xd fs => obtain ⟨_, ⟨_, _, _, e, _⟩, _⟩ := x; exact ⟨_, e⟩
  | rng lo hi => obtain ⟨_, _, _, e⟩ := x; exact ⟨_, e⟩
  | frz ob u => obtain ⟨e, _⟩ := x; exact ⟨_, e⟩
  | tbl ps => exact ⟨_, (show h.get? a = some _ from x)⟩
  | met f y => exact ⟨_, (show h.get? a = some _ from x)⟩
  | ext φ => obtain ⟨_, e, _⟩ := x; exact e
section
variable {X : Cx} {pins : List (Addr × Obj)} {σ : St} {H : Hp} {s : Shared}
theorem ja {fs : List Addr} {H0 H1 : Hp} {h0 h1 h2 B : Heap} (u : Un fs [] H0 H1 h0 h1) (dom2 : ∀ b o, h0.get? b = some o -> b ∉ fs -> ∃ ob, B.get? b = some ob /\ (H0 b = none -> ob = o))
    (bh' : B.StaysIn h2) (sl : h1.UpToSlots h2) (hfr : ∀ b ∈ fs, ∀ o, h1.get? b = some o -> ∀ vs, o.data ≠ .fields vs) : Un fs [] H0 H1 h0 h2 where
  keep := fun b o e n hb _ => by
    obtain ⟨ob, e1, e2⟩ := dom2 b o e hb;rw [e2 n] at e1;exact bh' b o e1
  slot := fun b o e n hb hx => by
    obtain ⟨s1, e1⟩ := u.slot b o e n hb hx;obtain ⟨s2, e2⟩ := sl b _ e1 (hfr b hb _ e1);exact ⟨s2, e2⟩
  free := u.free
  there := fun b o e hx => by
    by_cases hb : b ∈ fs
    . obtain ⟨o1, e1⟩ := u.there b o e hx
      obtain ⟨s2, e2⟩ := sl b _ e1 (hfr b hb _ e1);exact ⟨_, e2⟩
    . obtain ⟨ob, e1, _⟩ := dom2 b o e hb
      exact ⟨ob, bh' b ob e1⟩
  tups := u.tups
  frzs := u.frzs
  tbls := u.tbls
theorem je {P : Program} {w : World} {K : Fg} {mg : Str -> Option Value} {base : Heap} {N : List Str} {qual : Str} {scope : Scope} {f : Addr} {cd : Value} {A : Around} {outer : List Env} {s0 : Shared} {H0 : Hp} {E : XK} {h' : Heap} {e C : Addr} {args : List Value}
    (hX : X = cxOf (CX1 P w) P w K mg base N qual scope f cd A outer s0 H0 E) (I : Inv X pins σ H s) (hx : Heap.MadeExcOf s.heap h' e (.ref C) args) (hE : E (.ref C) none H) (tk : Nat) : X.xe (.ref e) { s with heap := h', toks := tk } := by
  subst hX
  show wpAny _ _ (leaving _ (.ref e)) _ _ _
  have hst : s.heap.FunFrames base (envOfC qual scope s0.heap.objs.size f cd :: outer) := I.stack;have hin : ∀ env ∈ (envOfC qual scope s0.heap.objs.size f cd :: outer), ∀ b, env.frame = some b -> b ∈ (envOfC qual scope s0.heap.objs.size f cd :: outer).filterMap (·.frame) := fun env he b hb => ZZ.mpr ⟨env, he, hb⟩
  have getB : ∀ b o, s.heap.get? b = some o -> b ∉ (envOfC qual scope s0.heap.objs.size f cd :: outer).filterMap (·.frame) -> (PySem.W.hideAll s.heap ((envOfC qual scope s0.heap.objs.size f cd :: outer).filterMap (·.frame))).get? b = some o := fun b o q n => PySem.W.hideAll_get _ q n
  refine wpAny_leaves_madeW (s := { s with heap := h', toks := tk }) (h := s.heap) I.ok.frames rfl (fun b o q => PySem.W.of_hideAll _ q) (PySem.W.funFrames_hide hst hin) hx fun h'' t x1 x2 x3 x4 => ?_
  have dom : ∀ b o, H b = some o -> ∃ ob, (PySem.W.hideAll s.heap ((envOfC qual scope s0.heap.objs.size f cd :: outer).filterMap (·.frame))).get? b = some ob := fun b o q => by
    have hlt := I.hok.lt q
    have hnf : b ∉ (envOfC qual scope s0.heap.objs.size f cd :: outer).filterMap (·.frame) := fun z => by
      have := I.stkFree b z;rw [q] at this; cases this
    obtain ⟨ob, hob⟩ := ph (I.hok b o q);exact ⟨ob, getB b ob hob hnf⟩
  have un : Un (frs outer) [] H0 H s0.heap s.heap := I.base
  have dom2 : ∀ b o, s0.heap.get? b = some o -> b ∉ frs outer -> ∃ ob, (PySem.W.hideAll s.heap ((envOfC qual scope s0.heap.objs.size f cd :: outer).filterMap (·.frame))).get? b = some ob /\ (H0 b = none -> ob = o) := fun b o q n => by
    have hnf : b ∉ (envOfC qual scope s0.heap.objs.size f cd :: outer).filterMap (·.frame) := fun z => by
      rcases ZJ.mp (I.stkSub b z) with y | y
      . have h1 : s0.heap.objs.size <= b := by rw [y]; exact I.ok.above
        exact absurd (Zh (Heap.lt_size q) h1) (ZH _)
      . exact n y
    obtain ⟨o1, e1⟩ := un.there b o q (by simp);refine ⟨o1, getB b o1 e1 hnf, fun z => ?_⟩;have := un.keep b o q z n (by simp);rw [e1] at this;exact Option.some.inj this
  have hfr : ∀ b ∈ frs outer, ∀ o, s.heap.get? b = some o -> ∀ vs, o.data ≠ .fields vs := fun b hb o q => by
    obtain ⟨_, o', e', n'⟩ := hst.mem (b := b) (by
      obtain ⟨env, he, hf⟩ := ZZ.mp hb
      exact ZZ.mpr ⟨env, Zv _ he, hf⟩)
    rw [q] at e'; cases e';exact n'
  have sl : s.heap.UpToSlots h'' := (Heap.UpToSlots.of_keeps hx.keeps).trans x4;refine ⟨e, C, _, _, H, rfl, I.os, I.bare, ja un dom2 x1.1 sl hfr, HOk.flown I.hok (fun b o q => PySem.W.of_hideAll _ q) x1.1 dom, x1, ?_, dom, dom2, hE⟩
  cases q : H e with
  | none => rfl
  | some o =>
    obtain ⟨ob, hob⟩ := ph (I.hok e o q);rw [hx.new] at hob; cases hob
theorem Inv.track {ea : Addr} {oe : Obj} {o : HO} (I : Inv X pins σ H s) (he : s.heap.get? ea = some oe) (hn : H ea = none) (new : X.s₀.heap.get? ea = none) (hL : ea ≠ X.env.locals) (hC : ∀ x c, X.env.cells.lookup x = some c -> c ≠ ea) (hp : ∀ p ∈ X.pn ++ pins, p.1 ≠ ea)
    (ok : ObjOk X.prog X.w (upd H ea o) s.heap ea o) : Inv X pins σ (upd H ea o) s := by
  have ne0 : ∀ b u, H b = some u -> b ≠ ea := fun b u q z => by rw [z, hn] at q; cases q
  have new' : ∀ b u, X.s₀.heap.get? b = some u -> b ≠ ea := fun b u q z => by rw [z, new] at q; cases q
  refine ⟨I.ok, I.os, I.bare, ⟨I.base.keep, I.base.slot, fun b u q n hx => ?_, I.base.there, fun b xs q => ?_, fun b u v q => ?_, fun b ps q => ?_⟩, I.loc, I.cell, ?_, fun x c q => ?_, fun p h => ?_, fun b u q => ?_, I.len⟩
  . rw [z0 (new' b u q)]; exact I.base.free b u q n hx
  . have := I.base.tups b xs q; rw [z0 (ne0 b _ this)]; exact this
  . have := I.base.frzs b u v q; rw [z0 (ne0 b _ this)]; exact this
  . obtain ⟨m, this⟩ := I.base.tbls b ps q; exact ⟨m, by rw [z0 (ne0 b _ this)]; exact this⟩
  . rw [z0 (Ne.symm hL)]; exact I.free
  . rw [z0 (hC x c q)]; exact I.freeC x c q
  . obtain ⟨h1, h2, h3⟩ := I.pin p h
    exact ⟨h1, by rw [z0 (hp p h)]; exact h2, h3⟩
  . by_cases hb : b = ea
    . subst hb; rw [ze] at q; cases q; exact ok
    . rw [z0 hb] at q
      exact (I.hok b u q).stay (fun _ _ _ z => z) (fun c z => by rw [z0 (ne0 c _ z)]; exact z) fun c xs z => by rw [z0 (ne0 c _ z)]; exact z
def ExcO (ea C : Addr) : HO := .ext fun h => ∃ o, h.get? ea = some o /\ o.cls = .ref C /\ ∃ vs, o.data = .fields vs
abbrev Cx.suite (X : Cx) (e : Value) : Cx := { X with A := X.A.mark (some e), calm := false, xe := fun _ _ => False }
theorem Inv.suite (I : Inv X pins σ H s) (e : Value) : Inv (X.suite e) pins σ H s :=
  ⟨⟨I.ok.mod, I.ok.kind, I.ok.glob, I.ok.blt, I.ok.above, I.ok.inj, I.ok.has, I.ok.cab, (fun z => by cases z), I.ok.frames, I.ok.stk, I.ok.exf, I.ok.bs, I.ok.bsz, I.ok.noex, I.ok.exfs, I.ok.funs, I.ok.frf⟩, I.os, I.bare, I.base, I.loc, I.cell, I.free, I.freeC, I.pin, I.hok, I.len⟩
theorem Inv.unsuite {e : Value} (I : Inv (X.suite e) pins σ H s) (hd : X.calm = true -> X.A.handled = none) : Inv X pins σ H s :=
  ⟨⟨I.ok.mod, I.ok.kind, I.ok.glob, I.ok.blt, I.ok.above, I.ok.inj, I.ok.has, I.ok.cab, hd, I.ok.frames, I.ok.stk, I.ok.exf, I.ok.bs, I.ok.bsz, I.ok.noex, I.ok.exfs, I.ok.funs, I.ok.frf⟩, I.os, I.bare, I.base, I.loc, I.cell, I.free, I.freeC, I.pin, I.hok, I.len⟩
end
abbrev VE : List Value := [.type "ValueError", .type "Exception", .type "BaseException", .type "object"]
structure Err (K : Fg) (C : Addr) : Prop where
  ok : PySem.W.excIn K C VE "ValueError.__new__" = true
theorem Err.obj {K : Fg} {C : Addr} {h : Heap} (c : Err K C) (X : K.In h) : ∃ bm N nm q bs hdct sn sub ab col dd k0 k1 k2 k3 k5 mN, h.get? C = some (excClassObj nm q C N bs bm hdct sn sub ab col dd k0 k1 k2 k3 k5 "ValueError.__new__") /\
    h.Ns N mN /\ mN "__init__" = none /\ OwnTail h VE bm /\ ∀ v b, PySem.W.mroIn K C v = some b -> (Value.ref C :: bm).contains v = b := by
  have q := c.ok;unfold PySem.W.excIn at q
  split at q
  case h_2 => cases q
  case h_1 dd cd sl ho =>
    split at q
    case h_2 => cases q
    case h_1 C' bm k0 k1 k2 k3 n k5 hm hs =>
      simp only [Bool.and_eq_true, beq_iff_eq, Bool.not_eq_true'] at q
      have hmro : ∀ v b, PySem.W.mroIn K C v = some b -> (Value.ref C' :: bm).contains v = b := fun v b e => by
        unfold PySem.W.mroIn PySem.W.clsIn at e;rw [ho] at e;simp only [Option.bind_some, hm, List.isEmpty_cons, Bool.false_eq_true, if_false, Option.some.injEq] at e;exact e
      obtain ⟨⟨⟨⟨⟨e1, e2⟩, hdel⟩, ht⟩, hok⟩, hni⟩ := q;subst e1;subst e2;obtain ⟨nm, bs, mro, ns, qn, hd, sn, sub, ab, col, del⟩ := cd;have hm' : mro = Value.ref C' :: bm := hm;have hdel' : del = false := hdel;subst hm';subst hdel'
      have hsl : sl = #[k0, k1, k2, k3, some (.builtin "ValueError.__new__"), k5] := by
        cases sl with
        | mk l =>
          have hs' : l = [k0, k1, k2, k3, some (.builtin "ValueError.__new__"), k5] := hs;rw [hs']
      subst hsl;exact ⟨bm, ns, nm, qn, bs, hd, sn, sub, ab, col, dd, k0, k1, k2, k3, k5, _, X _ _ ho, .of_isNs (PySem.W.isNs_of_in X hok), PySem.W.nsMap_none_of_in X hok hni, PySem.W.tail_of_in X ht, hmro⟩
section
variable {M : Model} {A : Around} {E : Value -> Shared -> Prop}
theorem mh {h : Heap} {g : Array GenState} {d : Drawn} {t : Nat} {os : OsState} {e C D : Addr} {oe : Obj} {Q : Bool -> Shared -> Prop} {b : Bool} {K : Fg} (X : K.In h) (cC : Err K C) (cD : Err K D) (he : h.get? e = some oe) (hcls : oe.cls = .ref C)
    (hsub : PySem.W.mroIn K C (.ref D) = some b) (hq : Q b ⟨h, g, d, t, os⟩) : wpAny M A (excMatches (.ref e) (.ref D)) Q E ⟨h, g, d, t, os⟩ := by
  obtain ⟨bm, N, nm, q, bs, hdct, sn, sub, ab, col, dd, k0, k1, k2, k3, k5, mN, hC, hN, hni, T, hm⟩ := cC.obj X;obtain ⟨bm', N', nm', q', bs', hdct', sn', sub', ab', col', dd', k0', k1', k2', k3', k5', mN', hD, hN', hni', T', hm'⟩ := cD.obj X;have hcB : (Value.ref D :: bm').contains (.type "BaseException") = true := by rw [Yv, T'.hasType (X := "BaseException") (b := true) (by decide +kernel), Bool.or_true]
  have hcD := hm _ _ hsub;have f := tc_notTuple;unfold excMatches
  repeat (first | (with_reducible refine wpAny_loadPart_at he ?_; rw [hcls]) | with_reducible refine wpAny_loadPart_at hD ?_ | (with_reducible refine wpAny_isSubtype_exc hD ?_; rw [hcB]) | (with_reducible refine wpAny_isSubtype_exc hC ?_; rw [hcD]) | wp_step)
  cases b <;> (try wp_walk) <;> exact hq
end
end L2
namespace L2
open PySem PySem.Spec PyProof.Rows
theorem PS.nox {X : Cx} {st : Stmt} {t : TS} (h : PS X.nox st t) : PS X st t := fun pins s σ H D I hw =>
  wpAny_mono (h pins s σ H D (I.wish _) hw) (fun _ _ z => z.unwish) fun _ _ z => z.elim
def tryXe (X : Cx) (pn : List (Addr × Obj)) (J : St -> Value -> Hp -> Prop) : Value -> Shared -> Prop := fun e s' =>
  ∃ pins σ H s, Inv { X with pn := pn, xe := fun _ _ => False } pins σ H s /\ CX1 X.prog X.w X.stack H s (fun c _ H' => J σ c H') e s'
abbrev oq (X : Cx) (pn : List (Addr × Obj)) (J : St -> Value -> Hp -> Prop) : Cx := { X with pn := pn, xe := tryXe X pn J }
def Takes (X : Cx) (J : St -> Value -> Hp -> Prop) : Prop := ∀ pins σ H s e s', Inv X pins σ H s -> CX1 X.prog X.w X.stack H s (fun c _ H' => J σ c H') e s' -> X.xe e s'
theorem dn {X : Cx} {pn : List (Addr × Obj)} {J : St -> Value -> Hp -> Prop} : Takes (oq X pn J) J := fun pins σ H s e s' I h =>
  ⟨pins, σ, H, s, Inv.unwish (X := { X with pn := pn, xe := fun _ _ => False }) (E := tryXe X pn J) I, h⟩
structure FnAtX (P : Program) (w : World) (K : Fg) (mg : Str -> Option Value) (base : Heap) (name : Str) (k : Nat) (ps : List Str) (sp : Sp) : Prop where
  ex : ∃ f fd, mg name = some (.ref f) /\ PySem.W.keepIn K (.ref f) = true /\ Binds K fd ps [] /\ FnOk P w K mg base (CX1 P w) k f fd ps sp
theorem FnAtX.of {P : Program} {w : World} {K : Fg} {mg : Str -> Option Value} {base : Heap} {name : Str} {st : Stmt} {N ps : List Str} {k : Nat} {sp : Sp} (D : zt K mg name st ps) (S : yg N ps (zf st)) (len : ∀ vs H Q E, sp vs H Q E -> vs.length = ps.length)
    (hbody : ∀ (f : Addr) (cdv : Value) (A : Around) (outer : List Env) (s : Shared) (H : Hp) (vs : List V) (Q : VK) (E : XK), Room k (A.deeper (envOfC name (zf st) s.heap.objs.size f cdv)) -> sp vs H Q E ->
      ∃ t, PSs (cxOf (CX1 P w) P w K mg base N name (zf st) f cdv A outer s H E) (zi st) t /\ t { nx := fun _ H' => Q .non H', rt := Q } (start N vs) H) : FnAtX P w K mg base name (k + 1) ps sp := by
  obtain ⟨f, fd, hm, F, hb⟩ := D.ex;refine ⟨f, fd, hm, F.kp, hb, ?_⟩;obtain ⟨oc, od, kV, doc, pm, an, cdv, ct, osl, rfl, lk, hcd⟩ := F.ex;exact fn_of lk hcd S len (hbody f cdv)
section
variable {X : Cx} {x : Str} {k : Nat} {ps : List Str} {sp : Sp} {p pos : Pos} {e : Expr} {es : List Expr} {t : TA}
def f9 (sp : Sp) (J : St -> Value -> Hp -> Prop) (t : TA) : TE := fun σ H Q => t σ H fun vs H1 => sp vs H1 Q fun c _ H' => J σ c H'
theorem a9 {J : St -> Value -> Hp -> Prop} {σ : St} {H : Hp} {Q : VK} : f9 sp J t σ H Q = t σ H fun vs H1 => sp vs H1 Q fun c _ H' => J σ c H' := rfl
theorem cn {J : St -> Value -> Hp -> Prop} (F : FnAtX X.prog X.w X.K X.mg X.base x k ps sp) (hr : Room k X.A) (hx : Takes X J) (hg : Gl X x) (ha : PA X (e :: es) t) (hdb : (x == ("__debug__" : Str)) = false := by decide) (he : starEach (e :: es) X.env = (false, eval e X.env) :: starEach es X.env := by rfl)
    (hpl : (backTo pos (starEach es X.env)).any (·.1) = false := by rfl) : PE X (.Call (.Name x p) (e :: es) [] pos) (f9 sp J t) := by
  obtain ⟨f, fd, hm, hk, hb, G⟩ := F.ex;intro pins s σ H Q I h;refine wpAny_Call_Name_kw (rc I hg hm ?_ hdb);refine PySem.W.callWith_K (h₀ := X.base) I.ok.mod.kin hk (thn (ha pos pins s σ H _ I h) fun us s1 ⟨vs, H1, I1, r, q⟩ => ⟨I1.kIn, ?_⟩) he hpl;have hl : (us ++ []).length = ps.length := by rw [Ym, <- r.length]; exact G.len _ _ _ _ q
  refine wpAny_call (codeAny_mono (G.run X.A X.stack s1 H1 ⟨us, []⟩ us vs Q _ hr I1.env0 (by have := hb s1 us I1.kIn hl; rw [Ym] at this; exact this) r q) fun r' s' hq => ?_)
  cases r' with
  | error e => exact hx pins σ H1 s1 e s' I1 hq
  | ok fl =>
    cases fl with
    | ret u => exact I1.after hq
    | next => exact False.elim hq
    | brk => exact False.elim hq
    | cont => exact False.elim hq
end
section
variable {X : Cx} {C : Addr} {x : Str} {np cpos pos : Pos}
def fi (X : Cx) (C : Addr) (R : Hp -> Prop) : Prop := ∀ pins σ H s h' e args tk, Inv X pins σ H s -> Heap.MadeExcOf s.heap h' e (.ref C) args -> R H -> X.xe (.ref e) { s with heap := h', toks := tk }
theorem pj {P : Program} {w : World} {K : Fg} {mg : Str -> Option Value} {base : Heap} {N : List Str} {qual : Str} {scope : Scope} {f : Addr} {cd : Value} {A : Around} {outer : List Env} {s0 : Shared} {H0 : Hp} {E : XK}
    (hX : X = cxOf (CX1 P w) P w K mg base N qual scope f cd A outer s0 H0 E) : fi X C (fun H => E (.ref C) none H) := fun pins σ H s h' e args tk I hx hE => je hX I hx hE tk
def dw (R : Hp -> Prop) (ta : TA) : TS := fun _ σ H => ta σ H fun vs H1 => vs.length <= sizeLine /\ R H1
theorem bd {R : Hp -> Prop} {ta : TA} {D : Ends} {σ : St} {H : Hp} : dw R ta D σ H = ta σ H fun vs H1 => vs.length <= sizeLine /\ R H1 := rfl
theorem jr {e : Expr} {es : List Expr} {R : Hp -> Prop} {ta : TA} (hc : X.calm = true) (c : Err X.K C) (hg : Gl X x) (hm : X.mg x = some (.ref C)) (hr : fi X C R) (ha : PA X (e :: es) ta) (hdb : (x == ("__debug__" : Str)) = false := by decide)
    (he : starEach (e :: es) X.env = (false, eval e X.env) :: starEach es X.env := by rfl) (hpl : (backTo cpos (starEach es X.env)).any (·.1) = false := by rfl) :
    PS X (.Raise (some (.Call (.Name x np) (e :: es) [] cpos)) none pos) (dw R ta) := by
  intro pins s σ H D I h;obtain ⟨bm, N, nm, q, bs, hdct, sn, sub, ab, col, dd, k0, k1, k2, k3, k5, mN, hC, hN, hni, T, _⟩ := c.obj I.ok.mod.kin
  refine wpAny_Raise_call_subU (C := C) (nm := nm) (q := q) (N := N) (bs := bs) (bm := bm) (hdct := hdct) (sn := sn) (sub := sub) (ab := ab) (col := col) (dd := dd) (k0 := k0) (k1 := k1) (k2 := k2) (k3 := k3) (k5 := k5)
    PySem.F.excBase_ValueError (by decide +kernel) PySem.F.excBase_ValueError (mN := mN) (T.hasType PySem.F.excBase_ValueError.hasBase) (I.ok.hd hc) (by rw [he]; show (false || (backTo cpos (starEach es X.env)).any (·.1)) = false; rw [hpl]; rfl) hni (rc I hg hm ⟨rfl, ?_⟩ hdb)
  have hrun := ha cpos pins s σ H _ I h;rw [he] at hrun ⊢;refine Calls.evalArgs_plain (wpAny_mono hrun (fun us s1 h1 => ?_) fun _ _ z => z);obtain ⟨vs, H1, I1, r1, hz, q1⟩ := h1;exact ⟨rfl, by rw [<- r1.length]; exact hz, I1.bk _ _ hC, hN.keeps I1.bk, T.keeps I1.bk, fun h' e hx => hr pins σ H1 s1 h' e us s1.toks I1 hx q1⟩
end
section
variable {X : Cx} {pins : List (Addr × Obj)} {σ : St} {H : Hp} {s : Shared}
theorem Inv.intry (I : Inv X pins σ H s) (J : St -> Value -> Hp -> Prop) : Inv (oq X (X.pn ++ pins) J) [] σ H s :=
  ⟨⟨I.ok.mod, I.ok.kind, I.ok.glob, I.ok.blt, I.ok.above, I.ok.inj, I.ok.has, I.ok.cab, I.ok.hd, I.ok.frames, I.ok.stk, I.ok.exf, I.ok.bs, I.ok.bsz, I.ok.noex, I.ok.exfs, I.ok.funs, I.ok.frf⟩, I.os, I.bare, I.base, I.loc, I.cell, I.free, I.freeC, fun p hp => I.pin p (by simpa using hp), I.hok, I.len⟩
theorem Inv.outtry {pl : List (Addr × Obj)} {E : Value -> Shared -> Prop} (I : Inv { X with pn := X.pn ++ pins, xe := E } pl σ H s) : Inv X pins σ H s :=
  ⟨⟨I.ok.mod, I.ok.kind, I.ok.glob, I.ok.blt, I.ok.above, I.ok.inj, I.ok.has, I.ok.cab, I.ok.hd, I.ok.frames, I.ok.stk, I.ok.exf, I.ok.bs, I.ok.bsz, I.ok.noex, I.ok.exfs, I.ok.funs, I.ok.frf⟩, I.os, I.bare, I.base, I.loc, I.cell, I.free, I.freeC, fun p hp => I.pin p (Yg _ hp), I.hok, I.len⟩
theorem SP.outtry {J : St -> Value -> Hp -> Prop} {D : Ends} {f : Flow} {s' : Shared} (h : SP (oq X (X.pn ++ pins) J) [] D f s') : SP X pins D f s' := by
  cases f with
  | next => obtain ⟨a, b, I, q⟩ := h; exact ⟨a, b, I.outtry, q⟩
  | brk => obtain ⟨a, b, I, q⟩ := h; exact ⟨a, b, I.outtry, q⟩
  | cont => obtain ⟨a, b, I, q⟩ := h; exact ⟨a, b, I.outtry, q⟩
  | ret u => obtain ⟨v, a, b, I, r, q⟩ := h; exact ⟨v, a, b, I.outtry, r, q⟩
theorem sg {M : Model} {A : Around} {E : Value -> Shared -> Prop} {i : Nat} {n : Str} {pos : Pos} {Q : Unit -> Shared -> Prop} (I : Inv X pins σ H s) (hN : X.N.Nodup) (hi : X.N[i]? = some n) (hx : X.env.scope.names.lookup n = some .local)
    (h : ∀ s', Inv X pins (σ.set i none) H s' -> Q () s') : wpAny M A (do bindName X.env n .none; unbindBehindTheSuite X.env n pos) Q E s := by
  refine wpAny_bind (wpAny_bindName (rk I hN hi (.inl hx) (v := .non) rfl (fun s1 I1 => ?_) (.inr hx)));obtain ⟨m, hn, hl⟩ := id I1.loc;have hiσ : i < σ.length := by rw [I.len]; exact (Zc.mp hi).1
  obtain ⟨u, ru, lk⟩ := hl i n .non hi (by rw [ZV hiσ]) (.inl hx)
  have hm : ∃ u, m n = some u := by
    rcases lk with ⟨_, e⟩ | ⟨k, _⟩
    . exact ⟨u, e⟩
    . exfalso
      have hk : X.env.kindOf n = some .local := hx
      rcases k with k | k <;> (rw [hk] at k; cases k)
  obtain ⟨u', hu'⟩ := hm;have hcls : (X.env.scope.kind == .class || (X.env.scope.kind == .module && X.env.locals != X.env.globals)) = false := by rw [I.ok.kind]; rfl
  unfold unbindBehindTheSuite;refine wpAny_onRaise (wpAny_unbindName_local hx hn hu' hcls fun h' u2 hn' sb => ?_);obtain ⟨oL, _, _, hoL, _⟩ := id hn;have J : Inv X pins (σ.set i (some .non)) H s1 := I1;refine h _ ⟨J.ok, J.os, J.bare, ⟨fun b o e z hb hx' => ?_, fun b o e z hb hx' => ?_, J.base.free, fun b o e hx' => ?_, J.base.tups, J.base.frzs, J.base.tbls⟩, ⟨_, hn', fun j y v' e1 e2 e3 => ?_⟩, fun y c e => ?_, J.free, J.freeC, fun p hp => ?_, fun b ob e => ?_, by simpa using I.len⟩
  . exact (sb.2 b (Zs (Zh (Heap.lt_size e) J.ok.above))).trans (J.base.keep b o e z hb hx')
  . obtain ⟨sl, e1⟩ := J.base.slot b o e z hb hx'
    exact ⟨sl, (sb.2 b (Zs (Zh (Heap.lt_size e) J.ok.above))).trans e1⟩
  . obtain ⟨o', e1⟩ := J.base.there b o e hx'
    exact ⟨o', (sb.2 b (Zs (Zh (Heap.lt_size e) J.ok.above))).trans e1⟩
  . by_cases hj : j = i
    . subst hj
      rw [ZV hiσ] at e2;cases e2
    . rw [ZY (Ne.symm hj)] at e2
      obtain ⟨w', r', q⟩ := hl j y v' e1 (by rw [ZY (Ne.symm hj)]; exact e2) e3;refine ⟨w', r', ?_⟩
      rcases q with ⟨k, e⟩ | ⟨k, c, e, z⟩
      . refine .inl ⟨k, ?_⟩
        have : y ≠ n := fun e => hj (p0 hN e1 (e ▸ hi))
        simp [this, e]
      . exact .inr ⟨k, c, e, z.sameBut sb (J.cne y c e)⟩
  . obtain ⟨w', z⟩ := J.cell y c e
    exact ⟨w', z.sameBut sb (J.cne y c e)⟩
  . obtain ⟨e, z, ne, nf, d⟩ := J.pin p hp
    exact ⟨(sb.2 p.1 ne).trans e, z, ne, nf, d⟩
  . refine (J.hok b ob e).stay (fun c w' hc q => (sb.2 c ?_).trans q) (fun _ q => q) fun _ _ q => q
    rintro rfl
    rcases hc with hc | hc
    . rw [<- hc, J.free] at e; cases e
    . rw [J.free] at hc; cases hc
def o5 (i : Nat) (D : Ends) : Ends := { nx := fun σ H => D.nx (σ.set i none) H, rt := D.rt, bk := fun σ H => D.bk (σ.set i none) H, ct := fun σ H => D.ct (σ.set i none) H }
def d4 (K : Fg) (D0 : Addr) (i : Nat) (tb : (St -> Value -> Hp -> Prop) -> List (Addr × Obj) -> TS) (ts : Value -> TS) : TS := fun D σ H => ∃ J : St -> Value -> Hp -> Prop, (∀ pn, tb J pn D σ H) /\
  ∀ σ1 c H1, J σ1 c H1 -> ∃ C, c = .ref C /\ Err K C /\ PySem.W.mroIn K C (.ref D0) = some true /\ ∀ e ea, H1 ea = none -> ts e (o5 i D) (σ1.set i (some (.ref ea))) (upd H1 ea (ExcO ea C))
theorem dm {body : List Stmt} {b0 : Stmt} {suite : List Stmt} {x n : Str} {np hpos pos : Pos} {D0 : Addr} {i : Nat} {tb : (St -> Value -> Hp -> Prop) -> List (Addr × Obj) -> TS} {ts : Value -> TS} (cD : Err X.K D0) (hg : Gl X x) (hm : X.mg x = some (.ref D0)) (hN : X.N.Nodup) (hi : X.N[i]? = some n) (hx : X.env.scope.names.lookup n = some .local)
    (hb : ∀ J pn, PSs (oq X pn J) body (tb J pn)) (hs : ∀ e, PSs (X.suite e) (b0 :: suite) (ts e)) (hst : X.stack = X.env :: X.outer := by rfl) (hf : X.env.frame = some X.env.locals := by rfl) (hex : X.ex = [] := by rfl) (hdb : (x == ("__debug__" : Str)) = false := by decide) :
    PS X (.Try body [.ExceptHandler (some (.Name x np)) (some n) (b0 :: suite) hpos] [] [] pos) (d4 X.K D0 i tb ts) := by
  intro pins s σ H D I h;obtain ⟨J, hbody, hcatch⟩ := h;refine wpAny_Try_except (wpAny_mono (hb J (X.pn ++ pins) [] s σ H D (I.intry J) (hbody _)) (fun f s1 h1 => ?_) fun e s1 h1 => ?_)
  . have h2 := SP.outtry h1
    cases f with
    | next =>
      obtain ⟨a, b, I1, q⟩ := h2;exact wpAny_execs_nil ⟨a, b, I1, q⟩
    | brk => exact h2
    | cont => exact h2
    | ret u => exact h2
  . obtain ⟨pins', σ1, H1, s2, I2, hcx⟩ := h1
    have J2 : Inv X pins σ1 H1 s2 := I2.outtry;obtain ⟨ea, C, a0, B, H', e1, os, bare, un, hok, fl, hea, dom, dom2, hJ⟩ := hcx;subst e1;obtain ⟨C2, eC, cC, hsub, hsuite⟩ := hcatch σ1 _ H' hJ;obtain rfl : C = C2 := by injection eC
    have hfr0 : X.A.frames = some (X.env :: X.outer) := by rw [<- hst]; exact I.ok.frames
    have fl0 : Heap.FlyingW B (X.env :: X.outer) ea (.ref C) a0 s1.heap := by rw [<- hst]; exact fl
    have hfr : ∀ b ∈ frs X.stack, ∀ o, s1.heap.get? b = some o -> ∀ vs, o.data ≠ .fields vs := fun b hb o q => by
      obtain ⟨_, o', e', n'⟩ := fl.2.2.1.mem hb;rw [q] at e'; cases e';exact n'
    have old_ne : ∀ b o, s2.heap.get? b = some o -> b ≠ ea := fun b o q z => by
      by_cases hbf : b ∈ frs X.stack
      . obtain ⟨oe, vs, T, oT, ts', he, _, hd, _⟩ := fl.2.2.2
        rw [<- z] at he;exact hfr b hbf oe he vs hd
      . obtain ⟨ob, k1, _⟩ := dom2 b o q hbf
        rw [z, fl.2.1] at k1; cases k1
    refine wpAny_looks_onW hfr0 hf fl0 fun h4 held4 sm4 => ?_
    refine wpAny_landsW held4 fun h5 fl5 sm5 => ?_
    have at5 : ∀ {h6 : Heap} {sx : Shared}, sx.heap = h6 -> sx.os = s1.os -> sx.gens = s1.gens -> B.StaysIn h6 -> s1.heap.UpToSlots h6 -> Inv X pins σ1 H' sx := fun {h6 sx} e1 e2 e3 k1 k2 => by
      subst e1;exact J2.call' (ch := []) (e2.trans os) (ja un dom2 k1 k2 hfr) (HOk.flown hok fl.1 k1 dom) (by rw [e3]; exact bare) (fun b z => absurd z (by simp))
    have I5 : Inv X pins σ1 H' { s1 with heap := h5 } := at5 (sx := { s1 with heap := h5 }) rfl rfl rfl fl5.1 (sm4.trans sm5);obtain ⟨oe5, he5, hc5⟩ := fl5.there;refine wpAny_handleBy_cons (codeAny_handlers_test (rc (I5.suite (.ref ea)) hg hm ?_ hdb)) (by intro q; cases q);refine mh I5.kIn cC cD he5 hc5 hsub ?_
    show codeAny _ _ _ _ _
    refine codeAny_handlers_suite_as ?_;refine lands_againW fl5 fun h6 fl6 sm6 => ?_
    have I6 : Inv X pins σ1 H' { s1 with heap := h6 } := at5 (sx := { s1 with heap := h6 }) rfl rfl rfl fl6.1 ((sm4.trans sm5).trans sm6)
    have I7 : Inv X pins σ1 (upd H' ea (ExcO ea C)) { s1 with heap := h6 } := by
      obtain ⟨oe, vs, T, oT, ts', he, ⟨hcl, _⟩, hd, _⟩ := fl6.2.2.2;refine I6.track he hea ?_ ?_ (fun y c q => ?_) (fun p hp => ?_) ?_
      . cases q : X.s₀.heap.get? ea with
        | none => rfl
        | some o =>
          obtain ⟨o', q'⟩ := J2.base.there ea o q (by rw [hex]; simp);exact absurd rfl (old_ne ea o' q')
      . obtain ⟨m, ⟨o, _, _, ho, _⟩, _⟩ := J2.loc
        exact Ne.symm (old_ne _ o ho)
      . obtain ⟨v, o, ho, _⟩ := J2.cell y c q
        exact old_ne c o ho
      . exact old_ne _ _ (J2.pin p hp).1
      . refine ⟨⟨oe, he, hcl, vs, hd⟩, ⟨oe, he⟩, fun h1 h2 k1 k2 => ?_⟩
        obtain ⟨o, z1, z2⟩ := k1;exact ⟨o, k2 o z1, z2⟩
    refine rk (X := X.suite (.ref ea)) (I7.suite (.ref ea)) hN hi (.inl hx) (v := .ref ea) rfl (fun s8 I8 => ?_) (.inr hx);refine wpAny_mono (hs (.ref ea) pins s8 _ _ (o5 i D) I8 (hsuite _ ea hea)) (fun f s9 h9 => ?_) fun _ _ z => z.elim
    show wpAny _ _ _ _ _ _
    cases f with
    | next =>
      obtain ⟨σ9, H9, I9, q9⟩ := h9;exact sg (I9.unsuite I.ok.hd) hN hi hx fun s' I' => ⟨_, _, I', q9⟩
    | brk =>
      obtain ⟨σ9, H9, I9, q9⟩ := h9;exact sg (I9.unsuite I.ok.hd) hN hi hx fun s' I' => ⟨_, _, I', q9⟩
    | cont =>
      obtain ⟨σ9, H9, I9, q9⟩ := h9;exact sg (I9.unsuite I.ok.hd) hN hi hx fun s' I' => ⟨_, _, I', q9⟩
    | ret u =>
      obtain ⟨v9, σ9, H9, I9, r9, q9⟩ := h9;exact sg (I9.unsuite I.ok.hd) hN hi hx fun s' I' => ⟨_, _, _, I', r9, q9⟩
def tTry0 (K : Fg) (D0 : Addr) (tb : (St -> Value -> Hp -> Prop) -> List (Addr × Obj) -> TS) (ts : Value -> TS) : TS := fun D σ H => ∃ J : St -> Value -> Hp -> Prop, (∀ pn, tb J pn D σ H) /\
  ∀ σ1 c H1, J σ1 c H1 -> ∃ C, c = .ref C /\ Err K C /\ PySem.W.mroIn K C (.ref D0) = some true /\ ∀ e, ts e D σ1 H1
theorem suK {e : Value} : (X.suite e).K = X.K := rfl
theorem noxK : X.nox.K = X.K := rfl
theorem tryK {pn : List (Addr × Obj)} {J : St -> Value -> Hp -> Prop} : (oq X pn J).K = X.K := rfl
theorem ae {K : Fg} {D0 : Addr} {i : Nat} {tb : (St -> Value -> Hp -> Prop) -> List (Addr × Obj) -> TS} {ts : Value -> TS} {D : Ends} : d4 K D0 i tb ts D σ H = ∃ J : St -> Value -> Hp -> Prop, (∀ pn, tb J pn D σ H) /\
  ∀ σ1 c H1, J σ1 c H1 -> ∃ C, c = .ref C /\ Err K C /\ PySem.W.mroIn K C (.ref D0) = some true /\ ∀ e ea, H1 ea = none -> ts e (o5 i D) (σ1.set i (some (.ref ea))) (upd H1 ea (ExcO ea C)) := rfl
theorem e_try0 {K : Fg} {D0 : Addr} {tb : (St -> Value -> Hp -> Prop) -> List (Addr × Obj) -> TS} {ts : Value -> TS} {D : Ends} : tTry0 K D0 tb ts D σ H = ∃ J : St -> Value -> Hp -> Prop, (∀ pn, tb J pn D σ H) /\
  ∀ σ1 c H1, J σ1 c H1 -> ∃ C, c = .ref C /\ Err K C /\ PySem.W.mroIn K C (.ref D0) = some true /\ ∀ e, ts e D σ1 H1 := rfl
end
end L2
namespace L2
open PySem PySem.Spec PyProof.Rows
structure ErrQ (K : Fg) (C : Addr) : Prop extends Err K C where
  ga : PySem.W.findIn K (.ref C) "__getattribute__" = some (some (.builtin "BaseException.__getattribute__"))
  gn : PySem.W.findIn K (.ref C) "__getattr__" = some none
  gc : PySem.W.findIn K (.ref C) "__class__" = some (some (.builtin "object.__class__"))
section
variable {prog : Program} {w : World} {A : Around} {E : Value -> Shared -> Prop} {h : Heap} {g : Array GenState} {d : Drawn} {t : Nat} {os : OsState} {a C : Addr} {o : Obj} {K : Fg}
theorem gg {R : Result -> Shared -> Prop} (X : K.In h) (c : ErrQ K C) (hx : h.get? a = some o) (hc : o.cls = .ref C) (hq : R (.ok (.ret (.ref C))) ⟨h, g, d, t, os⟩) :
    codeAny (model prog w) A (.call (.builtin "getset_descriptor.__get__") ⟨[.builtin "object.__class__", .ref a, .ref C], []⟩) R ⟨h, g, d, t, os⟩ := by
  obtain ⟨bm, N, nm, q, bs, hdct, sn, sub, ab, col, dd, k0, k1, k2, k3, k5, mN, hC, hN, hni, T, _⟩ := c.obj X;have hT5 : (⟨h, g, d, t, os⟩ : Shared).TypeIs (.builtin "object.__class__") "getset_descriptor" := F.typeOf_object_class;have hcO : (Value.ref C :: bm).contains (.type (".".intercalate ("object.__class__".cutAt '.').dropLast)) = true := by rw [F.owner_object_class, Yv, T.hasType (X := "object") (b := true) (by decide +kernel), Bool.or_true]
  refine codeAny_call_builtin F.slot_gs_get.plain F.entry_gs_get (F.slot_gs_get.check _ _ _ _ _ _ _ _ hT5 (F.args_gs_get _ _ _) ?_)
  repeat (any_goals (first | assumption | (with_reducible refine wpAny_loadPart_at hx ?_; rw [hc]) | (with_reducible refine wpAny_isSubtype_exc hC ?_; rw [hcO]) | wp_step))
  refine ⟨Code.quiet_builtin _ (by decide +kernel), codeAny_builtin F.entry_object_class ?_⟩
  repeat (any_goals (first | assumption | (with_reducible refine wpAny_loadPart_at hx ?_; rw [hc]) | wp_step))
theorem jd {tk : Tok} {Q : Fin -> Shared -> Prop} (X : K.In h) (c : ErrQ K C) (hx : h.get? a = some o) (hc : o.cls = .ref C) (hq : Q (.done (.ret (.ref C))) ⟨h, g, d, t, os⟩) :
    wpAny (model prog w) A (Builtin.«object.__getattribute__» ⟨[.ref a, .str "__class__" tk], []⟩) Q E ⟨h, g, d, t, os⟩ := by
  have hT5 : (⟨h, g, d, t, os⟩ : Shared).TypeIs (.builtin "object.__class__") "getset_descriptor" := F.typeOf_object_class;have L1 := PySem.W.looks_findIn (M := model prog w) X c.gc;have f5 := F.typeOf_object_class;have f6 := F.slot_gs_get.lookup;have f7 := F.slot_gs_set.lookup
  repeat (any_goals (first | assumption | (with_reducible refine wpAny_loadPart_at hx ?_; rw [hc]) | with_reducible refine L1.at ?_ | wp_step))
  refine gg X c hx hc ?_
  repeat (any_goals (first | assumption | wp_step))
theorem ji {M : Model} {xa : Value} {Q : Unit -> Shared -> Prop} (X : K.In h) (c : ErrQ K C) (hx : h.get? a = some o) (hc : o.cls = .ref C) (hq : Q () ⟨h, g, d, t, os⟩) : wpAny M A (checkBuiltinCall "BaseException.__getattribute__" ⟨[.ref a, xa], []⟩) Q E ⟨h, g, d, t, os⟩ := by
  obtain ⟨bm, N, nm, q, bs, hdct, sn, sub, ab, col, dd, k0, k1, k2, k3, k5, mN, hC, hN, hni, T, _⟩ := c.obj X;have hk : builtinKind "BaseException.__getattribute__" = some .slot := by decide +kernel
  have hsplit : splitId "BaseException.__getattribute__" = some ("BaseException", "__getattribute__") := by decide +kernel
  have hcB : (Value.ref C :: bm).contains (.type "BaseException") = true := by rw [Yv, T.hasType (X := "BaseException") (b := true) (by decide +kernel), Bool.or_true]
  have ha := F.args_bexc_ga (.ref a) xa;simp only [checkBuiltinCall, hk, hsplit];refine wpAny_bind ?_;unfold isInstance
  repeat (first | (with_reducible refine wpAny_loadPart_at hx ?_; rw [hc]) | (with_reducible refine wpAny_isSubtype_exc hC ?_; rw [hcB]) | wp_step)
  exact hq
theorem ju {tk : Tok} {R : Result -> Shared -> Prop} (X : K.In h) (c : ErrQ K C) (hx : h.get? a = some o) (hc : o.cls = .ref C) (hq : R (.ok (.ret (.ref C))) ⟨h, g, d, t, os⟩) :
    codeAny (model prog w) A (.call (.builtin "BaseException.__getattribute__") ⟨[.ref a, .str "__class__" tk], []⟩) R ⟨h, g, d, t, os⟩ :=
  codeAny_call_builtin F.attrBase_ValueError.ga.plain F.entry_bexc_ga (ji X c hx hc (jd X c hx hc hq))
theorem e6 {tk : Tok} {Q : Value -> Shared -> Prop} (X : K.In h) (c : ErrQ K C) (hx : h.get? a = some o) (hc : o.cls = .ref C) (hq : Q (.ref C) ⟨h, g, d, t, os⟩) : wpAny (model prog w) A (getAttrBy (.ref a) (.str "__class__" tk) false) Q E ⟨h, g, d, t, os⟩ := by
  have f3 := F.attrBase_ValueError.ga.bind (.ref a);have L1 := PySem.W.looks_findIn (M := model prog w) X c.ga;have L2' := PySem.W.looks_findIn (M := model prog w) X c.gn;have hx2 : (Value.builtin "BaseException.__getattribute__" == Value.builtin "object.__getattribute__") = false := by decide +kernel
  have hx1 : (onTheHeap (Value.ref C) && Value.builtin "BaseException.__getattribute__" == Value.builtin "object.__getattribute__") = false := by rw [hx2]; rfl
  repeat (any_goals (first | assumption | (with_reducible refine wpAny_loadPart_at hx ?_; rw [hc]) | with_reducible refine L1.at ?_ | with_reducible refine L2'.at ?_ | wp_step))
  refine ju X c hx hc ?_
  repeat (any_goals (first | assumption | wp_step))
theorem jz {Q : Option Value -> Shared -> Prop} (X : K.In h) (c : ErrQ K C) (hx : h.get? a = some o) (hc : o.cls = .ref C) (hq : Q (some (.ref C)) ⟨h, g, d, t + 1, os⟩) : wpAny (model prog w) A (getAttr? (.ref a) "__class__") Q E ⟨h, g, d, t, os⟩ := by
  unfold getAttr? getAttrBy?
  repeat (any_goals (first | assumption | with_reducible apply e6 X c hx hc | wp_step))
end
def ExcAt (a C : Addr) (h : Heap) : Prop := ∃ o, h.get? a = some o /\ o.cls = .ref C
theorem px {K : Fg} {a C : Addr} (c : ErrQ K C) : PySem.W.KitX K (.ref a) (.ref C) (ExcAt a C) where
  ty := fun M h X p => by
    obtain ⟨o, h1, h2⟩ := p;exact h2 ▸ (PySem.W.Looks.ld h1).andThen .now
  it := fun M h X p => by
    obtain ⟨bm, N, nm, q, bs, hdct, sn, sub, ab, col, dd, k0, k1, k2, k3, k5, mN, hC, hN, hni, T, _⟩ := c.obj X;intro A' Q' E' s' k q;unfold isType loadHead;exact wpAny_bind (wpAny_loadPart (k _ _ hC) (wpAny_pure q))
  ne := fun h tp dd its n sl X htp => by
    obtain ⟨bm, N, nm, q, bs, hdct, sn, sub, ab, col, dd, k0, k1, k2, k3, k5, mN, hC, hN, hni, T, _⟩ := c.obj X;refine Bool.eq_false_iff.mpr fun q => ?_
    have e : C = tp := Value.ref.inj (beq_iff_eq.mp q);subst e;rw [hC] at htp;have hcl := congrArg Obj.cls (Option.some.inj htp)
    revert hcl
    show Value.type "type" = Value.type "tuple" -> False
    intro hcl
    injection hcl with hcl
    exact absurd hcl (by decide)
  ca := fun {_ _ _ _ _ s} X p k => by
    obtain ⟨o, h1, h2⟩ := p;obtain ⟨h, g, d, t, os⟩ := s;exact jz X c h1 h2 k
section
variable {X : Cx} {pins : List (Addr × Obj)} {σ : St} {H : Hp} {s : Shared}
theorem Inv.exc {ea C : Addr} (I : Inv X pins σ H s) (h : H ea = some (ExcO ea C)) : ExcAt ea C s.heap := by
  have q : ObjOk X.prog X.w H s.heap ea (ExcO ea C) := I.hok ea _ h;obtain ⟨⟨o, h1, h2, _⟩, _⟩ := q;exact ⟨o, h1, h2⟩
theorem ki : CallR X (.builtin "isinstance") (fun xs H Q => ∃ ea C D b, xs = [.ref ea, .ref D] /\ H ea = some (ExcO ea C) /\ ErrQ X.K C /\ PySem.W.kitOne X.K (.ref C) (.ref D) = some b /\ Q (.bl b) H) := by
  intro pins s σ H xs us Q I r h;obtain ⟨ea, C, D, b, rfl, he, c, e, q⟩ := h;obtain ⟨u, v, rfl, rx, ry⟩ := Vals.two r;cases rx; cases ry;exact PySem.W.kia_one (px c) I.kIn (I.exc he) e (fun z => nomatch z) fun tk => ⟨.bl b, H, I.tok _, rfl, q⟩
theorem kr : CallR X (.builtin "isinstance") (fun xs H Q => ∃ ea C T b, xs = [.ref ea, .ty T] /\ H ea = some (ExcO ea C) /\ ErrQ X.K C /\ PySem.W.kitOne X.K (.ref C) (.type T) = some b /\ Q (.bl b) H) := by
  intro pins s σ H xs us Q I r h;obtain ⟨ea, C, D, b, rfl, he, c, e, q⟩ := h;obtain ⟨u, v, rfl, rx, ry⟩ := Vals.two r;cases rx; cases ry;exact PySem.W.kia_one (px c) I.kIn (I.exc he) e (fun z => nomatch z) fun tk => ⟨.bl b, H, I.tok _, rfl, q⟩
theorem m6 : ∀ {Ds : List Addr} {us : List Value}, Vals (Ds.map V.ref) us -> us = Ds.map Value.ref
  | [], _, .nil => rfl
  | D :: Ds, _, .cons r t => by
    rw [m6 t];cases r;rfl
theorem qe : CallR X (.builtin "isinstance") (fun xs H Q => ∃ (ea C tp : Addr) (Ds : List Addr) (b : Bool), xs = [.ref ea, .ref tp] /\ H ea = some (ExcO ea C) /\ ErrQ X.K C /\ SqT X.K H tp (Ds.map V.ref) /\ PySem.W.kitAny X.K (.ref C) (Ds.map Value.ref) = some b /\ Q (.bl b) H) := by
  intro pins s σ H xs us Q I r h;obtain ⟨ea, C, tp, Ds, b, rfl, he, c, ht, e, q⟩ := h;obtain ⟨u, v, rfl, rx, ry⟩ := Vals.two r;cases rx; cases ry;obtain ⟨its, rv, ⟨o, ho, hc, n, hd⟩, hz⟩ := I.tuple ht;have ei := m6 rv;subst ei;obtain ⟨ocls, odict, odata, oslots⟩ := o;dsimp only at hc hd;subst hc hd;exact PySem.W.kia_tup (px c) I.kIn (I.exc he) ho e (fun z => nomatch z) fun tk => ⟨.bl b, H, I.tok _, rfl, q⟩
end
theorem lq : bootBuiltins "ValueError" = some (.type "ValueError") := by decide +kernel
theorem ef {K : Fg} {h : Heap} {mg : Str -> Option Value} (X : K.In h) (G : h.Ns mainGlobals mg) {name : Str} {C : Addr} (e : PySem.W.nsIn K mainGlobals name = some (some (.ref C))) (q : PySem.W.excIn K C VE "ValueError.__new__" = true)
    (g1 : PySem.W.findIn K (.ref C) "__getattribute__" = some (some (.builtin "BaseException.__getattribute__"))) (g2 : PySem.W.findIn K (.ref C) "__getattr__" = some none) (g3 : PySem.W.findIn K (.ref C) "__class__" = some (some (.builtin "object.__class__"))) :
    mg name = some (.ref C) /\ ErrQ K C := ⟨PySem.W.mg_of X G e, ⟨⟨q⟩, g1, g2, g3⟩⟩
theorem d7 {K : Fg} {C : Addr} : PySem.W.kitOne K (.ref C) (.ref C) = some true := by
  unfold PySem.W.kitOne;rw [if_pos (by simp)]
theorem uj {K : Fg} {C D : Addr} {cd : ClassData} {b : Bool} (h0 : (Value.ref C == Value.ref D) = false) (h1 : PySem.W.clsIn K D = some cd) (h2 : PySem.W.typeIn K (.ref D) = some (.type "type")) (h3 : PySem.W.subIn K (.ref C) (.ref D) = some b) : PySem.W.kitOne K (.ref C) (.ref D) = some b := by
  unfold PySem.W.kitOne PySem.W.kitCls;rw [if_neg (by rw [h0]; simp)]
  show (if ((PySem.W.clsIn K D).isSome && PySem.W.typeIn K (.ref D) == some (.type "type")) = true then PySem.W.subIn K (.ref C) (.ref D) else none) = some b
  rw [h1, h2, if_pos (by simp)];exact h3
theorem bt {K : Fg} {C : Addr} {b : Bool} (h3 : PySem.W.subIn K (.ref C) (.type "ValueError") = some b) : PySem.W.kitOne K (.ref C) (.type "ValueError") = some b := by
  unfold PySem.W.kitOne PySem.W.kitCls;rw [if_neg (by simp)]
  show (if PySem.W.kitMeta "ValueError" = true then PySem.W.subIn K (.ref C) (.type "ValueError") else none) = some b
  rw [if_pos (by decide +kernel)];exact h3
def fg (K : Fg) (C : Addr) : List Addr -> Prop
  | [] => True
  | D :: Ds => PySem.W.kitOne K (.ref C) (.ref D) = some false /\ fg K C Ds
theorem su {K : Fg} {C : Addr} : ∀ {Ds : List Addr}, fg K C Ds -> PySem.W.kitAny K (.ref C) (Ds.map Value.ref) = some false
  | [], _ => rfl
  | D :: Ds, h => by
    show PySem.W.kitAny K (.ref C) (Value.ref D :: Ds.map Value.ref) = some false
    unfold PySem.W.kitAny;rw [h.1];exact su h.2
theorem Same.seqT {K : Fg} {H H' : Hp} {a : Addr} {xs : List V} (e : Same H H') (h : SqT K H a xs) : SqT K H' a xs := by
  rcases h with (h | ⟨o, h⟩) | h
  . exact .inl (.inl (e _ _ h))
  . exact .inl (.inr ⟨o, e _ _ h⟩)
  . exact .inr h
end L2
namespace L2
open PySem PySem.Spec PyProof.Rows
inductive Tr where
  | lf (v : V) | ls (ts : List Tr) | tp (ts : List Tr)
mutual
def TrAt (K : Fg) (H : Hp) : Tr -> V -> Prop
  | .lf v, x => x = v /\ xk v = true
  | .ls ts, x => ∃ a xs, x = .ref a /\ SqL K H a xs /\ TrsAt K H ts xs
  | .tp ts, x => ∃ a xs, x = .ref a /\ SqT K H a xs /\ TrsAt K H ts xs
def TrsAt (K : Fg) (H : Hp) : List Tr -> List V -> Prop
  | [], xs => xs = []
  | t :: ts, xs => ∃ y ys, xs = y :: ys /\ TrAt K H t y /\ TrsAt K H ts ys
end
mutual
def eqTr : Tr -> Tr -> Bool
  | .lf v, .lf w => eqV v w
  | .ls ts, .ls us => xq ts us
  | .tp ts, .tp us => xq ts us
  | _, _ => false
def xq : List Tr -> List Tr -> Bool
  | [], [] => true
  | t :: ts, u :: us => eqTr t u && xq ts us
  | _, _ => false
end
mutual
def deep : Tr -> Nat
  | .lf _ => 0
  | .ls ts => vx ts + 1
  | .tp ts => vx ts + 1
def vx : List Tr -> Nat
  | [] => 0
  | t :: ts => max (deep t) (vx ts)
end
theorem xy : ∀ {ts : List Tr} {t : Tr}, t ∈ ts -> deep t <= vx ts
  | t :: ts, u, h => by
    rw [vx]
    rcases ZJ.mp h with z | z
    . rw [z]; omega
    . have := xy z; omega
theorem uw : ∀ {xs ys : List Tr}, xs.length = ys.length -> ((List.range xs.length).all fun j => eqTr (xs.getD j (.lf .non)) (ys.getD j (.lf .non))) = xq xs ys
  | [], [], _ => by rw [xq]; rfl
  | x :: xs, y :: ys, h => by
    rw [xq, <- uw (xs := xs) (ys := ys) (by simpa using h), ZR, List.range_succ_eq_map, Yp, Yr];rfl
theorem sm : ∀ {xs ys : List Tr}, xs.length ≠ ys.length -> xq xs ys = false
  | [], [], h => absurd rfl h
  | [], _ :: _, _ => by rw [xq] <;> simp
  | _ :: _, [], _ => by rw [xq] <;> simp
  | x :: xs, y :: ys, h => by
    rw [xq, sm (xs := xs) (ys := ys) (by simpa using h), Bool.and_false]
theorem ig {xs ys : List Tr} : (((List.range (min xs.length ys.length)).all fun j => eqTr (xs.getD j (.lf .non)) (ys.getD j (.lf .non))) && xs.length == ys.length) = xq xs ys := by
  by_cases hl : xs.length = ys.length
  . rw [<- hl, Nat.min_self, uw hl]
    simp
  . rw [sm hl, show (xs.length == ys.length) = false by simpa using hl, Bool.and_false]
theorem TrsAt.len {K : Fg} {H : Hp} : ∀ {ts : List Tr} {xs : List V}, TrsAt K H ts xs -> ts.length = xs.length
  | [], xs, h => by rw [TrsAt] at h; rw [h]; rfl
  | t :: ts, xs, h => by
    rw [TrsAt] at h;obtain ⟨y, ys, rfl, _, h⟩ := h;simp [TrsAt.len h]
theorem TrsAt.get {K : Fg} {H : Hp} : ∀ {ts : List Tr} {xs : List V} {j : Nat} {x : V}, TrsAt K H ts xs -> xs[j]? = some x -> ∃ t, ts[j]? = some t /\ TrAt K H t x
  | [], xs, j, x, h, e => by rw [TrsAt] at h; subst h; simp at e
  | t :: ts, xs, 0, x, h, e => by
    rw [TrsAt] at h;obtain ⟨y, ys, rfl, h1, h⟩ := h;cases e;exact ⟨t, rfl, h1⟩
  | t :: ts, xs, j + 1, x, h, e => by
    rw [TrsAt] at h;obtain ⟨y, ys, rfl, h1, h⟩ := h;exact TrsAt.get (ts := ts) (j := j) h e
theorem TrsAt.of {K : Fg} {H : Hp} : ∀ {ts : List Tr} {xs : List V}, ts.length = xs.length -> (∀ (j : Nat) (t : Tr) (x : V), ts[j]? = some t -> xs[j]? = some x -> TrAt K H t x) -> TrsAt K H ts xs
  | [], [], _, _ => by rw [TrsAt]
  | t :: ts, x :: xs, hl, h => by
    rw [TrsAt];exact ⟨x, xs, rfl, h 0 t x rfl rfl, TrsAt.of (by simpa using hl) fun j t x e1 e2 => h (j + 1) t x e1 e2⟩
theorem oj {v : V} (h : xk v = true) : eqV v v = true := by
  cases v with
  | non => rfl
  | bl b => exact beq_self_eq_true b
  | int i => exact beq_self_eq_true i
  | str x => exact beq_self_eq_true x
  | _ => exact absurd (show false = true from h) Bool.false_ne_true
section
variable {X : Cx} {pins : List (Addr × Obj)} {σ : St} {H : Hp} {s : Shared}
theorem ip (I : Inv X pins σ H s) : ∀ (n : Nat) (t t' : Tr) (x : V), deep t <= n -> TrAt X.K H t x -> TrAt X.K H t' x -> eqTr t t' = true := by
  intro n
  induction n with
  | zero =>
    intro t t' x hd h h'
    cases t with
    | ls ts => rw [deep] at hd; omega
    | tp ts => rw [deep] at hd; omega
    | lf v =>
      rw [TrAt] at h;obtain ⟨rfl, f⟩ := h
      cases t' with
      | lf w => rw [TrAt] at h'; obtain ⟨rfl, _⟩ := h'; rw [eqTr]; exact oj f
      | ls ts => rw [TrAt] at h'; obtain ⟨a, xs, rfl, _⟩ := h'; cases f
      | tp ts => rw [TrAt] at h'; obtain ⟨a, xs, rfl, _⟩ := h'; cases f
  | succ n ih =>
    have all : ∀ (ts us : List Tr) (xs : List V), vx ts <= n -> TrsAt X.K H ts xs -> TrsAt X.K H us xs -> xq ts us = true := by
      intro ts
      induction ts with
      | nil =>
        intro us xs _ h1 h2
        cases us with
        | nil => rw [xq]
        | cons u us => rw [TrsAt] at h1; rw [TrsAt] at h2; obtain ⟨y, ys, e, _⟩ := h2; rw [h1] at e; cases e
      | cons t ts ih2 =>
        intro us xs hd h1 h2;rw [TrsAt] at h1;obtain ⟨y, ys, rfl, a1, b1⟩ := h1
        cases us with
        | nil => rw [TrsAt] at h2; cases h2
        | cons u us =>
          rw [TrsAt] at h2;obtain ⟨y', ys', e, a2, b2⟩ := h2;cases e;rw [vx] at hd;rw [xq, ih t u y (by omega) a1 a2, ih2 us ys (by omega) b1 b2];rfl
    intro t t' x hd h h'
    cases t with
    | lf v =>
      rw [TrAt] at h;obtain ⟨rfl, f⟩ := h
      cases t' with
      | lf w => rw [TrAt] at h'; obtain ⟨rfl, _⟩ := h'; rw [eqTr]; exact oj f
      | ls ts => rw [TrAt] at h'; obtain ⟨a, xs, rfl, _⟩ := h'; cases f
      | tp ts => rw [TrAt] at h'; obtain ⟨a, xs, rfl, _⟩ := h'; cases f
    | ls ts =>
      rw [TrAt] at h;obtain ⟨a, xs, rfl, sq, h⟩ := h;rw [deep] at hd
      cases t' with
      | lf w => rw [TrAt] at h'; obtain ⟨rfl, f⟩ := h'; cases f
      | ls us =>
        rw [TrAt] at h';obtain ⟨b, ys, e, sq', h'⟩ := h';cases e;obtain rfl := I.list_inj sq sq';rw [eqTr];exact all ts us xs (by omega) h h'
      | tp us =>
        rw [TrAt] at h';obtain ⟨b, ys, e, sq', h'⟩ := h';cases e;obtain ⟨_, _, p1, _⟩ := I.list sq;obtain ⟨_, _, p2, _⟩ := I.tuple sq';exact (SeqAt.ne_of_list_tuple p1.isList p2 rfl).elim
    | tp ts =>
      rw [TrAt] at h;obtain ⟨a, xs, rfl, sq, h⟩ := h;rw [deep] at hd
      cases t' with
      | lf w => rw [TrAt] at h'; obtain ⟨rfl, f⟩ := h'; cases f
      | tp us =>
        rw [TrAt] at h';obtain ⟨b, ys, e, sq', h'⟩ := h';cases e;obtain rfl := I.tuple_inj sq sq';rw [eqTr];exact all ts us xs (by omega) h h'
      | ls us =>
        rw [TrAt] at h';obtain ⟨b, ys, e, sq', h'⟩ := h';cases e;obtain ⟨_, _, p1, _⟩ := I.list sq';obtain ⟨_, _, p2, _⟩ := I.tuple sq;exact (SeqAt.ne_of_list_tuple p1.isList p2 rfl).elim
theorem ma {A : Around} {a : Addr} {us : Array Value} {v : V} {u : Value} (r : RelV v u) (f : xk v = true) (hl : s.heap.IsList a us) (hu : A.units < cLine) : SeqAt.EqAt A s u (.ref a) false := by
  cases v with
  | non => cases r; exact SeqAt.EqAt.none_list hl hu
  | bl b => cases r; exact SeqAt.EqAt.bool_list b hl hu
  | int b => obtain ⟨t, rfl⟩ := r; exact SeqAt.EqAt.int_list b t hl hu
  | str b => obtain ⟨t, rfl⟩ := r; exact SeqAt.EqAt.str_list b t hl hu
  | _ => cases f
theorem nz {A : Around} {a : Addr} {us : Array Value} {v : V} {u : Value} (r : RelV v u) (f : xk v = true) (hl : s.heap.IsList a us) (hu : A.units < cLine) : SeqAt.EqAt A s (.ref a) u false := by
  cases v with
  | non => cases r; exact SeqAt.EqAt.list_none hl hu
  | bl b => cases r; exact SeqAt.EqAt.list_bool b hl hu
  | int b => obtain ⟨t, rfl⟩ := r; exact SeqAt.EqAt.list_int b t hl hu
  | str b => obtain ⟨t, rfl⟩ := r; exact SeqAt.EqAt.list_str b t hl hu
  | _ => cases f
theorem ov {A : Around} {a : Addr} {us : Array Value} {v : V} {u : Value} (r : RelV v u) (f : xk v = true) (hl : s.heap.IsTuple a us) (hu : A.units < cLine) : SeqAt.EqAt A s u (.ref a) false := by
  cases v with
  | non => cases r; exact SeqAt.EqAt.none_tuple hl hu
  | bl b => cases r; exact SeqAt.EqAt.bool_tuple b hl hu
  | int b => obtain ⟨t, rfl⟩ := r; exact SeqAt.EqAt.int_tuple b t hl hu
  | str b => obtain ⟨t, rfl⟩ := r; exact SeqAt.EqAt.str_tuple b t hl hu
  | _ => cases f
theorem na {A : Around} {a : Addr} {us : Array Value} {v : V} {u : Value} (r : RelV v u) (f : xk v = true) (hl : s.heap.IsTuple a us) (hu : A.units < cLine) : SeqAt.EqAt A s (.ref a) u false := by
  cases v with
  | non => cases r; exact SeqAt.EqAt.tuple_none hl hu
  | bl b => cases r; exact SeqAt.EqAt.tuple_bool b hl hu
  | int b => obtain ⟨t, rfl⟩ := r; exact SeqAt.EqAt.tuple_int b t hl hu
  | str b => obtain ⟨t, rfl⟩ := r; exact SeqAt.EqAt.tuple_str b t hl hu
  | _ => cases f
theorem rn {A : Around} {ts us : List Tr} {xs ys : List V} {vs ws : List Value} (h1 : TrsAt X.K H ts xs) (h2 : TrsAt X.K H us ys) (r1 : Vals xs vs) (r2 : Vals ys ws)
    (ih : ∀ t ∈ ts, ∀ u ∈ us, ∀ x y v w, TrAt X.K H t x -> TrAt X.K H u y -> RelV x v -> RelV y w -> SeqAt.EqAt A s v w (eqTr t u)) :
    ∀ j (h1 : j < vs.toArray.size) (h2 : j < ws.toArray.size), SeqAt.EqAt A s vs.toArray[j] ws.toArray[j] (eqTr (ts.getD j (.lf .non)) (us.getD j (.lf .non))) := by
  intro j k1 k2;obtain ⟨x, ex, rx⟩ := r6 r1 (j := j) (by simpa using k1);obtain ⟨y, ey, ry⟩ := r6 r2 (j := j) (by simpa using k2);obtain ⟨t, et, ht⟩ := h1.get ex;obtain ⟨u, eu, hu⟩ := h2.get ey;rw [Yh, Yh, Zk, Zk, et, eu];exact ih t (Zi et) u (Zi eu) x y _ _ ht hu rx ry
theorem au (I : Inv X pins σ H s) : ∀ (n : Nat) (A : Around) (t t' : Tr) (x y : V) (u v : Value), deep t <= n -> deep t' <= n -> A.units + n <= cLine -> TrAt X.K H t x -> TrAt X.K H t' y -> RelV x u -> RelV y v -> SeqAt.EqAt A s u v (eqTr t t') := by
  intro n
  induction n with
  | zero =>
    intro A t t' x y u v d1 d2 hu h h' rx ry
    cases t with
    | ls ts => rw [deep] at d1; omega
    | tp ts => rw [deep] at d1; omega
    | lf v =>
      cases t' with
      | ls ts => rw [deep] at d2; omega
      | tp ts => rw [deep] at d2; omega
      | lf w =>
        rw [TrAt] at h h';obtain ⟨rfl, f⟩ := h;obtain ⟨rfl, f'⟩ := h';rw [eqTr];exact kw rx ry f f'
  | succ n ih =>
    intro A t t' x y u v d1 d2 hu h h' rx ry;have hc : A.units < cLine := by omega
    have hi : A.in1.units + n <= cLine := by rw [qk]; omega
    cases t with
    | lf v =>
      rw [TrAt] at h;obtain ⟨rfl, f⟩ := h
      cases t' with
      | lf w =>
        rw [TrAt] at h';obtain ⟨rfl, f'⟩ := h';rw [eqTr];exact kw rx ry f f'
      | ls us =>
        rw [TrAt] at h';obtain ⟨b, ys, rfl, sq, h'⟩ := h';obtain ⟨_, _, p1, _⟩ := I.list sq;cases ry;exact ma rx f p1.isList hc
      | tp us =>
        rw [TrAt] at h';obtain ⟨b, ys, rfl, sq, h'⟩ := h';obtain ⟨_, _, p1, _⟩ := I.tuple sq;cases ry;exact ov rx f p1 hc
    | ls ts =>
      rw [deep] at d1;have h0 := h;rw [TrAt] at h;obtain ⟨a, xs, rfl, sq, h⟩ := h;obtain ⟨vs, r1, p1, _⟩ := I.list sq;cases rx
      cases t' with
      | lf w =>
        rw [TrAt] at h';obtain ⟨rfl, f⟩ := h';exact nz ry f p1.isList hc
      | tp us =>
        rw [TrAt] at h';obtain ⟨b, ys, rfl, sq', h'⟩ := h';obtain ⟨_, _, p2, _⟩ := I.tuple sq';cases ry;exact SeqAt.EqAt.list_tuple p1.isList p2 hc
      | ls us =>
        have h0' := h';rw [TrAt] at h';obtain ⟨b, ys, rfl, sq', h'⟩ := h';obtain ⟨ws, r2, p2, _⟩ := I.list sq';cases ry;rw [deep] at d2
        by_cases e : a = b
        . subst e
          rw [ip I (n + 1) (.ls ts) (.ls us) (.ref a) (by rw [deep]; omega) h0 h0'];exact SeqAt.EqAt.same _
        . have l1 := h.len
          have l2 := h'.len;have l3 := r1.length;have l4 := r2.length;rw [eqTr];refine .of_refs e ?_
          by_cases hl : ts.length = us.length
          . have q := SeqAt.RcAt.lists p1.isList p2.isList (by simp; omega) hc (rn (A := A.in1) (s := s) h h' r1 r2 fun t ht u hu x y v w k1 k2 k3 k4 => ih A.in1 t u x y v w (by have := xy ht; omega) (by have := xy hu; omega) hi k1 k2 k3 k4)
            rw [Zr, <- l3, <- l1, uw hl] at q;exact q
          . rw [sm hl]
            exact SeqAt.RcAt.lists_lengths p1.isList p2.isList (by simp; omega) hc
    | tp ts =>
      rw [deep] at d1;have h0 := h;rw [TrAt] at h;obtain ⟨a, xs, rfl, sq, h⟩ := h;obtain ⟨vs, r1, p1, _⟩ := I.tuple sq;cases rx
      cases t' with
      | lf w =>
        rw [TrAt] at h';obtain ⟨rfl, f⟩ := h';exact na ry f p1 hc
      | ls us =>
        rw [TrAt] at h';obtain ⟨b, ys, rfl, sq', h'⟩ := h';obtain ⟨_, _, p2, _⟩ := I.list sq';cases ry;exact SeqAt.EqAt.tuple_list p1 p2.isList hc
      | tp us =>
        have h0' := h';rw [TrAt] at h';obtain ⟨b, ys, rfl, sq', h'⟩ := h';obtain ⟨ws, r2, p2, _⟩ := I.tuple sq';cases ry;rw [deep] at d2
        by_cases e : a = b
        . subst e
          rw [ip I (n + 1) (.tp ts) (.tp us) (.ref a) (by rw [deep]; omega) h0 h0'];exact SeqAt.EqAt.same _
        . have l1 := h.len
          have l2 := h'.len;have l3 := r1.length;have l4 := r2.length;rw [eqTr];refine .of_refs e ?_;have q := SeqAt.RcAt.tuples (show s.heap.IsTuple a vs.toArray from p1) (show s.heap.IsTuple b ws.toArray from p2) hc (rn (A := A.in1) (s := s) h h' r1 r2 fun t ht u hu x y v w k1 k2 k3 k4 => ih A.in1 t u x y v w (by have := xy ht; omega) (by have := xy hu; omega) hi k1 k2 k3 k4);rw [Zr, Zr, <- l3, <- l4, <- l1, <- l2, ig] at q;exact q
end
section
variable {X : Cx}
def SameK : Tr -> Tr -> Prop
  | .ls _, .ls _ => True
  | .tp _, .tp _ => True
  | _, _ => False
theorem SameK.of {t t' : Tr} (h : SameK t t') : (∃ ts us, t = .ls ts /\ t' = .ls us) \/ ∃ ts us, t = .tp ts /\ t' = .tp us := by
  cases t <;> cases t' <;> first | exact .inl ⟨_, _, rfl, rfl⟩ | exact .inr ⟨_, _, rfl, rfl⟩ | exact h.elim
def rEqD (K : Fg) (n : Nat) (neg : Bool) (x y : V) (H : Hp) (Q : VK) : Prop := ∃ t t', SameK t t' /\ TrAt K H t x /\ TrAt K H t' y /\ deep t <= n /\ deep t' <= n /\ Q (.bl (neg ^^ eqTr t t')) H
theorem op_eqD {n : Nat} (hu : X.A.units + n <= cLine) : OpR X (compareOp .Eq) (rEqD X.K n false) := by
  intro pins s σ H x y v u Q I rx ry h;obtain ⟨t, t', hk, h1, h2, d1, d2, q⟩ := h;rw [Bool.false_xor] at q;have key := fun (A : Around) (m : Nat) (hA : A.units + m <= cLine) t t' x y u v e1 e2 => au I m A t t' x y u v e1 e2 hA
  rcases hk.of with ⟨ts, us, rfl, rfl⟩ | ⟨ts, us, rfl, rfl⟩
  . rw [TrAt] at h1 h2
    obtain ⟨a, xs, rfl, sq, h⟩ := h1;obtain ⟨b, ys, rfl, sq', h'⟩ := h2;cases rx; cases ry;obtain ⟨vs, r1, p1, _⟩ := I.list sq;obtain ⟨ws, r2, p2, _⟩ := I.list sq';rw [deep] at d1 d2;have l1 := h.len;have l2 := h'.len;have l3 := r1.length;have l4 := r2.length;rw [eqTr] at q
    by_cases hl : ts.length = us.length
    . refine SeqAt.eq_listAt p1.isList p2.isList (by simp; omega) (by omega) (rn (A := X.A.in1) (s := s) h h' r1 r2 fun t ht u hu x y v w k1 k2 k3 k4 => key X.A.in1 (n - 1) (by rw [qk]; omega) t u x y v w (by have := xy ht; omega) (by have := xy hu; omega) k1 k2 k3 k4) ?_
      rw [Zr, <- l3, <- l1, uw hl];exact ⟨.bl (xq ts us), H, I, rfl, q⟩
    . refine SeqAt.eq_list_lengthsAt p1.isList p2.isList (by simp; omega) (by omega) ?_
      rw [sm hl] at q;exact ⟨.bl false, H, I, rfl, q⟩
  . rw [TrAt] at h1 h2
    obtain ⟨a, xs, rfl, sq, h⟩ := h1;obtain ⟨b, ys, rfl, sq', h'⟩ := h2;cases rx; cases ry;obtain ⟨vs, r1, p1, _⟩ := I.tuple sq;obtain ⟨ws, r2, p2, _⟩ := I.tuple sq';rw [deep] at d1 d2;have l1 := h.len;have l2 := h'.len;have l3 := r1.length;have l4 := r2.length;rw [eqTr] at q;refine SeqAt.eq_tupleAt (show s.heap.IsTuple a vs.toArray from p1) (show s.heap.IsTuple b ws.toArray from p2) (by omega) (rn (A := X.A.in1) (s := s) h h' r1 r2 fun t ht u hu x y v w k1 k2 k3 k4 => key X.A.in1 (n - 1) (by rw [qk]; omega) t u x y v w (by have := xy ht; omega) (by have := xy hu; omega) k1 k2 k3 k4) ?_;rw [Zr, Zr, <- l3, <- l4, <- l1, <- l2, ig];exact ⟨.bl (xq ts us), H, I, rfl, q⟩
end
mutual
def vm : Tr -> Bool
  | .lf (.int _) => true
  | .lf (.str _) => true
  | .lf .non => true
  | .lf _ => false
  | .ls ts => wv ts
  | .tp ts => wv ts
def wv : List Tr -> Bool
  | [] => true
  | t :: ts => vm t && wv ts
end
mutual
theorem jm : ∀ {t u : Tr}, vm t = true -> vm u = true -> (eqTr t u = true ↔ t = u)
  | .lf v, .lf w, p, q => by
    rw [eqTr]
    constructor
    . intro h
      cases v <;> cases w <;> first | (cases h; done) | (cases p; done) | (cases q; done) | skip
      . rfl
      . rw [beq_iff_eq.mp h]
      . rw [beq_iff_eq.mp h]
    . intro h
      cases h;cases v <;> first | (cases p; done) | exact oj rfl
  | .ls ts, .ls us, p, q => by
    rw [eqTr];rw [vm] at p q;rw [qr p q]
    constructor
    . intro h; rw [h]
    . intro h; cases h; rfl
  | .tp ts, .tp us, p, q => by
    rw [eqTr];rw [vm] at p q;rw [qr p q]
    constructor
    . intro h; rw [h]
    . intro h; cases h; rfl
  | .lf v, .ls us, p, q => by rw [eqTr] <;> simp
  | .lf v, .tp us, p, q => by rw [eqTr] <;> simp
  | .ls ts, .lf w, p, q => by rw [eqTr] <;> simp
  | .ls ts, .tp us, p, q => by rw [eqTr] <;> simp
  | .tp ts, .lf w, p, q => by rw [eqTr] <;> simp
  | .tp ts, .ls us, p, q => by rw [eqTr] <;> simp
theorem qr : ∀ {ts us : List Tr}, wv ts = true -> wv us = true -> (xq ts us = true ↔ ts = us)
  | [], [], _, _ => by rw [xq]; simp
  | [], u :: us, _, _ => by rw [xq] <;> simp
  | t :: ts, [], _, _ => by rw [xq] <;> simp
  | t :: ts, u :: us, p, q => by
    rw [wv, Bool.and_eq_true] at p q;rw [xq, Bool.and_eq_true, jm p.1 q.1, qr p.2 q.2]
    constructor
    . rintro ⟨rfl, rfl⟩; rfl
    . intro h; cases h; exact ⟨rfl, rfl⟩
end
theorem fm : ∀ {t : Tr}, vm t = true -> eqTr t t = true := fun h => (jm h h).mpr rfl
section
variable {X : Cx} {pins : List (Addr × Obj)} {σ : St} {H : Hp} {s : Shared}
open Classical in
end
section
variable {X : Cx}
def inTr (t : Tr) (ts : List Tr) : Bool := ts.any fun u => eqTr u t
def rInD (K : Fg) (n : Nat) (neg : Bool) : R2 := fun x y H Q => ∃ p xs ts t, y = .ref p /\ (SqL K H p xs \/ SqT K H p xs) /\ TrsAt K H ts xs /\ TrAt K H t x /\ deep t <= n /\ vx ts <= n /\ Q (.bl (neg ^^ inTr t ts)) H
end
mutual
theorem TrAt.mono {K : Fg} {H H' : Hp} (S : Same H H') : ∀ {t : Tr} {x : V}, TrAt K H t x -> TrAt K H' t x
  | .lf v, x, h => by rw [TrAt] at h ⊢; exact h
  | .ls ts, x, h => by
    rw [TrAt] at h ⊢;obtain ⟨a, xs, e, sq, h⟩ := h;exact ⟨a, xs, e, S.seq sq, TrsAt.mono S h⟩
  | .tp ts, x, h => by
    rw [TrAt] at h ⊢;obtain ⟨a, xs, e, sq, h⟩ := h;exact ⟨a, xs, e, Same.seqT S sq, TrsAt.mono S h⟩
theorem TrsAt.mono {K : Fg} {H H' : Hp} (S : Same H H') : ∀ {ts : List Tr} {xs : List V}, TrsAt K H ts xs -> TrsAt K H' ts xs
  | [], xs, h => by rw [TrsAt] at h ⊢; exact h
  | t :: ts, xs, h => by
    rw [TrsAt] at h ⊢;obtain ⟨y, ys, e, h1, h2⟩ := h;exact ⟨y, ys, e, TrAt.mono S h1, TrsAt.mono S h2⟩
end
theorem TrAt.lf {K : Fg} {H : Hp} {v : V} (f : xk v = true) : TrAt K H (.lf v) v := by rw [TrAt]; exact ⟨rfl, f⟩
theorem TrAt.ls {K : Fg} {H : Hp} {a : Addr} {xs : List V} {ts : List Tr} (h : SqL K H a xs) (q : TrsAt K H ts xs) : TrAt K H (.ls ts) (.ref a) := by rw [TrAt]; exact ⟨a, xs, rfl, h, q⟩
theorem TrAt.tp {K : Fg} {H : Hp} {a : Addr} {xs : List V} {ts : List Tr} (h : SqT K H a xs) (q : TrsAt K H ts xs) : TrAt K H (.tp ts) (.ref a) := by rw [TrAt]; exact ⟨a, xs, rfl, h, q⟩
theorem TrsAt.nil {K : Fg} {H : Hp} : TrsAt K H [] [] := by rw [TrsAt]
theorem TrsAt.cons {K : Fg} {H : Hp} {t : Tr} {ts : List Tr} {x : V} {xs : List V} (h : TrAt K H t x) (q : TrsAt K H ts xs) : TrsAt K H (t :: ts) (x :: xs) := by rw [TrsAt]; exact ⟨x, xs, rfl, h, q⟩
theorem TrsAt.flat {K : Fg} {H : Hp} : ∀ {xs : List V}, xs.all xk = true -> TrsAt K H (xs.map Tr.lf) xs
  | [], _ => TrsAt.nil
  | x :: xs, f => by
    rw [Yp, Bool.and_eq_true] at f;exact TrsAt.cons (TrAt.lf f.1) (TrsAt.flat f.2)
theorem TrsAt.append {K : Fg} {H : Hp} : ∀ {ts us : List Tr} {xs ys : List V}, TrsAt K H ts xs -> TrsAt K H us ys -> TrsAt K H (ts ++ us) (xs ++ ys)
  | [], us, xs, ys, h, q => by rw [TrsAt] at h; subst h; exact q
  | t :: ts, us, xs, ys, h, q => by
    rw [TrsAt] at h;obtain ⟨y, zs, rfl, h1, h2⟩ := h;exact TrsAt.cons h1 (TrsAt.append h2 q)
theorem ox : ∀ {ts : List Tr}, (∀ t ∈ ts, vm t = true) -> wv ts = true
  | [], _ => by rw [wv]
  | t :: ts, h => by
    rw [wv, h t Zz, ox (ts := ts) fun u hu => h u (Zv _ hu)];rfl
theorem e_eqD {K : Fg} {n : Nat} {neg : Bool} {x y : V} {H : Hp} {Q : VK} : rEqD K n neg x y H Q = ∃ t t', SameK t t' /\ TrAt K H t x /\ TrAt K H t' y /\ deep t <= n /\ deep t' <= n /\ Q (.bl (neg ^^ eqTr t t')) H := rfl
theorem e_inD {K : Fg} {n : Nat} {neg : Bool} {x y : V} {H : Hp} {Q : VK} : rInD K n neg x y H Q = ∃ p xs ts t, y = .ref p /\ (SqL K H p xs \/ SqT K H p xs) /\ TrsAt K H ts xs /\ TrAt K H t x /\ deep t <= n /\ vx ts <= n /\ Q (.bl (neg ^^ inTr t ts)) H := rfl
end L2
namespace L2
open PySem PySem.Spec PyProof.Rows
def chr1 (c : Nat) : Str := ⟨#[c]⟩
def Itw (x : Str) : It := ⟨fun i _ => i < x.cps.size, fun i H v H' => H' = H /\ ∃ c, x.cps[i]? = some c /\ v = .str (chr1 c), fun i _ => x.cps.size <= i⟩
theorem d3 {P : Program} {w : World} {K : Fg} {tg : Expr} (it : Addr) (x : Str) (t : Tok) : Turn P w K tg (Itw x) [it] it (fun i h => h.IsStrIter it "str_ascii_iterator" x t i) where
  mem := by simp
  obj := fun i h st b hb => by
    have e : b = it := by simpa using hb
    subst e;obtain ⟨o, e, c, d⟩ := st;exact ⟨o, e, fun v z => by rw [d] at z; cases z⟩
  keep := fun i h h' st k => by
    obtain ⟨o, e, r⟩ := st;exact ⟨o, k it (by simp) o e, r⟩
  item := by
    intro X hP hw hK hc i pins s σ H E I hf st hg;subst hP hw hK;have hi : i < x.cps.size := hg;obtain ⟨f0, f1, f2, f3, f4, f5⟩ := hf it (by simp);refine wpAny_pyNext_ascii_item st (c := x.cps[i]) (by simp [hi]) fun h' st' sb => ?_
    have I1 : Inv X pins σ H { s with heap := h', toks := s.toks + 1 } := I.turned (t' := s.toks + 1) (fun b o hb e => (sb.2 b hb).trans e) f0 f1 f3 f4 f5;obtain ⟨o, e, c, d⟩ := id st';exact ⟨_, rfl, l7 (s := { s with heap := h', toks := s.toks + 1 }) e c d (by decide) ⟨.str (chr1 x.cps[i]), H, I1, ⟨_, rfl⟩, ⟨rfl, _, by simp [hi], rfl⟩, st', fun b hb => (hf b hb).1⟩⟩
  done := by
    intro X hP hw hK hc i pins s σ H E I hf st hg;subst hP hw hK;have hi : x.cps.size <= i := hg;obtain ⟨f0, f1, f2, f3, f4, f5⟩ := hf it (by simp);exact wpAny_pyNext_ascii_end (I.ok.hd hc) st (by simp [hi]) fun h' eb => ⟨rfl, I.turned (t' := s.toks) (fun b o hb e => eb b o hb e) f0 f1 f3 f4 f5⟩
  self := fun _ _ _ _ _ st h => wpAny_pyIter_striter_ascii st h
theorem du {P : Program} {w : World} {K : Fg} {tg : Expr} (it : Addr) (x : Str) (t : Tok) : Turn P w K tg (Itw x) [it] it (fun i h => h.IsStrIter it "str_iterator" x t i) where
  mem := by simp
  obj := fun i h st b hb => by
    have e : b = it := by simpa using hb
    subst e;obtain ⟨o, e, c, d⟩ := st;exact ⟨o, e, fun v z => by rw [d] at z; cases z⟩
  keep := fun i h h' st k => by
    obtain ⟨o, e, r⟩ := st;exact ⟨o, k it (by simp) o e, r⟩
  item := by
    intro X hP hw hK hc i pins s σ H E I hf st hg;subst hP hw hK;have hi : i < x.cps.size := hg;obtain ⟨f0, f1, f2, f3, f4, f5⟩ := hf it (by simp);refine wpAny_pyNext_wide_item st (c := x.cps[i]) (by simp [hi]) fun h' st' sb => ?_
    have I1 : Inv X pins σ H { s with heap := h', toks := s.toks + 1 } := I.turned (t' := s.toks + 1) (fun b o hb e => (sb.2 b hb).trans e) f0 f1 f3 f4 f5;obtain ⟨o, e, c, d⟩ := id st';exact ⟨_, rfl, l7 (s := { s with heap := h', toks := s.toks + 1 }) e c d (by decide) ⟨.str (chr1 x.cps[i]), H, I1, ⟨_, rfl⟩, ⟨rfl, _, by simp [hi], rfl⟩, st', fun b hb => (hf b hb).1⟩⟩
  done := by
    intro X hP hw hK hc i pins s σ H E I hf st hg;subst hP hw hK;have hi : x.cps.size <= i := hg;obtain ⟨f0, f1, f2, f3, f4, f5⟩ := hf it (by simp);exact wpAny_pyNext_wide_end (I.ok.hd hc) st (by simp [hi]) fun h' eb => ⟨rfl, I.turned (t' := s.toks) (fun b o hb e => eb b o hb e) f0 f1 f3 f4 f5⟩
  self := fun _ _ _ _ _ st h => wpAny_pyIter_striter_wide st h
def iStr (a : TE) : TI := fun σ H R => a σ H fun x H1 => ∃ z, x = .str z /\ R (Itw z) H1
theorem dv {X : Cx} {tg l : Expr} {tl : TE} (hl : PE X l tl) : PI X tg l (iStr tl) := by
  intro pins s σ H R I h;refine thn (hl pins s σ H _ I h) fun v s1 ⟨x, H1, I1, r1, q1⟩ => ?_
  obtain ⟨z, e, q⟩ := q1;subst e;obtain ⟨t, rfl⟩ := r1;refine wpAny_pyIter_strU ?_
  have fin : ∀ {tn : Nat -> Heap -> Prop}, Turn X.prog X.w X.K tg (Itw z) [s1.heap.objs.size] s1.heap.objs.size tn -> tn 0 (s1.heap.push { cls := .type (strIterType z), data := .fields #[.str z t, .int 0 0] }) ->
      PIE X pins σ tg R (.ref s1.heap.objs.size) { s1 with heap := s1.heap.push { cls := .type (strIterType z), data := .fields #[.str z t, .int 0 0] } } := fun {tn} T h0 => by
    refine ⟨s1.heap.objs.size, [s1.heap.objs.size], _, _, H1, rfl, I1.kept (t' := s1.toks) fun b o e => Heap.get?_push_of_some _ e, T, h0, fun b hb => ?_, q⟩;have e : b = s1.heap.objs.size := by simpa using hb
    subst e;exact I1.fpOk (Zm _) (I1.hok.fresh (Zm _))
  cases ha : z.cps.all (· < 128) with
  | true =>
    have e : strIterType z = "str_ascii_iterator" := by simp [strIterType, ha]
    refine fin (d3 _ z t) ?_;exact ⟨_, Heap.get?_push_size _ rfl, by rw [e], rfl⟩
  | false =>
    have e : strIterType z = "str_iterator" := by simp [strIterType, ha]
    refine fin (du _ z t) ?_;exact ⟨_, Heap.get?_push_size _ rfl, by rw [e], rfl⟩
theorem e_iStr {a : TE} {σ : St} {H : Hp} {R : It -> Hp -> Prop} : iStr a σ H R = a σ H fun x H1 => ∃ z, x = .str z /\ R (Itw z) H1 := rfl
def xi (z : Str) (n : Nat) : Str := ⟨(List.replicate n z.cps.toList).flatten.toArray⟩
theorem fv : ∀ (n : Nat) (a acc : Array Nat), (List.replicate n a).foldl (· ++ ·) acc = acc ++ (List.replicate n a.toList).flatten.toArray := by
  intro n
  induction n with
  | zero => intro a acc; simp
  | succ n ih =>
    intro a acc;rw [ZO, List.foldl_cons, ih, ZO, Yd]
    apply Array.ext'
    simp
theorem mul_is (z : Str) (n : Int) : Txt.mul z n = xi z n.toNat := by
  unfold Txt.mul xi
  by_cases h : n < 1
  . rw [if_pos h, show n.toNat = 0 by omega]; rfl
  . rw [if_neg h]
    by_cases h2 : (n == 1 || z.length == 0) = true
    . rw [if_pos h2]
      rcases Bool.or_eq_true _ _ ▸ h2 with q | q
      . have : n = 1 := by simpa using q
        subst this
        show z = _
        have : (1 : Int).toNat = 1 := rfl;rw [this];simp
      . have e : z.cps.size = 0 := by simpa [Str.length] using q
        have e2 : z.cps = #[] := Array.eq_empty_of_size_eq_zero e;obtain ⟨c⟩ := z;simp only at e2;subst e2;simp
    . rw [if_neg h2, fv]
      simp
section
variable {X : Cx}
def rMulS : R2 := fun x y H Q => ∃ z n, x = .str z /\ y = .int n /\ -(2 ^ 62) <= n /\ n < 2 ^ 31 /\ z.length * n.toNat <= 2 ^ 20 /\ Q (.str (xi z n.toNat)) H
theorem mf : OpR X (binaryOp .Mult) rMulS := by
  intro pins s σ H x y v u Q I rx ry h;obtain ⟨z, n, rfl, rfl, h1, h2, h3, q⟩ := h;obtain ⟨t, rfl⟩ := rx;obtain ⟨t', rfl⟩ := ry;refine SB.mul ⟨?_, fun h4 h5 => ?_, fun h4 h5 => ?_⟩ fun tk k => ?_
  . rw [decide_eq_false (by omega), decide_eq_false (by omega)]; rfl
  . intro h6
    have h7 : (z.length : Int) * n <= 2 ^ 20 := by
      have : ((z.length * n.toNat : Nat) : Int) <= ((2 ^ 20 : Nat) : Int) := by exact_mod_cast h3
      rw [Int.natCast_mul, Yl (by omega)] at this;exact this
    have h8 : (2 ^ 63 - 1 : Int) / n * n <= z.length * n := Int.mul_le_mul_of_nonneg_right (by omega) (by omega);have h9 := Int.emod_add_mul_ediv (2 ^ 63 - 1 : Int) n;have h10 : (2 ^ 63 - 1 : Int) % n < n := ZP _ (by omega);rw [Int.mul_comm] at h8;omega
  . have : z.length * n.toNat <= sizeLine := Zd h3 (by decide)
    show decide (z.length * n.toNat > sizeLine) = false
    exact decide_eq_false (by omega)
  . rw [mul_is]
    exact ⟨.str (xi z n.toNat), H, I.tok _, ⟨_, rfl⟩, q⟩
theorem e_mulS {x y : V} {H : Hp} {Q : VK} : rMulS x y H Q = ∃ z n, x = .str z /\ y = .int n /\ -(2 ^ 62) <= n /\ n < 2 ^ 31 /\ z.length * n.toNat <= 2 ^ 20 /\ Q (.str (xi z n.toNat)) H := rfl
end
theorem hu8 {A : Around} {k : Nat} (hr : Room k A) : A.units + 8 <= cLine := by have := hr.un; omega
theorem e_ixS {x y : V} {H : Hp} {Q : VK} : rIxS x y H Q = ∃ z i c, x = .str z /\ y = .int i /\ z.length <= sizeLine /\ atI z.cps.toList i = some c /\ Q (.str ⟨#[c]⟩) H := rfl
theorem e_iT {K : Fg} {a : TE} {σ : St} {H : Hp} {R : It -> Hp -> Prop} : iTup K a σ H R = a σ H fun x H1 => ∃ p, x = .ref p /\ (∃ xs, SqT K H1 p xs) /\ R (Itt K p) H1 := rfl
section
variable {X : Cx}
def rJoin (K : Fg) : V -> List V -> Hp -> VK -> Prop := fun x vs H Q => ∃ sep b texts, x = .str sep /\ vs = [.ref b] /\ SqL K H b (texts.map V.str) /\ JoinOk sep texts = true /\ Q (.str (Txt.join sep texts)) H
theorem e_join {K : Fg} {x : V} {vs : List V} {H : Hp} {Q : VK} : rJoin K x vs H Q = ∃ sep b texts, x = .str sep /\ vs = [.ref b] /\ SqL K H b (texts.map V.str) /\ JoinOk sep texts = true /\ Q (.str (Txt.join sep texts)) H := rfl
end
section
variable {σ : St} {k : Nat} {g : TG} {tt : TT} {te : TE} {H1 : Hp} {Fin : List V -> Hp -> Prop}
end
theorem zh {e : Expr} {es : List Expr} {env : Env} (h : ∀ e' p, e ≠ .Starred e' p) : starEach (e :: es) env = (false, eval e env) :: starEach es env := by
  cases e <;> first | rfl | exact absurd rfl (h _ _)
def iSeq (K : Fg) (tl : TE) : TI := fun σ H R => tl σ H fun x H1 => ∃ a, x = .ref a /\ (((∃ xs, SqL K H1 a xs) /\ R (Itl K a) H1) \/ ((∃ xs, SqT K H1 a xs) /\ R (Itt K a) H1))
theorem e_iSeq {K : Fg} {tl : TE} {σ : St} {H : Hp} {R : It -> Hp -> Prop} : iSeq K tl σ H R = tl σ H fun x H1 => ∃ a, x = .ref a /\ (((∃ xs, SqL K H1 a xs) /\ R (Itl K a) H1) \/ ((∃ xs, SqT K H1 a xs) /\ R (Itt K a) H1)) := rfl
section
variable {X : Cx}
def rTupL (K : Fg) : List V -> Hp -> VK -> Prop := fun xs H Q => ∃ p ys, xs = [.ref p] /\ SqL K H p ys /\ ∀ l, H l = none -> Q (.ref l) (upd H l (.tup ys))
theorem xj : CallR X (.type "tuple") (rTupL X.K) := fun pins s σ H xs us Q I r h => by
  obtain ⟨p, ys, e, hq, q⟩ := h;exact l6 pins s σ H xs us Q I r ⟨p, ys, e, .inl ⟨hq, q⟩⟩
theorem e_tupL {K : Fg} {xs : List V} {H : Hp} {Q : VK} : rTupL K xs H Q = ∃ p ys, xs = [.ref p] /\ SqL K H p ys /\ ∀ l, H l = none -> Q (.ref l) (upd H l (.tup ys)) := rfl
end
end L2
namespace L2
open PySem PySem.Spec PyProof.Rows
section
variable {X : Cx}
def rMinL (K : Fg) (xs : List V) (H : Hp) (Q : VK) : Prop := ∃ (p : Addr) (ns : List Int), xs = [.ref p] /\ SqL K H p (ns.map V.int) /\ 0 < ns.length /\ ∀ m, m ∈ ns -> (∀ a ∈ ns, m <= a) -> Q (.int m) H
def rMaxL (K : Fg) (xs : List V) (H : Hp) (Q : VK) : Prop := ∃ (p : Addr) (ns : List Int), xs = [.ref p] /\ SqL K H p (ns.map V.int) /\ 0 < ns.length /\ ∀ m, m ∈ ns -> (∀ a ∈ ns, a <= m) -> Q (.int m) H
theorem e_minL {K : Fg} {xs : List V} {H : Hp} {Q : VK} : rMinL K xs H Q = ∃ (p : Addr) (ns : List Int), xs = [.ref p] /\ SqL K H p (ns.map V.int) /\ 0 < ns.length /\ ∀ m, m ∈ ns -> (∀ a ∈ ns, m <= a) -> Q (.int m) H := rfl
theorem e_maxL {K : Fg} {xs : List V} {H : Hp} {Q : VK} : rMaxL K xs H Q = ∃ (p : Addr) (ns : List Int), xs = [.ref p] /\ SqL K H p (ns.map V.int) /\ 0 < ns.length /\ ∀ m, m ∈ ns -> (∀ a ∈ ns, a <= m) -> Q (.int m) H := rfl
end
end L2
namespace L2
open PySem PySem.Spec PyProof.Rows
section
variable {prog : Program} {w : World} {A : Around} {E : Value -> Shared -> Prop} {s : Shared}
end
section
variable {X : Cx}
end
end L2
namespace L2
open PySem PySem.Spec PyProof.Rows
def seen (val : Nat -> Str) : Nat -> List Str
  | 0 => []
  | i + 1 => if val i ∈ seen val i then seen val i else seen val i ++ [val i]
theorem ku (val : Nat -> Str) : ∀ i, (seen val i).length <= i
  | 0 => Zm _
  | i + 1 => by
    have := ku val i;unfold seen
    split
    . omega
    . rw [Zo, ZW]; omega
theorem cr (val : Nat -> Str) (i : Nat) (k : Str) : (decide (k ∈ seen val i) || decide (k = val i)) = decide (k ∈ seen val (i + 1)) := by
  conv => rhs; unfold seen
  split
  . rename_i h
    by_cases e : k = val i
    . subst e; simp [h]
    . simp [e]
  . simp
theorem gz (val : Nat -> Str) (i : Nat) : (if decide (val i ∈ seen val i) = true then (seen val i).length else (seen val i).length + 1) = (seen val (i + 1)).length := by
  conv => rhs; unfold seen
  by_cases h : val i ∈ seen val i
  . simp [h]
  . simp [h]
section
variable {prog : Program} {w : World} {A : Around} {R : Result -> Shared -> Prop} {I : Addr} {fp wr : List Addr} {G : Array GenState -> Array GenState -> Prop} {n : Nat} {P : Nat -> Value -> Prop} {St : Nat -> Shared -> Prop}
theorem k6 (W : WalksS prog w A.in1 I fp wr G n P St) (T : Addr) (hT : T ∉ fp) (val : Nat -> Str) (hval : ∀ i v, P i v -> ∃ t, v = .str (val i) t) (hb : n + 1 < scanBound) :
    ∀ (k i : Nat) (s : Shared), n - i = k -> i <= n -> St i s -> s.heap.SetOf (PySem.strKind prog w) T (fun k' => decide (k' ∈ seen val i)) (seen val i).length ->
      (∀ s', Moved (T :: wr) G s s' -> s'.heap.SetOf (PySem.strKind prog w) T (fun k' => decide (k' ∈ seen val n)) (seen val n).length -> R (.ok (.ret .none)) s') ->
      codeAny (model prog w) A (.builtin "set.update.loop" ⟨[.ref T, .ref I], []⟩) R s := by
  have hTw : T ∉ wr := fun h => hT (W.sub _ h)
  have sub : ∀ b ∈ wr, b ∈ T :: wr := fun b h => Zv _ h
  intro k
  induction k with
  | zero =>
    intro i s hk hi hst hS hR;obtain rfl : i = n := by omega
    refine codeAny_builtin PyProof.Rows.F.entry_set_update_loop ?_;rw [Around.under_plainId PyProof.Rows.F.plain_set_update_loop _]
    show wpAny _ A.in1 (pyNext (.ref I) >>= _) _ _ s
    refine wpAny_bind (W.done s _ _ hst fun s' hm => ?_);refine wpAny_pure (hR s' (hm.mono sub) ?_);obtain ⟨o, es, ep, t, ho, r⟩ := hS;exact ⟨o, es, ep, t, hm.heap T _ hTw ho, r⟩
  | succ k ih =>
    intro i s hk hi hst hS hR;have hlt : i < n := by omega
    refine codeAny_builtin PyProof.Rows.F.entry_set_update_loop ?_;rw [Around.under_plainId PyProof.Rows.F.plain_set_update_loop _]
    show wpAny _ A.in1 (pyNext (.ref I) >>= _) _ _ s
    refine wpAny_bind (W.item i s _ _ hlt hst fun v s' hP hst' hm => ?_);obtain ⟨t, rfl⟩ := hval i v hP
    have hS' : s'.heap.SetOf (PySem.strKind prog w) T (fun k' => decide (k' ∈ seen val i)) (seen val i).length := by
      obtain ⟨o, es, ep, tb, ho, r⟩ := hS;exact ⟨o, es, ep, tb, hm.heap T _ hTw ho, r⟩
    show wpAny _ A.in1 (holding [Value.str (val i) t] (setAdd T (.str (val i) t)) >>= _) _ _ s'
    refine wpAny_bind (wpAny_holding ?_);unfold setAdd;refine wpAny_holding (wpAny_bind ((PySem.strKind prog w).pyHash (k := val i) (strKind_is _ _ _ _) ?_));have room : (seen val i).length + 1 < scanBound := by have := ku val i; omega
    refine wpAny_setAddHashed_of (knd := PySem.strKind prog w) (s := { s' with toks := s'.toks + 1 }) (strKind_is _ _ _ _) rfl hS' room fun h' hsb hS2 => ?_
    have hSi : h'.SetOf (PySem.strKind prog w) T (fun k' => decide (k' ∈ seen val (i + 1))) (seen val (i + 1)).length := by
      have e1 := gz val i;have e2 : (fun k' => decide (k' ∈ seen val (i + 1))) = fun k' => (decide (k' ∈ seen val i) || decide (k' = val i)) := funext fun k' => (cr val i k').symm
      rw [<- e1, e2];exact hS2
    refine wpAny_pure ⟨plainId_quiet PyProof.Rows.F.plain_set_update_loop _, ih (i + 1) _ (by omega) hlt (W.frame _ s' _ _ hst' (Nat.le_succ _) fun b hb o e => ?_) hSi fun s2 hm2 hS2' => ?_⟩
    . rw [hsb.2 b (fun z : b = T => hT (z ▸ hb))]; exact e
    . refine hR s2 (Moved.trans W.gtrans ((hm.mono sub).then_heap (Nat.le_succ _) fun b o hb e => ?_) hm2) hS2'
      rw [hsb.2 b (fun z : b = T => hb (z ▸ Zz))]; exact e
end
abbrev setO (led : Bool) : Obj := { cls := .type "set", dict := none, data := .set #[] 0 (.fresh 0 0 led) }
section
variable {prog : Program} {w : World} {A : Around} {E : Value -> Shared -> Prop} {s : Shared}
def iu (prog : Program) (w : World) (s : Shared) (val : Nat -> Str) (n : Nat) (h' : Heap) : Prop :=
  h'.SetOf (PySem.strKind prog w) s.heap.objs.size (fun k' => decide (k' ∈ seen val n)) (seen val n).length /\ ∀ b o, b < s.heap.objs.size -> s.heap.get? b = some o -> h'.get? b = some o
set_option maxHeartbeats 3200000 in
theorem lv {l : Addr} {items : Array Value} {val : Nat -> Str} {Q : Value -> Shared -> Prop} (hh : A.handled = none) (hl : s.heap.IsList l items) (hv : ∀ (i : Nat) v, items[i]? = some v -> ∃ t, v = .str (val i) t) (hb : items.size + 1 < scanBound)
    (h : ∀ (h' : Heap) (tk : Nat), iu prog w s val items.size h' -> Q (.ref s.heap.objs.size) { s with heap := h', toks := tk }) : wpAny (model prog w) A (call (.type "set") [.ref l]) Q E s := by
  obtain ⟨c, tl, hmro⟩ := F.called_set.mro;have hmade := F.called_set.made;have hsub := F.called_set.sub;refine wpAny_call (codeAny_of_tree ?_)
  show wpAny _ _ (callAny (.type "set") _) _ _ _
  refine wpAny_pure ⟨Code.quiet_builtin _ (by decide +kernel), codeAny_builtin F.entry_type_call ?_⟩;rw [Around.under_plain (weight_type_call_type "set" [.ref l] []) rfl];have h1 := F.called_set.notType;have h2 := F.called_set.canCreate;have hct := F.typeCall_set_1 (.ref l)
  repeat (any_goals (first | assumption | wp_step))
  refine codeAny_mono (code_set_new_1 (.ref l) (E := E) (Q₁ := fun obj s₁ => ∃ led : Bool, obj = .ref s.heap.objs.size /\ s₁ = { s with heap := s.heap.push (setO led) }) fun led => ⟨led, rfl, rfl⟩) fun r s₁ hr => ?_
  match r, hr with
  | .error e, hr => exact hr
  | .ok .next, hr => exact hr.elim
  | .ok .brk, hr => exact hr.elim
  | .ok .cont, hr => exact hr.elim
  | .ok (.ret obj), hr =>
    obtain ⟨led, rfl, rfl⟩ := hr;have hS : (s.heap.push (setO led)).get? s.heap.objs.size = some (setO led) := Heap.get?_push_size _ rfl;have hT : Shared.TypeIs { s with heap := s.heap.push (setO led) } (.ref s.heap.objs.size) "set" := ⟨_, hS, rfl⟩;have hli := F.called_set.init.lookup;have hbi := F.called_set.init.bind (.ref s.heap.objs.size)
    repeat (any_goals (first | assumption | wp_step))
    refine codeAny_mono (codeAny_call_builtin (R := wants (fun r s₂ => r = .none /\ ∃ h' tk, s₂ = { s with heap := h', toks := tk } /\ iu prog w s val items.size h') E) F.called_set.init.plain F.entry_set_init (check_set_init_1 hT ?_)) fun r₂ s₂ hr₂ => ?_
    . obtain ⟨ol, hol, hcl, nl, hdl⟩ := id hl
      have hl1 : (s.heap.push (setO led)).IsList l items := hl.push _;obtain ⟨ocls, odict, odata, oslots⟩ := ol;simp only at hcl hdl;subst hcl; subst hdl;have hol' : (s.heap.push (setO led)).get? l = some { cls := .type "list", dict := odict, data := .seq items nl, slots := oslots } := Heap.get?_push_of_some _ hol;have hsls := F.sub_list_set;have hslf := F.sub_list_frozenset;have hne : (Value.type "list" == Value.type "dict") = false := by decide
      unfold Builtin.«set.__init__» noKeywords Builtin.Frozenset.updateFrom;generalize hPI : pyIter = PI
      wp_walk
      subst hPI;refine wpAny_pyIter_list hl1 ?_;refine wpAny_bind (wpAny_runValue ?_);have hlS : l < s.heap.objs.size := Heap.lt_size hol;have hsz : (s.heap.push (setO led)).objs.size = s.heap.objs.size + 1 := size_push' ..;have hneI : l ≠ (s.heap.push (setO led)).objs.size := by rw [hsz]; exact Zs (Yx hlS)
      have hSf : s.heap.objs.size ∉ [(s.heap.push (setO led)).objs.size, l] := by
        rw [hsz];simp only [ZJ, Zx, or_false, not_or];exact ⟨Zs (YA _), Yz hlS⟩
      refine k6 ((Walks.list (by simp [hh]) _ l hneI items).toS) s.heap.objs.size hSf val hv hb (items.size - 0) 0 _ (by omega) (ZD _) ⟨⟨_, Heap.get?_push_size _ rfl, rfl, rfl⟩, hl1.push _⟩ ?_ ?_
      . have hget : ((s.heap.push (setO led)).push { cls := .type "list_iterator", data := .fields #[.ref l, .int 0 0] }).get? s.heap.objs.size = some (setO led) := Heap.get?_push_of_some _ hS
        exact (PyProof.Rows.setObjOf_fresh (knd := PySem.strKind prog w) led).setOf hget (by unfold scanBound; omega)
      . intro s' hm hS'
        rw [Moved.eq_with hm];refine wpAny_pure ?_;refine wpAny_pure ⟨rfl, s'.heap, s'.toks, rfl, hS', fun b o hb e => hm.heap b o ?_ (Heap.get?_push_of_some _ (Heap.get?_push_of_some _ e))⟩;rw [hsz];simp only [ZJ, Zx, or_false, not_or];exact ⟨Zs hb, Zs (Yx hb)⟩
    . match r₂, hr₂ with
      | .error e, hr₂ => exact hr₂
      | .ok .next, hr₂ => exact hr₂.elim
      | .ok .brk, hr₂ => exact hr₂.elim
      | .ok .cont, hr₂ => exact hr₂.elim
      | .ok (.ret r), hr₂ =>
        obtain ⟨rfl, h', tk, rfl, hd⟩ := hr₂
        repeat (any_goals (first | assumption | wp_step))
        exact h _ _ hd
end
end L2
namespace L2
open PySem PySem.Spec PyProof.Rows
theorem d5 {zs : List Str} {us : List Value} (r : Vals (zs.map V.str) us) (i : Nat) (v : Value) (h : us[i]? = some v) : ∃ t, v = .str (zs.getD i ⟨#[]⟩) t := by
  have hl := r.length;rw [Za] at hl;have hi : i < zs.length := by rw [hl]; exact (Zc.mp h).1
  obtain ⟨u, hu, ru⟩ := r.get (i := i) (x := V.str zs[i]) (by simp [hi]);rw [h] at hu;cases hu;obtain ⟨t, rfl⟩ := ru;exact ⟨t, by simp [Zk, hi]⟩
section
variable {X : Cx}
def ix (K : Fg) (t : TA) : TE := fun σ H Q => t σ H fun vs H1 => ∃ (p : Addr) (zs : List Str), vs = [.ref p] /\ SqL K H1 p (zs.map V.str) /\ zs.length <= 1000 /\ Q (.int (seen (fun i => zs.getD i ⟨#[]⟩) zs.length).length) H1
theorem cf {K : Fg} {t : TA} {σ : St} {H : Hp} {Q : VK} : ix K t σ H Q = t σ H fun vs H1 => ∃ (p : Addr) (zs : List Str), vs = [.ref p] /\ SqL K H1 p (zs.map V.str) /\ zs.length <= 1000 /\ Q (.int (seen (fun i => zs.getD i ⟨#[]⟩) zs.length).length) H1 := rfl
theorem lj {e : Expr} {t : TA} {p1 p2 q1 q2 : Pos} (hc : X.calm = true) (hgL : Gl X "len") (hmL : X.mg "len" = none) (hgR : Gl X "set") (hmR : X.mg "set" = none) (ha : PA X [e] t)
    (he : starEach [e] X.env = (false, eval e X.env) :: starEach [] X.env := by rfl) (he2 : starEach [.Call (.Name "set" p2) [e] [] q2] X.env = (false, eval (.Call (.Name "set" p2) [e] [] q2) X.env) :: starEach [] X.env := by rfl) :
    PE X (.Call (.Name "len" p1) [.Call (.Name "set" p2) [e] [] q2] [] q1) (ix X.K t) := by
  intro pins s σ H Q I h;refine wpAny_Call_Name_kw (rf I hgL hmL yp ?_);refine PyProof.Rows.callWith_builtin1 ?_ he2 rfl;rw [he2]
  show wpAny _ _ (spliced ((false, eval (.Call (.Name "set" p2) [e] [] q2) X.env) :: backTo q1 (starEach [] X.env))) _ _ s
  refine Calls.spliced_cons ?_;refine wpAny_Call_Name_kw (rf I hgR hmR bt_set ?_);refine PyProof.Rows.callWith_type1 (thn (ha q2 pins s σ H _ I h) fun us s1 ⟨vs, H1, I1, r1, q⟩ => ?_) he rfl;obtain ⟨p, zs, rfl, hq, hz, q⟩ := q;obtain ⟨u, rfl, rx⟩ := Vals.one r1;cases rx;obtain ⟨its, rv, pl, _⟩ := I1.list hq;have hlen : its.length = zs.length := by have := rv.length; rw [Za] at this; exact this.symm
  refine lv (val := fun i => zs.getD i ⟨#[]⟩) (I1.ok.hd hc) pl.isList (fun i v hv => d5 rv i v (by simpa using hv)) (by rw [Zr, hlen]; exact Nat.lt_of_le_of_lt (Nat.succ_le_succ hz) (by decide)) fun h' tk hd => ?_
  refine Calls.spliced_nil ?_;obtain ⟨hS, kp⟩ := hd;rw [show its.toArray.size = zs.length by rw [Zr, hlen]] at hS;have I2 : Inv X pins σ H1 { s1 with heap := h', toks := tk } := I1.kept fun b o e => kp b o (Heap.lt_size e) e
  obtain ⟨o, es, ep, t, ho, ex, hd, _, _, hz2, hf, hn⟩ := hS;have h3 : ((es.size : Nat) : Int) < 2 ^ 63 := by unfold scanBound at hz2; omega
  refine call_len_set ho ex hd hf h3 ⟨.int es.size, H1, I2.tok _, ⟨_, rfl⟩, ?_⟩;rw [hn];exact q
def rLeS (x y : V) (H : Hp) (Q : VK) : Prop := ∃ i j, x = .str i /\ y = .str j /\ Q (.bl (!decide (j.cps.toList < i.cps.toList))) H
theorem e_leS {x y : V} {H : Hp} {Q : VK} : rLeS x y H Q = ∃ i j, x = .str i /\ y = .str j /\ Q (.bl (!decide (j.cps.toList < i.cps.toList))) H := rfl
theorem oo : OpR X (compareOp .LtE) rLeS := by
  intro pins s σ H x y v u Q I rx ry h;obtain ⟨i, j, rfl, rfl, q⟩ := h;obtain ⟨t, rfl⟩ := rx;obtain ⟨t', rfl⟩ := ry;exact PySem.P.le_str (yj I q rfl)
end
section
variable {σ : St} {k : Nat} {g : TG} {tt : TT} {te : TE} {H1 : Hp} {Fin : List V -> Hp -> Prop}
theorem jg {z : Str} (Pv : Nat -> List V -> Hp -> Prop) (h0 : Pv 0 [] H1) (hz : ∀ i ys H, i <= z.cps.size -> Pv i ys H -> ys.length <= sizeLine)
    (hs : ∀ i c ys H, z.cps[i]? = some c -> Pv i ys H -> g (.str (chr1 c)) (List.replicate k none ++ σ) H fun σ2 H2 => σ2.drop k = σ /\ tt σ2 H2 fun b H3 => if b = true then te σ2 H3 fun v H4 => Pv (i + 1) (ys ++ [v]) H4 else Pv (i + 1) ys H3)
    (hd : ∀ ys H, Pv z.cps.size ys H -> Fin ys H) : rp (Itw z) σ k g tt te H1 Fin := by
  refine ⟨fun i m ys H => m = z.cps.size - i /\ i <= z.cps.size /\ Pv i ys H, ⟨z.cps.size, by simp, ZD _, h0⟩, ?_⟩
  rintro i m ys H ⟨rfl, hi, p⟩
  refine ⟨hz i ys H hi p, ?_⟩
  by_cases hlt : i < z.cps.size
  . refine .inr ⟨hlt, Pv (i + 1), fun ys' H' p' => ⟨z.cps.size - (i + 1), by omega, rfl, hlt, p'⟩, fun x H' y => ?_⟩
    obtain ⟨e, c, e2, y⟩ := y;subst e y;exact hs i c ys _ e2 p
  . have e : i = z.cps.size := by omega
    subst e;exact .inl ⟨Zm _, hd ys H p⟩
end
def intE : Expr -> Option Int
  | .Constant (.int i) _ _ => some i
  | _ => none
def l8 : List Expr -> Option (List Int)
  | [] => some []
  | e :: es => (intE e).bind fun i => (l8 es).map fun is => i :: is
def qx : List Int -> List V
  | [] => []
  | i :: is => .int i :: qx is
theorem e_vI0 : qx [] = [] := rfl
theorem e_vI {i : Int} {is : List Int} : qx (i :: is) = .int i :: qx is := rfl
def tInts (ns : List Int) : TA := fun _ H Q => Q (qx ns) H
theorem e_ints {ns : List Int} {σ : St} {H : Hp} {Q : List V -> Hp -> Prop} : tInts ns σ H Q = Q (qx ns) H := rfl
theorem i0 {X : Cx} : ∀ {es : List Expr} {ns : List Int}, l8 es = some ns -> PA X es (tInts ns)
  | [], ns, h => by
    cases h;exact zc
  | e :: es, ns, h => by
    unfold l8 at h
    cases e with
    | Constant c j p =>
      cases c with
      | int i =>
        cases e2 : l8 es with
        | none => rw [e2] at h; cases h
        | some is =>
          rw [e2] at h;cases h;exact za zb (i0 e2)
      | _ => cases h
    | _ => cases h
end L2
namespace L2
open PySem PySem.Spec PyProof.Rows
section
variable {X : Cx}
def rIsB (x y : V) (H : Hp) (Q : VK) : Prop := ∃ b c, x = .bl b /\ y = .bl c /\ Q (.bl (b == c)) H
theorem e_isB {x y : V} {H : Hp} {Q : VK} : rIsB x y H Q = ∃ b c, x = .bl b /\ y = .bl c /\ Q (.bl (b == c)) H := rfl
end
end L2
namespace L2
open PySem PySem.Spec PyProof.Rows
theorem ir {α : Type} {l : List α} {k : Nat} {x : α} (h : l[k]? = some x) : l.drop k = x :: l.drop (k + 1) := by
  obtain ⟨hk, e⟩ := Zc.mp h;rw [List.drop_eq_getElem_cons hk, e]
theorem yd {X : Cx} {body : List Stmt} {k : Nat} {st : Stmt} {t ts : TS} (hs : PS X st t) (h : body[k]? = some st) (hr : PSs X (body.drop (k + 1)) ts) : PSs X (body.drop k) (tSeq t ts) := by
  rw [ir h];exact zu hs hr
theorem tq {X : Cx} {body : List Stmt} {k : Nat} {st : Stmt} {t : TS} (hs : PS X st t) (h : body[k]? = some st) (hl : body[k + 1]? = none) : PSs X (body.drop k) t := by
  rw [ir h, List.drop_eq_nil_of_le (List.getElem?_eq_none_iff.mp hl)];exact zk hs
theorem tu {X : Cx} {body : List Stmt} {t : TS} (h : PSs X (body.drop 0) t) : PSs X body t := h
end L2
namespace L2
open PySem PySem.Spec PyProof.Rows
section
variable {prog : Program} {w : World} {A : Around} {E : Value -> Shared -> Prop} {s : Shared}
theorem c9 {t b : Addr} {vs ws : List Value} {Q : Value -> Shared -> Prop} (ht : IsTup s.heap t vs.toArray) (hb : IsTup s.heap b ws.toArray) (hv : vs = []) (h0 : Q (.ref b) s) :
    wpAny (model prog w) A (binaryOp .Add (.ref t) (.ref b)) Q E s := by
  obtain ⟨⟨cls, dd, data, sl⟩, ho, hc, n, hd⟩ := id ht;obtain ⟨⟨cls2, dd2, data2, sl2⟩, ho2, hc2, n2, hd2⟩ := id hb;simp only at hc hd hc2 hd2;subst hc hd hc2 hd2
  exact concat_meets ⟨_, ho, rfl⟩ ⟨_, ho2, rfl⟩ noFill_tuple_add seq_tuple_add PySem.F.slot_tuple_add PySem.F.entry_tuple_add (PySem.F.args_tuple_add_2 _ _)
    (tuple_addW0 t b vs.toArray ws.toArray n n2 dd dd2 sl sl2 (by simp [hv])) ⟨ho, ho2, h0⟩
end
theorem jc {H : Hp} {a : Addr} {o : HO} (n : H a = none) : Same H (upd H a o) := fun b u e => by
  rw [z0 (fun z => by rw [z, n] at e; cases e)]; exact e
section
variable {X : Cx}
def rCatH : R2 := fun x y H Q => ∃ a b xs ys, x = .ref a /\ y = .ref b /\ H a = some (.tup xs) /\ H b = some (.tup ys) /\ xs.length + ys.length <= sizeLine /\ ∀ H' p, Same H H' -> H' p = some (.tup (xs ++ ys)) -> Q (.ref p) H'
theorem e_catH {x y : V} {H : Hp} {Q : VK} : rCatH x y H Q = ∃ a b xs ys, x = .ref a /\ y = .ref b /\ H a = some (.tup xs) /\ H b = some (.tup ys) /\ xs.length + ys.length <= sizeLine /\ ∀ H' p, Same H H' -> H' p = some (.tup (xs ++ ys)) -> Q (.ref p) H' := rfl
theorem bf : OpR X (binaryOp .Add) rCatH := by
  intro pins s σ H x y v u Q I rx ry h;obtain ⟨a, b, xs, ys, rfl, rfl, ha, hb, hz, q⟩ := h
  by_cases e1 : xs = []
  . subst e1
    cases rx;cases ry;obtain ⟨its, r1, p1, _⟩ := I.tuple (SqT.of ha);obtain ⟨its2, r2, p2, _⟩ := I.tuple (SqT.of hb);exact c9 p1 p2 (r1.nil_iff.mpr rfl) ⟨.ref b, H, I, rfl, q H b (Same.refl _) hb⟩
  . refine bx pins s σ H (.ref a) (.ref b) v u Q I rx ry ⟨a, b, xs, ys, rfl, rfl, .of ha, .of hb, e1, hz, fun e2 => ?_, fun e2 p hp => ?_⟩
    . subst e2
      exact q H a (Same.refl _) (by rw [ha, Ym])
    . exact q _ p (jc hp) ze
theorem cp {x : V} {vs : List V} {H : Hp} {Q : VK} : a6 x vs H Q = ∃ l b xs zs, x = .ref l /\ vs = [.ref b] /\ H l = some (.lst xs) /\ H b = some (.lst zs) /\ xs.length + zs.length <= sizeLine /\ Q .non (upd H l (.lst (xs ++ zs))) := rfl
end
section
open HT
variable {prog : Program} {w : World} {A : Around} {E : Value -> Shared -> Prop} {s : Shared}
theorem q0 {t sl : Addr} {items : Array Value} {vl vu : Value} {lo hi : Option Int} {Q : Value -> Shared -> Prop} (ht : IsTup s.heap t items) (hs : s.heap.IsSliceOf sl vl vu .none) (pl : IsPart vl lo) (pu : IsPart vu hi)
    (hw : sIx items.size 0 lo = 0 /\ sIx items.size items.size hi = items.size) (h : Q (.ref t) s) : wpAny (model prog w) A (getItem (.ref t) (.ref sl)) Q E s := by
  obtain ⟨os, hos, hcs, hds⟩ := id hs;have hTs : s.TypeIs (.ref sl) "slice" := ⟨os, hos, hcs⟩;unfold getItem
  try with_reducible refine wpAny_holding ?_
  first | refine wpAny_bind (wpAny_pure ?_) | skip
  refine wpAny_bind (wpAny_sequenceKey ht.typeIs (by decide) ?_)
  refine wpAny_bind (wpAny_callSpecial?_slot (name := Str.ofString "__getitem__") ht.typeIs PyProof.Rows.slot_tuple_getitem
    (wpAny_call_entry PyProof.Rows.slot_tuple_getitem ht.typeIs entry_tuple_getitem ?_ (args_tuple_getitem _ _)))
  show wpAny _ _ (Builtin.Tuple.tupleItemsOf (.ref t) >>= _) _ _ s
  refine wpAny_bind (tupleItemsOf_ ht ?_);refine wpAny_bind (wpAny_typeOf hTs ?_);rw [if_pos (by decide)];refine wpAny_bind (sd hs pl pu ?_)
  have hyes : (((sIx items.size 0 lo : Nat) : Int) == 0 && (1 : Int) == 1 && (sIx items.size items.size hi - sIx items.size 0 lo) == items.size) = true := by
    rw [hw.1, hw.2];simp
  show wpAny _ _ (if (((sIx items.size 0 lo : Nat) : Int) == 0 && (1 : Int) == 1 && (sIx items.size items.size hi - sIx items.size 0 lo) == items.size) = true then _ else _) _ _ s
  rw [if_pos hyes];unfold Builtin.Tuple.tupleIsExact;refine wpAny_bind (wpAny_bind (wpAny_typeOf ht.typeIs (wpAny_pure ?_)));rw [if_pos (by decide)];exact wpAny_bind (wpAny_rule (wpAny_pure ⟨_, rfl, wpAny_pure h⟩))
end
section
variable {X : Cx}
def rSlH : V -> Option Int -> Option Int -> Hp -> VK -> Prop := fun x lo hi H Q => ∃ a xs, x = .ref a /\ H a = some (.tup xs) /\ ∀ H' p, Same H H' -> H' p = some (.tup (cutV xs lo hi)) -> Q (.ref p) H'
theorem e_slH {x : V} {lo hi : Option Int} {H : Hp} {Q : VK} : rSlH x lo hi H Q = ∃ a xs, x = .ref a /\ H a = some (.tup xs) /\ ∀ H' p, Same H H' -> H' p = some (.tup (cutV xs lo hi)) -> Q (.ref p) H' := rfl
theorem br : SlR X rSlH := by
  intro pins s σ H x v vl vu lo hi sl Q I rx hs pl pu h;obtain ⟨a, xs, rfl, hx, q⟩ := h
  by_cases hw : HT.sIx xs.length 0 lo = 0 /\ HT.sIx xs.length xs.length hi = xs.length
  . cases rx
    obtain ⟨its, r, ht, hz⟩ := I.tuple (SqT.of hx);have hlen : its.toArray.size = xs.length := by rw [Zr]; exact r.length.symm
    refine ⟨"tuple", _, PyProof.Rows.slot_tuple_getitem.lookup, ht.typeIs, ?_⟩;refine q0 ht hs pl pu (by rw [hlen]; exact hw) ⟨.ref a, H, I, rfl, q H a (Same.refl _) ?_⟩;rw [hx];unfold cutV;rw [hw.1, hw.2];simp
  . exact sl_tup pins s σ H _ v vl vu lo hi sl Q I rx hs pl pu ⟨a, xs, rfl, .of hx, hw, fun p hp => q _ p (jc hp) ze⟩
theorem e_slT {K : Fg} {x : V} {lo hi : Option Int} {H : Hp} {Q : VK} : rSlT K x lo hi H Q = ∃ a xs, x = .ref a /\ SqT K H a xs /\ ¬ (HT.sIx xs.length 0 lo = 0 /\ HT.sIx xs.length xs.length hi = xs.length) /\ ∀ p, H p = none -> Q (.ref p) (upd H p (.tup (cutV xs lo hi))) := rfl
theorem ww {xs : List V} {k : Nat} (h : k <= xs.length) : cutV xs none (some (k : Int)) = xs.take k := by
  unfold cutV;rw [HT.sIx_none, HT.sIx_nat];simp [Nat.min_eq_left h]
theorem la {xs : List V} {k : Nat} (h : k <= xs.length) : cutV xs (some (k : Int)) none = xs.drop k := by
  unfold cutV;rw [HT.sIx_none, HT.sIx_nat, Nat.min_eq_left h];exact List.take_of_length_le (by rw [ZN]; omega)
end
end L2
namespace L2
open PySem PySem.Spec PyProof.Rows
section
variable {σ : St} {k : Nat} {g : TG} {tt : TT} {te : TE} {H1 : Hp} {Fin : List V -> Hp -> Prop}
end
end L2
namespace L2
open PySem PySem.Spec PyProof.Rows
section
variable {X : Cx}
structure FirstAt (xs : List V) (y : V) (j : Nat) : Prop where
  flat : xk y = true
  flats : xs.all xk = true
  hit : ∃ z, xs[j]? = some z /\ eqV z y = true
  no : ∀ (m : Nat) (z : V), m < j -> xs[m]? = some z -> eqV z y = false
theorem FirstAt.lt {xs : List V} {y : V} {j : Nat} (h : FirstAt xs y j) : j < xs.length := by
  obtain ⟨z, e, _⟩ := h.hit;exact (Zc.mp e).1
def bv (K : Fg) : V -> List V -> Hp -> VK -> Prop := fun x vs H Q => ∃ p xs y j, x = .ref p /\ vs = [y] /\ SqT K H p xs /\ FirstAt xs y j /\ Q (.int (j : Nat)) H
def az (K : Fg) : V -> List V -> Hp -> VK -> Prop := fun x vs H Q => ∃ p xs y j, x = .ref p /\ vs = [y] /\ SqL K H p xs /\ FirstAt xs y j /\ Q (.int (j : Nat)) H
theorem cm {K : Fg} {x : V} {vs : List V} {H : Hp} {Q : VK} : bv K x vs H Q = ∃ p xs y j, x = .ref p /\ vs = [y] /\ SqT K H p xs /\ FirstAt xs y j /\ Q (.int (j : Nat)) H := rfl
theorem d9 {K : Fg} {x : V} {vs : List V} {H : Hp} {Q : VK} : az K x vs H Q = ∃ p xs y j, x = .ref p /\ vs = [y] /\ SqL K H p xs /\ FirstAt xs y j /\ Q (.int (j : Nat)) H := rfl
end
section
variable {X : Cx}
def rInK (neg : Bool) : R2 := fun y x H Q => ∃ a o, x = .ref a /\ DGet H a y o /\ Q (.bl (neg ^^ o.isSome)) H
theorem e_inK {neg : Bool} {y x : V} {H : Hp} {Q : VK} : rInK neg y x H Q = ∃ a o, x = .ref a /\ DGet H a y o /\ Q (.bl (neg ^^ o.isSome)) H := rfl
def rSetD : TSet := fun o i v H Q => ∃ a H', o = .ref a /\ DPut H a i v H' /\ Q H'
theorem e_setD {o i v : V} {H : Hp} {Q : Hp -> Prop} : rSetD o i v H Q = ∃ a H', o = .ref a /\ DPut H a i v H' /\ Q H' := rfl
theorem bw {σ : St} {H : Hp} {Q : VK} : tDNewT σ H Q = ∀ p, H p = none -> Q (.ref p) (upd H p (.dT [])) := rfl
theorem e_dget {td ty : TE} {σ : St} {H : Hp} {Q : VK} : tDGet td ty σ H Q = td σ H fun x H1 => ty σ H1 fun y H2 => ∃ a v, x = .ref a /\ DGet H2 a y (some v) /\ Q v H2 := rfl
end
end L2
namespace L2
open PySem PySem.Spec PyProof.Rows
section
variable {X : Cx}
def tBMT (r : V -> List V -> Hp -> VK -> Prop) (to : TE) (t : TA) : TE := fun σ H Q => to σ H fun x H1 => (∃ p xs, x = .ref p /\ Rd H1 p (.tup xs)) /\ t σ H1 fun xs H2 => r x xs H2 Q
theorem e_BMT {r : V -> List V -> Hp -> VK -> Prop} {to : TE} {t : TA} {σ : St} {H : Hp} {Q : VK} : tBMT r to t σ H Q = to σ H fun x H1 => (∃ p xs, x = .ref p /\ Rd H1 p (.tup xs)) /\ t σ H1 fun xs H2 => r x xs H2 Q := rfl
end
end L2
namespace L2
open PySem PySem.Spec PyProof.Rows
theorem ij {i : Int} {n : Nat} (h1 : -(2 ^ n) < i) (h2 : i < 2 ^ n) : Builtin.Int.intBits i <= n := by
  unfold Builtin.Int.intBits
  split
  . exact ZD _
  . rename_i h
    have h0 : i ≠ 0 := fun e => h (by rw [e]; rfl)
    have hn : i.natAbs < 2 ^ n := by
      have e : ((2 ^ n : Nat) : Int) = (2 : Int) ^ n := by rw [Int.natCast_pow]; rfl
      have : (i.natAbs : Int) < ((2 ^ n : Nat) : Int) := by rw [e]; omega
      exact_mod_cast this
    exact (Nat.log2_lt (by omega)).mpr hn
def CMulB (i j : Int) : Prop := (-(10 ^ 60) <= i /\ i <= 10 ^ 60) /\ -(10 ^ 60) <= j /\ j <= 10 ^ 60
theorem CMulB.ok {i j : Int} (h : CMulB i j) : IntMulOk i j := by
  have e : (10 : Int) ^ 60 < 2 ^ 200 := by decide
  obtain ⟨⟨a, b⟩, c, d⟩ := h;exact .of_bits (Zd (ij (n := 200) (by omega) (by omega)) (by decide)) (Zd (ij (n := 200) (by omega) (by omega)) (by decide))
end L2
namespace L2
open PySem
def SeqH (h : Heap) (l : Addr) (xs : Array Value) : Prop := ∃ o n, h.get? l = some o /\ o.data = .seq xs n
section
variable {prog : Program} {w : World} {A : Around} {E : Value -> Shared -> Prop} {s : Shared}
end
structure Drw where
  it : Addr
  l : Addr
  xs : Array Value
def DrAt (h : Heap) (d : Drw) (k : Nat) : Prop := (h.IsListIter d.it d.l k \/ h.IsTupleIter d.it d.l k) /\ SeqH h d.l d.xs
theorem DrAt.ext {h h' : Heap} {d : Drw} {k : Nat} (q : DrAt h d k) (h1 : ∀ o, h.get? d.it = some o -> h'.get? d.it = some o) (h2 : ∀ o, h.get? d.l = some o -> h'.get? d.l = some o) : DrAt h' d k := by
  obtain ⟨a, o', n, e', r'⟩ := q;refine ⟨?_, o', n, h2 o' e', r'⟩
  rcases a with ⟨o, e, r⟩ | ⟨o, e, r⟩
  . exact .inl ⟨o, h1 o e, r⟩
  . exact .inr ⟨o, h1 o e, r⟩
theorem DrAt.itAt {h : Heap} {d : Drw} {k : Nat} (q : DrAt h d k) : ∃ o, h.get? d.it = some o /\ o.data = .fields #[.ref d.l, .int k 0] := by
  rcases q.1 with ⟨o, e, c, r⟩ | ⟨o, e, c, r⟩ <;> exact ⟨o, e, r⟩
theorem DrAt.ne {h : Heap} {d : Drw} {k : Nat} (q : DrAt h d k) : d.l ≠ d.it := fun e => by
  obtain ⟨o, e1, r1⟩ := q.itAt;obtain ⟨o', n, e2, r2⟩ := q.2;rw [e, e1] at e2;cases e2;rw [r1] at r2;cases r2
section
variable {prog : Program} {w : World} {A : Around} {E : Value -> Shared -> Prop} {s : Shared}
end
def SrcAt (h : Heap) (b : Bool) (l : Addr) (xs : Array Value) : Prop := if b = true then h.IsList l xs else h.IsTuple l xs
def itObj (b : Bool) (l : Addr) : Obj := { cls := .type (if b = true then "list_iterator" else "tuple_iterator"), data := .fields #[.ref l, .int 0 0] }
theorem SrcAt.push {h : Heap} {b : Bool} {l : Addr} {xs : Array Value} (q : SrcAt h b l xs) (o : Obj) : SrcAt (h.push o) b l xs := by
  cases b
  . obtain ⟨p, e, r⟩ := (show h.IsTuple l xs from q)
    exact ⟨p, Heap.get?_push_of_some _ e, r⟩
  . obtain ⟨p, e, r⟩ := (show h.IsList l xs from q)
    exact ⟨p, Heap.get?_push_of_some _ e, r⟩
theorem DrAt.start {h : Heap} {b : Bool} {n l : Addr} {xs : Array Value} (e : h.get? n = some (itObj b l)) (q : SrcAt h b l xs) : DrAt h ⟨n, l, xs⟩ 0 := by
  cases b
  . obtain ⟨o, e', c, n, r⟩ := (show h.IsTuple l xs from q)
    exact ⟨.inr ⟨_, e, rfl, rfl⟩, o, n, e', r⟩
  . obtain ⟨o, e', c, n, r⟩ := (show h.IsList l xs from q)
    exact ⟨.inl ⟨_, e, rfl, rfl⟩, o, n, e', r⟩
theorem SrcAt.keeps {h h' : Heap} {b : Bool} {l : Addr} {xs : Array Value} (q : SrcAt h b l xs) (k : ∀ c o, h.get? c = some o -> h'.get? c = some o) : SrcAt h' b l xs := by
  cases b
  . obtain ⟨p, e, r⟩ := (show h.IsTuple l xs from q)
    exact ⟨p, k _ _ e, r⟩
  . obtain ⟨p, e, r⟩ := (show h.IsList l xs from q)
    exact ⟨p, k _ _ e, r⟩
section
variable {prog : Program} {w : World} {A : Around} {E : Value -> Shared -> Prop} {s : Shared}
end
end L2
namespace L2
open PySem PySem.Spec PyProof.Rows
section
variable {X : Cx} {pins : List (Addr × Obj)} {σ : St} {H : Hp} {s : Shared}
end
theorem Vals.three {x y z : V} {us : List Value} (r : Vals [x, y, z] us) : ∃ u v w, us = [u, v, w] /\ RelV x u /\ RelV y v /\ RelV z w := by
  cases r with
  | cons r1 r => cases r with
    | cons r2 r => cases r with
      | cons r3 r =>
        cases r;exact ⟨_, _, _, rfl, r1, r2, r3⟩
section
variable {σ : St} {k : Nat} {g : TG} {tt : TT} {te : TE} {H1 : Hp} {Fin : List V -> Hp -> Prop}
end
end L2
namespace L2
open PySem PySem.Spec PyProof.Rows
section
variable {prog : Program} {w : World} {K : Type} [DecidableEq K] {knd : KeyKind prog w K}
end
end L2
namespace L2
open PySem PySem.Spec PyProof.Rows
section
variable {X : Cx} {pins : List (Addr × Obj)} {σ : St} {H : Hp} {s : Shared}
end
end L2
namespace L2
open PySem
end L2
namespace L2
open PySem PySem.Spec PyProof.Rows
section
variable {X : Cx} {pins : List (Addr × Obj)} {σ : St} {H : Hp} {k : Nat} {f : Addr} {fd : FuncData} {ps : List Str} {sp : Sp}
end
end L2
namespace L2
open PySem PySem.Spec PyProof.Rows
section
variable {X : Cx}
end
end L2
namespace L2
open PySem PySem.Spec PyProof.Rows
section
variable {X : Cx}
end
end L2
namespace L2
open PySem PySem.Spec PyProof.Rows
section
variable {X : Cx} {pins : List (Addr × Obj)} {σ : St} {H2 : Hp} {s₂ : Shared} {scope : Scope} {ts N2 : List Str} {cl : List (Str × Addr)} {C D : Addr} {fp : List Addr}
end
end L2
namespace L2
open PySem PySem.Spec PyProof.Rows
end L2
namespace L2
open PySem PySem.Spec PyProof.Rows
section
variable {X : Cx}
end
end L2
namespace L2
open PySem PySem.Spec PyProof.Rows
section
variable {M : Model} {A : Around} {E : Value -> Shared -> Prop} {s : Shared}
end
section
variable {X : Cx} {pins : List (Addr × Obj)} {σ : St} {H : Hp} {s : Shared}
end
section
variable {X : Cx} {pins : List (Addr × Obj)} {σ : St} {H2 : Hp} {s₂ : Shared} {scope : Scope} {ts N2 : List Str} {cl : List (Str × Addr)} {C D : Addr} {fp : List Addr}
end
end L2
namespace L2
open PySem PySem.Spec PyProof.Rows
section
variable {X : Cx}
end
end L2
namespace L2
open PySem PySem.Spec PyProof.Rows
end L2
namespace L2
open PySem PySem.Spec PyProof.Rows
def TupIn (K : Fg) (mg : Str -> Option Value) (name : Str) (xs : List V) : Prop := ∃ p, mg name = some (.ref p) /\ ∀ H, SqT K H p xs
theorem tup_mk {K : Fg} {h : Heap} {mg : Str -> Option Value} (X : K.In h) (G : h.Ns mainGlobals mg) {name : Str} {p : Addr} {od : Option Addr} {its : Array Value} {n : Nat} {osl : Array (Option Value)} {xs : List V} (e : PySem.W.nsIn K mainGlobals name = some (some (.ref p))) (l : K.lookup p = some ⟨.type "tuple", od, .seq its n, osl⟩) (hz : its.size <= sizeLine) (r : Vals xs its.toList) : TupIn K mg name xs :=
  ⟨p, PySem.W.mg_of X G e, fun H => .inr ⟨_, its, n, l, rfl, rfl, hz, r⟩⟩
end L2
namespace L2
open PySem PySem.Spec PyProof.Rows
section
variable {X : Cx}
end
section
variable {a b c d t e u : TS} {tc : TT} {D : Ends} {σ : L2.St} {H : Hp}
theorem hide3 (h : ∀ T : TS, T = t -> tSeq a (tSeq b (tSeq c T)) D σ H) : tSeq a (tSeq b (tSeq c t)) D σ H := h t rfl
theorem hide4 (h : ∀ T : TS, T = t -> tSeq a (tSeq b (tSeq c (tSeq d T))) D σ H) : tSeq a (tSeq b (tSeq c (tSeq d t))) D σ H := h t rfl
end
end L2
namespace L2
open PySem PySem.Spec PyProof.Rows
section
variable {P : Program} {w : World} {A : Around} {E : Value -> Shared -> Prop} {s : Shared}
def RawAt (h : Heap) (d : Addr) (es : Array DictEntry) (ep : Nat) : Prop := ∃ o, h.get? d = some o /\ o.ExactDict /\ o.data = .dict es ep
theorem RawAt.ty {d : Addr} {es : Array DictEntry} {ep : Nat} (x : RawAt s.heap d es ep) : s.TypeIs (.ref d) "dict" := let ⟨o, ho, hc, _⟩ := x; ⟨o, ho, hc.1⟩
end
def dl (H : Hp) (kvs : List (List Key × V)) (as : List Addr) : Prop := Paired (fun (p : List Key × V) (a : Addr) => H a = some (.tup (p.1.map kV))) kvs as
def rListT (xs : List V) (H : Hp) (Q : VK) : Prop := ∃ (a : Addr) (kvs : List (List Key × V)), xs = [.ref a] /\ H a = some (.dT kvs) /\ ∀ as, dl H kvs as -> ∀ p, H p = none -> Q (.ref p) (upd H p (.lst (as.map V.ref)))
theorem ag {xs : List V} {H : Hp} {Q : VK} : rListT xs H Q = ∃ (a : Addr) (kvs : List (List Key × V)), xs = [.ref a] /\ H a = some (.dT kvs) /\ ∀ as, dl H kvs as -> ∀ p, H p = none -> Q (.ref p) (upd H p (.lst (as.map V.ref))) := rfl
section
variable {X : Cx}
end
section
variable {X : Cx} {e st : Expr} {te : TE} {ts : TO} {pos p2 : Pos}
def tDown (K : Fg) (te : TE) (ts : TO) : TE := fun σ H Q => te σ H fun x H1 => ts σ H1 fun k H2 => k = some (-1) /\ ∃ a xs, x = .ref a /\ SqL K H2 a xs /\ ∀ p, H2 p = none -> Q (.ref p) (upd H2 p (.lst xs.reverse))
theorem e_down {K : Fg} {σ : St} {H : Hp} {Q : VK} : tDown K te ts σ H Q = te σ H fun x H1 => ts σ H1 fun k H2 => k = some (-1) /\ ∃ a xs, x = .ref a /\ SqL K H2 a xs /\ ∀ p, H2 p = none -> Q (.ref p) (upd H2 p (.lst xs.reverse)) := rfl
end
end L2
namespace L2
open PySem PySem.Spec PyProof.Rows
section
variable {X : Cx} {tg : Expr}
end
end L2
namespace L2
open PySem PySem.Spec PyProof.Rows
section
variable {prog : Program} {w : World} {K : Type} [DecidableEq K] {knd : KeyKind prog w K}
end
section
variable {X : Cx} {pins : List (Addr × Obj)} {σ : St} {H : Hp} {s : Shared}
end
end L2
namespace L2
open PySem PySem.Spec PyProof.Rows
section
variable {prog : Program} {w : World} {K : Type} [DecidableEq K] {knd : KeyKind prog w K} {A : Around} {E : Value -> Shared -> Prop} {s : Shared}
end
section
variable {X : Cx}
end
end L2
namespace L2
open PySem PySem.Spec PyProof.Rows AutoSeq1
set_option maxHeartbeats 1000000 in
section
variable {prog : Program} {w : World} {A : Around} {E : Value -> Shared -> Prop} {s : Shared}
end
section
variable {σ : St} {k : Nat} {g : TG} {tt : TT} {te : TE} {H1 : Hp} {Fin : List V -> Hp -> Prop}
end
end L2
namespace L2
open PySem PySem.Spec PyProof.Rows
section
variable {X : Cx} {c e : Expr} {te : TE} {x : Str} {p2 pos : Pos}
end
section
variable {X : Cx}
end
end L2
namespace L2
open PySem PySem.Spec PyProof.Rows
section
variable {X : Cx}
end
section
variable {σ : St} {k : Nat} {g : TG} {tt : TT} {te : TE} {H1 : Hp} {Fin : List V -> Hp -> Prop}
end
end L2
namespace L2
open PySem PySem.Spec PyProof.Rows
section
variable {X : Cx} {e st : Expr} {te : TE} {ts : TO} {pos p2 : Pos}
end
section
variable {prog : Program} {w : World} {K : Type} [DecidableEq K] {knd : KeyKind prog w K} {A : Around} {E : Value -> Shared -> Prop} {s : Shared}
end
end L2
namespace L2
open PySem PySem.Spec PyProof.Rows
section
variable {X : Cx} {tg : Expr}
end
section
variable {X : Cx}
end
end L2
namespace Mine
open PySem PySem.Spec PyProof.Rows L2
theorem xv {α β : Type} {g : α -> β} {xs : List α} {i : Nat} {x : β} (h : (xs.map g)[i]? = some x) : ∃ y, xs[i]? = some y /\ g y = x := by
  rw [Ze] at h
  cases e : xs[i]? with
  | none => rw [e] at h; cases h
  | some y => rw [e] at h; cases h; exact ⟨y, rfl, rfl⟩
def zp := And.intro @ag (And.intro @e_down (And.intro @e_var (And.intro @e_C (And.intro @e_op (And.intro @e_un (And.intro @e_rI (And.intro @e_rI0 (And.intro @e_rU (And.intro @e_rEq (And.intro @e_rNe (And.intro @e_ixL (And.intro @e_ixT (And.intro @e_set (And.intro @e_cat (And.intro @e_test (And.intro @e_B (And.intro @e_and (And.intro @e_or (And.intro @e_not (And.intro @e_andV (And.intro @e_orV (And.intro @e_notV (And.intro @e_ifE (And.intro @e_all (And.intro @e_next (And.intro @e_seq (And.intro @e_brk (And.intro @e_cnt (And.intro @e_drop (And.intro @e_ret (And.intro @e_retN (And.intro @e_ifS (And.intro @e_asg (And.intro @ai (And.intro @e_setC (And.intro @e_augS (And.intro @e_ipI (And.intro @e_nil (And.intro @e_cons (And.intro @e_tup (And.intro @e_lst (And.intro @e_call (And.intro @e_CB (And.intro @e_BM (And.intro @e_app (And.intro @e_rng1 (And.intro @e_rng2 (And.intro @e_iL (And.intro @e_for (And.intro @e_comp (And.intro @cxK (And.intro @e_zip (And.intro @e_gTup (And.intro @e_gNil (And.intro @al (And.intro @e_rep (And.intro @e_gSub (And.intro @e_slL (And.intro @e_tSl (And.intro @cw (And.intro @e_part (And.intro @aq (And.intro @e_BM0 (And.intro @bq (And.intro @e_in (And.intro @e_enum (And.intro @e_minK (And.intro @a9 (And.intro @bd (And.intro @ae (And.intro @e_try0 (And.intro @suK (And.intro @noxK (And.intro @tryK (And.intro @e_eqD (And.intro @e_inD (And.intro @e_iStr (And.intro @e_mulS (And.intro @e_ixS (And.intro @e_join (And.intro @e_iT (And.intro @e_iSeq (And.intro @e_tupL (And.intro @e_minL (And.intro @e_maxL (And.intro @cf (And.intro @e_leS (And.intro @e_vI0 (And.intro @e_vI (And.intro @e_ints (And.intro @e_isB (And.intro @e_catH (And.intro @cp (And.intro @e_slH (And.intro @e_slT (And.intro @cm (And.intro @d9 (And.intro @e_inK (And.intro @e_setD (And.intro @bw (And.intro @e_dget (@e_BMT))))))))))))))))))))))))))))))))))))))))))))))))))))))))))))))))))))))))))))))))))))))))))))))))))))))
def zq := And.intro @ZR.{0} (And.intro @Ys.{0} (And.intro @Nat.zero_add (And.intro @ZO.{0} (And.intro @List.replicate_zero.{0} (And.intro @List.drop_succ_cons.{0} (And.intro @List.drop_zero.{0} (And.intro @Int.zero_add (And.intro @List.getElem?_cons_zero.{0} (And.intro @List.getElem?_cons_succ.{0} (And.intro @List.set_cons_zero.{0} (And.intro @List.set_cons_succ.{0} (And.intro @Option.some.injEq.{0} (And.intro @V.int.injEq (And.intro @V.ref.injEq (And.intro @V.bl.injEq (And.intro @V.ty.injEq (And.intro @V.str.injEq (And.intro @List.cons.injEq.{0} (And.intro @Ym.{0} (And.intro @Yi.{0} (And.intro @Yb.{0} (And.intro @exists_eq.{1} (And.intro @exists_eq'.{1} (And.intro @exists_eq_left.{1} (And.intro @exists_eq_left'.{1} (And.intro @exists_and_left.{1} (And.intro @exists_and_right.{1} (And.intro @and_assoc (And.intro @true_and (@and_true))))))))))))))))))))))))))))))
def top (i : Nat) : Stmt := PySem.Challenge.pw_trueword_k33_no_house.main.body.getD i (.Pass ⟨0, 0, 0, 0⟩)
abbrev uc : Stmt := top 13
theorem pp : yg ["thing"] ["thing"] (zf uc) := ⟨rfl, rfl, rfl, by decide +kernel, rfl, by decide +kernel, by decide +kernel⟩
abbrev va : Stmt := top 14
theorem qd : yg ["thing"] ["thing"] (zf va) := ⟨rfl, rfl, rfl, by decide +kernel, rfl, by decide +kernel, by decide +kernel⟩
abbrev wu : Stmt := top 15
theorem rb : yg ["thing", "width"] ["thing", "width"] (zf wu) := ⟨rfl, rfl, rfl, by decide +kernel, rfl, by decide +kernel, by decide +kernel⟩
abbrev u3 : Stmt := top 21
theorem nu : yg ["thing"] ["thing"] (zf u3) := ⟨rfl, rfl, rfl, by decide +kernel, rfl, by decide +kernel, by decide +kernel⟩
abbrev vp : Stmt := top 22
theorem qt : yg ["thing", "most"] ["thing", "most"] (zf vp) := ⟨rfl, rfl, rfl, by decide +kernel, rfl, by decide +kernel, by decide +kernel⟩
abbrev w6 : Stmt := top 23
theorem qf : yg ["thing", "height", "width"] ["thing", "height", "width"] (zf w6) := ⟨rfl, rfl, rfl, by decide +kernel, rfl, by decide +kernel, by decide +kernel⟩
abbrev u0 : Stmt := top 24
theorem ng : yg ["thing", "width"] ["thing", "width"] (zf u0) := ⟨rfl, rfl, rfl, by decide +kernel, rfl, by decide +kernel, by decide +kernel⟩
abbrev sr : Stmt := top 25
theorem gp : yg ["hand"] ["hand"] (zf sr) := ⟨rfl, rfl, rfl, by decide +kernel, rfl, by decide +kernel, by decide +kernel⟩
abbrev uh : Stmt := top 26
theorem pq : yg ["hands"] ["hands"] (zf uh) := ⟨rfl, rfl, rfl, by decide +kernel, rfl, by decide +kernel, by decide +kernel⟩
abbrev wz : Stmt := top 27
theorem og : yg ["hand"] ["hand"] (zf wz) := ⟨rfl, rfl, rfl, by decide +kernel, rfl, by decide +kernel, by decide +kernel⟩
abbrev wn : Stmt := top 28
theorem qz : yg ["hand"] ["hand"] (zf wn) := ⟨rfl, rfl, rfl, by decide +kernel, rfl, by decide +kernel, by decide +kernel⟩
abbrev w4 : Stmt := top 29
theorem sc_count_of_rows : yg ["hands", "count", "hand"] ["hands"] (zf w4) := ⟨rfl, rfl, rfl, by decide +kernel, rfl, by decide +kernel, by decide +kernel⟩
abbrev wt : Stmt := top 30
theorem rg : yg ["outcomes", "hands"] ["outcomes", "hands"] (zf wt) := ⟨rfl, rfl, rfl, by decide +kernel, rfl, by decide +kernel, by decide +kernel⟩
abbrev ut : Stmt := top 31
theorem sc_kept_hand : yg ["hand", "worths"] ["hand"] (zf ut) := ⟨rfl, rfl, rfl, by decide +kernel, rfl, by decide +kernel, by decide +kernel⟩
abbrev ua : Stmt := top 32
theorem q8 : yg ["outcomes", "hands"] ["outcomes", "hands"] (zf ua) := ⟨rfl, rfl, rfl, by decide +kernel, rfl, by decide +kernel, by decide +kernel⟩
abbrev vt : Stmt := top 34
theorem mr : yg ["script", "k"] ["script", "k"] (zf vt) := ⟨rfl, rfl, rfl, by decide +kernel, rfl, by decide +kernel, by decide +kernel⟩
abbrev z9 : Stmt := top 35
theorem sc_law_pool : yg ["cell", "many", "letters", "number", "filler", "begin", "step", "size", "place", "front", "back"] ["cell", "many"] (zf z9) := ⟨rfl, rfl, rfl, by decide +kernel, rfl, by decide +kernel, by decide +kernel⟩
abbrev up : Stmt := top 36
theorem sc_law_drawn : yg ["script", "k", "many", "cell", "number"] ["script", "k"] (zf up) := ⟨rfl, rfl, rfl, by decide +kernel, rfl, by decide +kernel, by decide +kernel⟩
abbrev uq : Stmt := top 37
theorem ko : yg ["cell"] ["cell"] (zf uq) := ⟨rfl, rfl, rfl, by decide +kernel, rfl, by decide +kernel, by decide +kernel⟩
abbrev ur : Stmt := top 38
theorem sc_law_parts : yg ["script", "tops", "first", "shape", "outcomes", "hands", "k", "j", "size", "words", "worths", "word"] ["script", "tops"] (zf ur) := ⟨rfl, rfl, rfl, by decide +kernel, rfl, by decide +kernel, by decide +kernel⟩
abbrev zm : Stmt := top 39
theorem sc_law_no_names : yg ["names", "cell", "top", "place", "bad", "way", "other"] ["names", "cell", "top"] (zf zm) := ⟨rfl, rfl, rfl, by decide +kernel, rfl, by decide +kernel, by decide +kernel⟩
abbrev zl : Stmt := top 40
theorem sc_law_no_worths : yg ["worths", "cell", "place", "row", "at", "some", "way"] ["worths", "cell"] (zf zl) := ⟨rfl, rfl, rfl, by decide +kernel, rfl, by decide +kernel, by decide +kernel⟩
abbrev zv : Stmt := top 41
theorem sc_law_no_hand : yg ["hand", "cell", "way"] ["hand", "cell"] (zf zv) := ⟨rfl, rfl, rfl, by decide +kernel, rfl, by decide +kernel, by decide +kernel⟩
abbrev zn : Stmt := top 42
theorem sc_law_no_hands : yg ["hands", "outcomes", "cell", "place", "way", "other", "sizes", "made", "j", "words", "worths"] ["hands", "outcomes", "cell"] (zf zn) := ⟨rfl, rfl, rfl, by decide +kernel, rfl, by decide +kernel, by decide +kernel⟩
abbrev yr : Stmt := top 43
theorem sc_law_nine : yg ["hands", "made", "name", "words", "worths"] ["hands"] (zf yr) := ⟨rfl, rfl, rfl, by decide +kernel, rfl, by decide +kernel, by decide +kernel⟩
abbrev sf : Stmt := top 44
theorem sc_law : yg ["script", "outcomes", "hands", "cell", "good", "found", "kinds", "e"] ["script"] (zf sf) := ⟨rfl, rfl, rfl, by decide +kernel, rfl, by decide +kernel, by decide +kernel⟩
structure Bt (mg : Str -> Option Value) : Prop where
  «ValueError» : mg "ValueError" = none
  «abs» : mg "abs" = none
  «all» : mg "all" = none
  «bool» : mg "bool" = none
  «int» : mg "int" = none
  «isinstance» : mg "isinstance" = none
  «len» : mg "len" = none
  «list» : mg "list" = none
  «max» : mg "max" = none
  «min» : mg "min" = none
  «range» : mg "range" = none
  «set» : mg "set" = none
  «str» : mg "str" = none
  «tuple» : mg "tuple" = none
  k_MOST_WORDS : ∃ t, mg "MOST_WORDS" = some (Value.int 8 t)
  k_MOST_LETTERS : ∃ t, mg "MOST_LETTERS" = some (Value.int 8 t)
  k_MOST_OUTCOMES : ∃ t, mg "MOST_OUTCOMES" = some (Value.int 8 t)
  k_MOST_HANDS : ∃ t, mg "MOST_HANDS" = some (Value.int 4 t)
  k_MOST_ROWS : ∃ t, mg "MOST_ROWS" = some (Value.int 256 t)
structure Ad where
  NoHouse : Addr
  TrueError : Addr
  NoWord : Addr
  NoWeight : Addr
  NoStand : Addr
  NoShare : Addr
  NoRule : Addr
  NoRow : Addr
  NoPays : Addr
  NoMenu : Addr
structure Ct (K : Fg) (mg : Str -> Option Value) (a : Ad) : Prop where
  m_NoHouse : mg "NoHouse" = some (.ref a.NoHouse)
  q_NoHouse : ErrQ K a.NoHouse
  v_NoHouse : PySem.W.kitOne K (.ref a.NoHouse) (.type "ValueError") = some true
  m_TrueError : mg "TrueError" = some (.ref a.TrueError)
  q_TrueError : ErrQ K a.TrueError
  m_NoWord : mg "NoWord" = some (.ref a.NoWord)
  m_NoWeight : mg "NoWeight" = some (.ref a.NoWeight)
  m_NoStand : mg "NoStand" = some (.ref a.NoStand)
  m_NoShare : mg "NoShare" = some (.ref a.NoShare)
  m_NoRule : mg "NoRule" = some (.ref a.NoRule)
  m_NoRow : mg "NoRow" = some (.ref a.NoRow)
  m_NoPays : mg "NoPays" = some (.ref a.NoPays)
  m_NoMenu : mg "NoMenu" = some (.ref a.NoMenu)
  s_NoHouse_NoHouse : PySem.W.mroIn K a.NoHouse (.ref a.NoHouse) = some true
  k_NoHouse_NoHouse : PySem.W.kitOne K (.ref a.NoHouse) (.ref a.NoHouse) = some true
  s_NoHouse_TrueError : PySem.W.mroIn K a.NoHouse (.ref a.TrueError) = some true
  k_NoHouse_TrueError : PySem.W.kitOne K (.ref a.NoHouse) (.ref a.TrueError) = some true
  k_NoHouse_NoWord : PySem.W.kitOne K (.ref a.NoHouse) (.ref a.NoWord) = some false
  k_NoHouse_NoWeight : PySem.W.kitOne K (.ref a.NoHouse) (.ref a.NoWeight) = some false
  k_NoHouse_NoStand : PySem.W.kitOne K (.ref a.NoHouse) (.ref a.NoStand) = some false
  k_NoHouse_NoShare : PySem.W.kitOne K (.ref a.NoHouse) (.ref a.NoShare) = some false
  k_NoHouse_NoRule : PySem.W.kitOne K (.ref a.NoHouse) (.ref a.NoRule) = some false
  k_NoHouse_NoRow : PySem.W.kitOne K (.ref a.NoHouse) (.ref a.NoRow) = some false
  k_NoHouse_NoPays : PySem.W.kitOne K (.ref a.NoHouse) (.ref a.NoPays) = some false
  k_NoHouse_NoMenu : PySem.W.kitOne K (.ref a.NoHouse) (.ref a.NoMenu) = some false
structure NewGrid (H H' : Hp) (b : Addr) (bs : List Addr) (rows : List (List Int)) (k n : Nat) : Prop where
  same : Same H H'
  nb : H b = none
  nr : ∀ r ∈ bs, H r = none
  nd : bs.Nodup
  ne : b ∉ bs
  at' : H' b = some (.lst (bs.map V.ref))
  lb : bs.length = k
  lr : rows.length = k
  row : ∀ (i : Nat) (r : Addr) (ns : List Int), bs[i]? = some r -> rows[i]? = some ns -> H' r = some (.lst (ns.map V.int)) /\ ns.length = n
theorem NewGrid.grid {K : Fg} {H H' : Hp} {b : Addr} {bs : List Addr} {rows : List (List Int)} {k n : Nat} (g : NewGrid H H' b bs rows k n) : GridL K H' b bs rows :=
  ⟨.of g.at', g.lb.trans g.lr.symm, fun i r ns e1 e2 => .of (g.row i r ns e1 e2).1⟩
theorem Same.upd {H H' : Hp} (s : Same H H') {a : Addr} {o : HO} (n : H a = none) : Same H (upd H' a o) := fun b u e => by
  rw [z0 (y8 e n)]; exact s b u e
theorem NewGrid.nil {H H' : Hp} {b : Addr} {n : Nat} (s : Same H H') (nb : H' b = none) : NewGrid H (upd H' b (.lst [])) b [] [] 0 n :=
  ⟨Same.upd s (s.free nb), s.free nb, (fun _ z => nomatch z), List.nodup_nil, (fun z => nomatch z), ze, rfl, rfl, (fun i r ns e => by simp at e)⟩
theorem NewGrid.laid {H H' : Hp} {b c : Addr} {bs : List Addr} {rows : List (List Int)} {k n : Nat} {o : HO} (g : NewGrid H H' b bs rows k n) (nc : H' c = none) : NewGrid H (L2.upd H' c o) b bs rows k n :=
  ⟨Same.upd g.same (g.same.free nc), g.nb, g.nr, g.nd, g.ne, by rw [z0 (y8 g.at' nc)]; exact g.at', g.lb, g.lr, fun i r ns e1 e2 => by
    obtain ⟨q, l⟩ := g.row i r ns e1 e2
    exact ⟨by rw [z0 (y8 q nc)]; exact q, l⟩⟩
theorem NewGrid.snoc {H H' : Hp} {b c : Addr} {bs : List Addr} {rows : List (List Int)} {k n : Nat} {ns : List Int} (g : NewGrid H H' b bs rows k n) (hn : H c = none) (hc : H' c = some (.lst (ns.map V.int))) (hl : ns.length = n) (hb : c ∉ bs) (hcb : c ≠ b) :
    NewGrid H (L2.upd H' b (.lst (bs.map V.ref ++ [.ref c]))) b (bs ++ [c]) (rows ++ [ns]) (k + 1) n := by
  refine ⟨Same.upd g.same g.nb, g.nb, fun r hr => ?_, ?_, ?_, ?_, by rw [Zo, g.lb]; rfl, by rw [Zo, g.lr]; rfl, fun i r ms e1 e2 => ?_⟩
  . rcases ZF.mp hr with z | z
    . exact g.nr r z
    . rw [ZB.mp z]; exact hn
  . refine Yo.mpr ⟨g.nd, by simp, fun x hx y hy => ?_⟩
    rw [ZB.mp hy]
    rintro rfl
    exact hb hx
  . intro z
    rcases ZF.mp z with z | z
    . exact g.ne z
    . exact hcb (ZB.mp z).symm
  . rw [ze, Zn]; rfl
  . have nb' : ∀ r, r ∈ bs ++ [c] -> r ≠ b := fun r hr => by
      rcases ZF.mp hr with z | z
      . rintro rfl; exact g.ne z
      . rw [ZB.mp z]; exact hcb
    have hr : r ∈ bs ++ [c] := Zi e1;rw [z0 (nb' r hr)]
    by_cases hi : i < bs.length
    . rw [Zg hi] at e1
      rw [Zg (by rw [g.lr, <- g.lb]; exact hi)] at e2;exact g.row i r ms e1 e2
    . have hi' : bs.length <= i := ZC.mp hi
      rw [Zf hi'] at e1;rw [Zf (by rw [g.lr, <- g.lb]; exact hi')] at e2
      have e0 : i - bs.length = 0 := by
        have := (Zc.mp e1).1;simp at this; omega
      rw [e0] at e1;have e0' : i - rows.length = 0 := by rw [g.lr, <- g.lb]; exact e0
      rw [e0'] at e2;simp at e1 e2;subst e1 e2;exact ⟨hc, hl⟩
theorem NewGrid.put {H H' : Hp} {b c : Addr} {bs : List Addr} {rows : List (List Int)} {k n j i : Nat} {ns : List Int} {v : Int} (g : NewGrid H H' b bs rows k n) (hi : bs[i]? = some c) (hr : rows[i]? = some ns) :
    NewGrid H (L2.upd H' c (.lst ((ns.map V.int).set j (.int v)))) b bs (rows.set i (ns.set j v)) k n := by
  have hm : c ∈ bs := Zi hi;have hcb : b ≠ c := by rintro rfl; exact g.ne hm
  refine ⟨Same.upd g.same (g.nr c hm), g.nb, g.nr, g.nd, g.ne, by rw [z0 hcb]; exact g.at', g.lb, by rw [List.length_set]; exact g.lr, fun i' r ms e1 e2 => ?_⟩
  by_cases e : i' = i
  . subst e
    rw [hi] at e1; cases e1;rw [ZV (Zc.mp hr).1] at e2;cases e2;refine ⟨by rw [ze, List.map_set], ?_⟩;rw [List.length_set];exact (g.row _ c ns hi hr).2
  . have hrc : r ≠ c := by
      rintro rfl
      obtain ⟨h1, e1'⟩ := Zc.mp e1;obtain ⟨h2, e2'⟩ := Zc.mp hi;exact e ((Yy g.nd).mp (e1'.trans e2'.symm))
    rw [ZY (Ne.symm e)] at e2;rw [z0 hrc];exact g.row i' r ms e1 e2
theorem NewGrid.trans {H H1 H' : Hp} {b : Addr} {bs : List Addr} {rows : List (List Int)} {k n : Nat} (s : Same H H1) (g : NewGrid H1 H' b bs rows k n) : NewGrid H H' b bs rows k n :=
  ⟨s.trans g.same, s.free g.nb, fun r hr => s.free (g.nr r hr), g.nd, g.ne, g.at', g.lb, g.lr, g.row⟩
def zx (ns : List Int) (k : Nat) : Int := ns.getD k 0
def numA (c : Int) : Int := (c % 2147483647 * 48271 + 11) % 2147483647
def letA (i : Int) : Nat := 97 + (i % 26).toNat
def sk (c : Int) : Str := chr1 (letA (numA c))
def stepsA : List Int := [1, 3, 5, 7, 9, 11, 15, 17, 19, 21, 23, 25]
def ub (c : Int) : Int := stepsA.getD (numA c / 2028 % 12).toNat 0
def vf (c : Int) : Int := 1 + numA c / 24336 % 8
def uf (c : Int) : Int := numA c / 194688 % vf c
def wm (c : Int) (k : Nat) : Str := if numA c / 26 % 3 = 1 then xi (sk c) (k + 1) else xi (sk c) (uf c).toNat ++ chr1 (letA (numA c / 78 % 26 + ub c * k)) ++ xi (sk c) (vf c - 1 - uf c).toNat
def xl (c : Int) (many : Nat) : List Str := (List.range many).map (wm c)
def rz (K : Fg) : Sp := fun vs H Q _ => ∃ (a : Addr) (ns : List Int) (k : Nat), vs = [.ref a, .int k] /\ SqL K H a (ns.map V.int) /\ Q (.int (zx ns k)) H
def ee : Sp := fun vs H Q _ => ∃ (c : Int) (many : Nat), vs = [.int c, .int many] /\ many <= 9 /\ ∀ H' l, Same H H' -> H l = none -> H' l = some (.lst ((xl c many).map V.str)) -> Q (.ref l) H'
theorem xu (c : Int) (n : Nat) : (xl c n).length = n := by rw [xl, Za, ZI]
theorem o7 (c : Int) (n : Nat) : xl c (n + 1) = xl c n ++ [wm c n] := by rw [xl, ZQ, Zn]; rfl
theorem xp (z : Str) (n : Nat) : (xi z n).length = z.length * n := by
  unfold xi Str.length;simp [List.length_flatten, Nat.mul_comm]
theorem vh (y z : Str) : (y ++ z).length = y.length + z.length := by
  show (y.cps ++ z.cps).size = _
  simp [Str.length]
theorem j0 (c : Int) : 0 <= numA c := ZT _ (by decide)
theorem fk {i : Int} (h0 : 0 <= i) (h1 : i < 26) : atI (Str.ofString "abcdefghijklmnopqrstuvwxyz").cps.toList i = some (97 + i.toNat) := by
  have h : ∀ j : Fin 26, (Str.ofString "abcdefghijklmnopqrstuvwxyz").cps.toList[j.val]? = some (97 + j.val) := by decide +kernel
  have := zj (xs := (Str.ofString "abcdefghijklmnopqrstuvwxyz").cps.toList) (j := i.toNat) (v := 97 + i.toNat) (h ⟨i.toNat, by omega⟩)
  rwa [Yl h0] at this
section
variable {P : Program} {w : World} {K : Fg} {mg : Str -> Option Value} {base : Heap}
theorem y7 (B : Bt mg) (D : zt K mg "_law_cell_at" vt ["script", "k"]) : FnAt P w K mg base "_law_cell_at" 1 ["script", "k"] (rz K) := by
  refine FnAt.of D mr (fun vs H Q E h => ?_) (fun f cdv A outer s H vs Q E hr h => ?_)
  . obtain ⟨a, ns, k, rfl, _⟩ := h
    rfl
  . obtain ⟨a, ns, k, rfl, hS, q⟩ := h
    refine ⟨_, (@zu _ _ _ _ _ (@yf _ _ _ _ _ _ _ _ (@ye _ _ _ _ _ _ _ _ ow (pv 1) (zo zz rfl B.len yp (za (pv 0) (@zc _))) (ya _)) (@zk _ _ _ (@zr _ _ _ _ (@z6 _ _ _ _ _ _ _ yo (pv 0) (pv 1) (fun _ _ => rfl)))) (@z5 _)) (@zk _ _ _ (@zr _ _ _ _ (@zb _ _ _ _)))), ?_⟩;rw [show start ["script", "k"] [V.ref a, V.int k] = [some (V.ref a), some (V.int k)] from rfl];simp only [zp, zq, ↓reduceIte];refine ⟨ns.map V.int, .inl hS, ?_⟩;rw [Za];unfold zx at q;refine ite2 (fun h => ?_) (fun h => ?_)
    . have h' : (k : Int) < ns.length := of_decide_eq_true h
      have hlt : k < ns.length := by omega
      have e : ns[k]? = some ns[k] := by simp [hlt]
      have e2 := zj (xs := ns.map V.int) (j := k) (v := V.int ns[k]) (by rw [Ze, e]; rfl);rw [Zk, e] at q;exact ⟨ns.map V.int, hS, _, e2, q⟩
    . have h' : ¬ (k : Int) < ns.length := fun z => h (decide_eq_true z)
      rw [Zk, List.getElem?_eq_none (by omega)] at q;exact q
theorem ud (B : Bt mg) (D : zt K mg "_law_pool" z9 ["cell", "many"]) : FnAt P w K mg base "_law_pool" 1 ["cell", "many"] ee := by
  refine FnAt.of D sc_law_pool (fun vs H Q E h => ?_) (fun f cdv A outer s H vs Q E hr h => ?_)
  . obtain ⟨c, many, rfl, _⟩ := h
    rfl
  . obtain ⟨c, many, rfl, hm, q⟩ := h
    have b10 : PSs (cxOf CX0 P w K mg base ["cell", "many", "letters", "number", "filler", "begin", "step", "size", "place", "front", "back"] "_law_pool" (zf z9) f cdv A outer s H E).nox ((zi z9).drop 10) _ := (@tq _ _ _ _ _ (@zr _ _ _ _ (yn ["k"] ["cell", "many", "letters", "number", "filler", "begin", "step", "size", "place", "front", "back"] rfl (x0 rfl B.range (za (pv 1) (@zc _))) (fun _ => (z7 (i := 0) (show (["k", "cell", "many", "letters", "number", "filler", "begin", "step", "size", "place", "front", "back"] : List Str).Nodup by decide +kernel) rfl (Or.inl rfl))) (fun _ => (@yi _)) (fun _ => (@zg _ _ _ _ _ _ _ _ om (@zg _ _ _ _ _ _ _ _ om (pv 10) (@z6 _ _ _ _ _ _ _ t9 (pv 3) (@zg _ _ _ _ _ _ _ _ z4 (@zg _ _ _ _ _ _ _ _ yt (pv 6) (@zg _ _ _ _ _ _ _ _ v8 (pv 7) (pv 0))) (@zb _ _ _ _)) (fun _ _ => rfl))) (pv 11))) rfl (by decide +kernel) rfl rfl)) rfl rfl);have b9 : PSs (cxOf CX0 P w K mg base ["cell", "many", "letters", "number", "filler", "begin", "step", "size", "place", "front", "back"] "_law_pool" (zf z9) f cdv A outer s H E).nox ((zi z9).drop 9) _ := (@yd _ _ _ _ _ _ (zy (i := 10) sc_law_pool.nd rfl (Or.inr rfl) (@zg _ _ _ _ _ _ _ _ mf (pv 4) (@zg _ _ _ _ _ _ _ _ ue (@zg _ _ _ _ _ _ _ _ ue (pv 7) (@zb _ _ _ _)) (pv 8)))) rfl @b10);have b8 : PSs (cxOf CX0 P w K mg base ["cell", "many", "letters", "number", "filler", "begin", "step", "size", "place", "front", "back"] "_law_pool" (zf z9) f cdv A outer s H E).nox ((zi z9).drop 8) _ := (@yd _ _ _ _ _ _ (zy (i := 9) sc_law_pool.nd rfl (Or.inr rfl) (@zg _ _ _ _ _ _ _ _ mf (pv 4) (pv 8))) rfl @b9);have b7 : PSs (cxOf CX0 P w K mg base ["cell", "many", "letters", "number", "filler", "begin", "step", "size", "place", "front", "back"] "_law_pool" (zf z9) f cdv A outer s H E).nox ((zi z9).drop 7) _ := (@yd _ _ _ _ _ _ (zy (i := 8) sc_law_pool.nd rfl (Or.inl rfl) (@zg _ _ _ _ _ _ _ _ z4 (@zg _ _ _ _ _ _ _ _ yc (pv 3) (@zb _ _ _ _)) (pv 7))) rfl @b8);have b6 : PSs (cxOf CX0 P w K mg base ["cell", "many", "letters", "number", "filler", "begin", "step", "size", "place", "front", "back"] "_law_pool" (zf z9) f cdv A outer s H E).nox ((zi z9).drop 6) _ := (@yd _ _ _ _ _ _ (zy (i := 7) sc_law_pool.nd rfl (Or.inl rfl) (@zg _ _ _ _ _ _ _ _ yt (@zb _ _ _ _) (@zg _ _ _ _ _ _ _ _ z4 (@zg _ _ _ _ _ _ _ _ yc (pv 3) (@zb _ _ _ _)) (@zb _ _ _ _)))) rfl @b7);have b5 : PSs (cxOf CX0 P w K mg base ["cell", "many", "letters", "number", "filler", "begin", "step", "size", "place", "front", "back"] "_law_pool" (zf z9) f cdv A outer s H E).nox ((zi z9).drop 5) _ := (@yd _ _ _ _ _ _ (zy (i := 6) sc_law_pool.nd rfl (Or.inr rfl) (@z6 _ _ _ _ _ _ _ yo (@yb _ _ _ _ (i0 (ns := [1, 3, 5, 7, 9, 11, 15, 17, 19, 21, 23, 25]) rfl)) (@zg _ _ _ _ _ _ _ _ z4 (@zg _ _ _ _ _ _ _ _ yc (pv 3) (@zb _ _ _ _)) (@zb _ _ _ _)) (fun _ _ => rfl))) rfl @b6);have b4 : PSs (cxOf CX0 P w K mg base ["cell", "many", "letters", "number", "filler", "begin", "step", "size", "place", "front", "back"] "_law_pool" (zf z9) f cdv A outer s H E).nox ((zi z9).drop 4) _ := (@yd _ _ _ _ _ _ (zy (i := 5) sc_law_pool.nd rfl (Or.inr rfl) (@zg _ _ _ _ _ _ _ _ z4 (@zg _ _ _ _ _ _ _ _ yc (pv 3) (@zb _ _ _ _)) (@zb _ _ _ _))) rfl @b5);have b3 : PSs (cxOf CX0 P w K mg base ["cell", "many", "letters", "number", "filler", "begin", "step", "size", "place", "front", "back"] "_law_pool" (zf z9) f cdv A outer s H E).nox ((zi z9).drop 3) _ := (@yd _ _ _ _ _ _ (@yf _ _ _ _ _ _ _ _ (@ye _ _ _ _ _ _ _ _ y3 (@zg _ _ _ _ _ _ _ _ z4 (@zg _ _ _ _ _ _ _ _ yc (pv 3) (@zb _ _ _ _)) (@zb _ _ _ _)) (@zb _ _ _ _) (ya _)) (@zk _ _ _ (@zr _ _ _ _ (yn ["k"] ["cell", "many", "letters", "number", "filler", "begin", "step", "size", "place", "front", "back"] rfl (x0 rfl B.range (za (pv 1) (@zc _))) (fun _ => (z7 (i := 0) (show (["k", "cell", "many", "letters", "number", "filler", "begin", "step", "size", "place", "front", "back"] : List Str).Nodup by decide +kernel) rfl (Or.inl rfl))) (fun _ => (@yi _)) (fun _ => (@zg _ _ _ _ _ _ _ _ mf (pv 5) (@zg _ _ _ _ _ _ _ _ yt (pv 0) (@zb _ _ _ _)))) rfl (by decide +kernel) rfl rfl))) (@z5 _)) rfl @b4);have b2 : PSs (cxOf CX0 P w K mg base ["cell", "many", "letters", "number", "filler", "begin", "step", "size", "place", "front", "back"] "_law_pool" (zf z9) f cdv A outer s H E).nox ((zi z9).drop 2) _ := (@yd _ _ _ _ _ _ (zy (i := 4) sc_law_pool.nd rfl (Or.inr rfl) (@z6 _ _ _ _ _ _ _ t9 (pv 2) (@zg _ _ _ _ _ _ _ _ z4 (pv 3) (@zb _ _ _ _)) (fun _ _ => rfl))) rfl @b3);have b1 : PSs (cxOf CX0 P w K mg base ["cell", "many", "letters", "number", "filler", "begin", "step", "size", "place", "front", "back"] "_law_pool" (zf z9) f cdv A outer s H E).nox ((zi z9).drop 1) _ := (@yd _ _ _ _ _ _ (zy (i := 3) sc_law_pool.nd rfl (Or.inl rfl) (@zg _ _ _ _ _ _ _ _ z4 (@zg _ _ _ _ _ _ _ _ yt (@zg _ _ _ _ _ _ _ _ v8 (@zg _ _ _ _ _ _ _ _ z4 (pv 0) (@zb _ _ _ _)) (@zb _ _ _ _)) (@zb _ _ _ _)) (@zb _ _ _ _))) rfl @b2);have b0 : PSs (cxOf CX0 P w K mg base ["cell", "many", "letters", "number", "filler", "begin", "step", "size", "place", "front", "back"] "_law_pool" (zf z9) f cdv A outer s H E).nox ((zi z9).drop 0) _ := (@yd _ _ _ _ _ _ (zy (i := 2) sc_law_pool.nd rfl (Or.inr rfl) (@yh _ _ _ _)) rfl @b1);have b_ := @tu _ _ _ @b0;refine ⟨_, @b_, ?_⟩;rw [show start ["cell", "many", "letters", "number", "filler", "begin", "step", "size", "place", "front", "back"] [V.int c, V.int many] = [some (V.int c), some (V.int many), none, none, none, none, none, none, none, none, none] from rfl];simp only [zp, zq, ↓reduceIte];simp only [show (c % 2147483647 * 48271 + 11) % 2147483647 = numA c from rfl, show numA c % 26 = numA c % 26 from rfl];have hn := j0 c
    have hs1 : 1 <= vf c /\ vf c <= 8 := by
      have h1 := ZT (numA c / 24336) (show (8 : Int) ≠ 0 by decide);have h2 := ZP (numA c / 24336) (show (0 : Int) < 8 by decide);unfold vf;omega
    have hp1 : 0 <= uf c /\ uf c < vf c := ⟨ZT _ (by omega), ZP _ (by omega)⟩;have hl1 := fk (ZT (numA c) (show (26 : Int) ≠ 0 by decide)) (ZP (numA c) (show (0 : Int) < 26 by decide));refine ⟨by decide, ?_, by decide, by decide, by decide, _, hl1, ?_⟩
    . exact .inr ⟨by decide, by decide⟩
    refine ⟨⟨by decide, by decide⟩, by decide, rfl, ite2 (fun h => ?_) (fun h => ?_)⟩
    . have h := of_decide_eq_true h
      refine ⟨by omega, by omega, fun d => ?_⟩;rw [Zw];refine wp (fun i ys H' => H' = H /\ ys = (xl c i).map V.str) ⟨rfl, rfl⟩ ?_ ?_ ?_
      . rintro i ys H' hi ⟨rfl, rfl⟩
        rw [Za, xu];exact Zd (show i <= 9 by omega) (by decide)
      . rintro i ys H' hi ⟨rfl, rfl⟩
        simp only [zp, zq, ↓reduceIte];refine ⟨by omega, by omega, ?_, ?_⟩
        . show 1 * _ <= _
          rw [Nat.one_mul];exact Zd (show ((i : Int) + 1).toNat <= 10 by omega) (by decide)
        . rw [o7, wm, if_pos h, Zn, show ((i : Int) + 1).toNat = i + 1 by omega]
          rfl
      . rintro ys H' ⟨rfl, rfl⟩ l hl
        exact q _ l (Same.upd (Same.refl _) hl) hl ze
    . have h : ¬ _ := fun z => h (decide_eq_true z)
      refine ⟨⟨by decide, by decide⟩, by decide, by decide, fun p hp => ⟨⟨by decide, by decide⟩, by decide, _, .of ze, ?_⟩⟩
      have hst : ∃ st : Int, atI [V.int 1, V.int 3, V.int 5, V.int 7, V.int 9, V.int 11, V.int 15, V.int 17, V.int 19, V.int 21, V.int 23, V.int 25] (numA c / 2028 % 12) = some (V.int st) /\ st = ub c /\ 0 <= st /\ st < 26 := by
        have h1 := ZT (numA c / 2028) (show (12 : Int) ≠ 0 by decide);have h2 := ZP (numA c / 2028) (show (0 : Int) < 12 by decide);unfold ub;generalize numA c / 2028 % 12 = m at h1 h2 ⊢;have h3 : ∀ j : Fin 12, [V.int 1, V.int 3, V.int 5, V.int 7, V.int 9, V.int 11, V.int 15, V.int 17, V.int 19, V.int 21, V.int 23, V.int 25][j.val]? = some (V.int (stepsA.getD j.val 0)) /\ 0 <= stepsA.getD j.val 0 /\ stepsA.getD j.val 0 < 26 := by decide
        have h4 := h3 ⟨m.toNat, by omega⟩;have h5 := zj h4.1;rw [Yl h1] at h5;exact ⟨_, h5, rfl, h4.2⟩
      obtain ⟨st, e1, e2, e3, e4⟩ := hst;subst e2;refine ⟨_, e1, ⟨by decide, by decide⟩, by decide, ⟨by decide, by decide⟩, ?_⟩;simp only [show 1 + numA c / 24336 % 8 = vf c from rfl, show numA c / 194688 % vf c = uf c from rfl, show (⟨#[97 + (numA c % 26).toNat]⟩ : Str) = sk c from rfl];have hf : (sk c).length = 1 := rfl;rw [hf, Nat.one_mul, Nat.one_mul];refine ⟨by omega, by omega, by omega, ?_, by omega, by omega, ?_, by omega, by omega, fun d => ?_⟩
      . exact Zd (show (uf c).toNat <= 8 by omega) (by decide)
      . exact Zd (show (vf c - 1 - uf c).toNat <= 8 by omega) (by decide)
      rw [Zw];have S1 : Same H (upd H p (.lst [V.int 1, V.int 3, V.int 5, V.int 7, V.int 9, V.int 11, V.int 15, V.int 17, V.int 19, V.int 21, V.int 23, V.int 25])) := Same.upd (Same.refl _) hp;generalize upd H p (.lst [V.int 1, V.int 3, V.int 5, V.int 7, V.int 9, V.int 11, V.int 15, V.int 17, V.int 19, V.int 21, V.int 23, V.int 25]) = H1 at *;refine wp (fun i ys H' => H' = H1 /\ ys = (xl c i).map V.str) ⟨rfl, rfl⟩ ?_ ?_ ?_
      . rintro i ys H' hi ⟨rfl, rfl⟩
        rw [Za, xu];exact Zd (show i <= 9 by omega) (by decide)
      . rintro i ys H' hi ⟨rfl, rfl⟩
        simp only [zp, zq, ↓reduceIte];have hb := fk (ZT (numA c / 78 % 26 + ub c * i) (show (26 : Int) ≠ 0 by decide)) (ZP (numA c / 78 % 26 + ub c * i) (show (0 : Int) < 26 by decide));refine ⟨.inl ⟨by omega, by omega⟩, by decide, by decide, _, hb, ?_, ?_, ?_⟩
        . rw [xp, hf]
          exact Zd (show _ <= 20 by show 1 * _ + 1 <= 20; omega) (by decide)
        . rw [vh, xp, xp, hf]
          exact Zd (show _ <= 30 by show 1 * _ + 1 + 1 * _ <= 30; omega) (by decide)
        . rw [o7, wm, if_neg h, Zn]
          rfl
      . rintro ys H' ⟨rfl, rfl⟩ l hl
        exact q _ l (Same.upd S1 (S1.free hl)) (S1.free hl) ze
end
def xw (ns : List Int) : Nat := max 1 (min ns.length 63 - 5)
def nq (ns : List Int) (k : Nat) : Int :=
  if k < xw ns then zx ns (5 + k % xw ns)
  else (zx ns (5 + k % xw ns) % 2147483647 * 48271 + (k / xw ns : Nat) * 7919 + k) % 2147483647 * ((zx ns (5 + k % xw ns) % 2147483647 * 48271 + (k / xw ns : Nat) * 7919 + k) % 2147483647) % 2147483629
def tw (c : Int) : Int :=
  if c % 5 = 2 then c / 5 % 10 ^ 18 - 5 * 10 ^ 17 else if c % 5 = 3 then c / 5 % (2 * 10 ^ 60 - 1) - 10 ^ 60 + 1 else if c % 5 = 4 then 0 else c / 5 % 19 - 9
def ii (K : Fg) : Sp := fun vs H Q _ => ∃ (a : Addr) (ns : List Int) (k : Nat), vs = [.ref a, .int k] /\ SqL K H a (ns.map V.int) /\ Q (.int (nq ns k)) H
def j2 : Sp := fun vs H Q _ => ∃ c : Int, vs = [.int c] /\ Q (.int (tw c)) H
section
variable {P : Program} {w : World} {K : Fg} {mg : Str -> Option Value} {base : Heap}
theorem sy (D : zt K mg "_law_worth" uq ["cell"]) : FnAt P w K mg base "_law_worth" 1 ["cell"] j2 := by
  refine FnAt.of D ko (fun vs H Q E h => ?_) (fun f cdv A outer s H vs Q E hr h => ?_)
  . obtain ⟨c, rfl, _⟩ := h
    rfl
  . obtain ⟨c, rfl, q⟩ := h
    refine ⟨_, (@zu _ _ _ _ _ (@yf _ _ _ _ _ _ _ _ (@ye _ _ _ _ _ _ _ _ y3 (@zg _ _ _ _ _ _ _ _ z4 (pv 0) (@zb _ _ _ _)) (@zb _ _ _ _) (ya _)) (@zk _ _ _ (@zr _ _ _ _ (@zg _ _ _ _ _ _ _ _ ue (@zg _ _ _ _ _ _ _ _ z4 (@zg _ _ _ _ _ _ _ _ yc (pv 0) (@zb _ _ _ _)) (@zg _ _ _ _ _ _ _ _ vc (@zb _ _ _ _) (@zb _ _ _ _))) (@zg _ _ _ _ _ _ _ _ v8 (@zb _ _ _ _) (@zg _ _ _ _ _ _ _ _ vc (@zb _ _ _ _) (@zb _ _ _ _)))))) (@z5 _)) (@zu _ _ _ _ _ (@yf _ _ _ _ _ _ _ _ (@ye _ _ _ _ _ _ _ _ y3 (@zg _ _ _ _ _ _ _ _ z4 (pv 0) (@zb _ _ _ _)) (@zb _ _ _ _) (ya _)) (@zk _ _ _ (@zr _ _ _ _ (@zg _ _ _ _ _ _ _ _ yt (@zg _ _ _ _ _ _ _ _ ue (@zg _ _ _ _ _ _ _ _ z4 (@zg _ _ _ _ _ _ _ _ yc (pv 0) (@zb _ _ _ _)) (@zg _ _ _ _ _ _ _ _ ue (@zg _ _ _ _ _ _ _ _ v8 (@zb _ _ _ _) (@zg _ _ _ _ _ _ _ _ vc (@zb _ _ _ _) (@zb _ _ _ _))) (@zb _ _ _ _))) (@zg _ _ _ _ _ _ _ _ vc (@zb _ _ _ _) (@zb _ _ _ _))) (@zb _ _ _ _)))) (@z5 _)) (@zu _ _ _ _ _ (@yf _ _ _ _ _ _ _ _ (@ye _ _ _ _ _ _ _ _ y3 (@zg _ _ _ _ _ _ _ _ z4 (pv 0) (@zb _ _ _ _)) (@zb _ _ _ _) (ya _)) (@zk _ _ _ (@zr _ _ _ _ (@zb _ _ _ _))) (@z5 _)) (@zk _ _ _ (@zr _ _ _ _ (@zg _ _ _ _ _ _ _ _ ue (@zg _ _ _ _ _ _ _ _ z4 (@zg _ _ _ _ _ _ _ _ yc (pv 0) (@zb _ _ _ _)) (@zb _ _ _ _)) (@zb _ _ _ _))))))), ?_⟩;rw [show start ["cell"] [V.int c] = [some (V.int c)] from rfl];simp only [zp, zq, ↓reduceIte];unfold tw at q;refine ⟨by decide, rfl, ite2 (fun h => ?_) (fun h => ?_)⟩
    . rw [if_pos (of_decide_eq_true h)] at q
      exact ⟨⟨by decide, by decide⟩, ⟨by decide, by decide, by decide⟩, by decide, ⟨by decide, by decide, by decide⟩, .inl ⟨by decide, by decide⟩, q⟩
    . rw [if_neg (fun z => h (decide_eq_true z))] at q
      refine ⟨by decide, rfl, ite2 (fun h => ?_) (fun h => ?_)⟩
      . rw [if_pos (of_decide_eq_true h)] at q
        exact ⟨⟨by decide, by decide⟩, ⟨by decide, by decide, by decide⟩, .inl ⟨by decide, by decide⟩, by decide, ⟨by decide, by decide, by decide⟩, q⟩
      . rw [if_neg (fun z => h (decide_eq_true z))] at q
        refine ⟨by decide, rfl, ite2 (fun h => ?_) (fun h => ?_)⟩
        . rw [if_pos (of_decide_eq_true h)] at q
          exact q
        . rw [if_neg (fun z => h (decide_eq_true z))] at q
          exact ⟨⟨by decide, by decide⟩, by decide, q⟩
theorem ra (B : Bt mg) (y7 : FnAt P w K mg base "_law_cell_at" 1 ["script", "k"] (rz K)) (D : zt K mg "_law_drawn" up ["script", "k"]) : FnAt P w K mg base "_law_drawn" 2 ["script", "k"] (ii K) := by
  refine FnAt.of D sc_law_drawn (fun vs H Q E h => ?_) (fun f cdv A outer s H vs Q E hr h => ?_)
  . obtain ⟨a, ns, k, rfl, _⟩ := h
    rfl
  . obtain ⟨a, ns, k, rfl, hS, q⟩ := h
    refine ⟨_, (@zu _ _ _ _ _ (zy (i := 2) sc_law_drawn.nd rfl (Or.inl rfl) (zo (eg rfl) rfl B.max bt_max (za (@zb _ _ _ _) (za (@zg _ _ _ _ _ _ _ _ ue (zo (em rfl) rfl B.min bt_min (za (zo zz rfl B.len yp (za (pv 0) (@zc _))) (za (@zb _ _ _ _) (@zc _)))) (@zb _ _ _ _)) (@zc _))))) (@zu _ _ _ _ _ (zy (i := 3) sc_law_drawn.nd rfl (Or.inl rfl) (zw y7 (hr.mono (by decide)) rfl (za (pv 0) (za (@zg _ _ _ _ _ _ _ _ yt (@zb _ _ _ _) (@zg _ _ _ _ _ _ _ _ z4 (pv 1) (pv 2))) (@zc _))))) (@zu _ _ _ _ _ (@yf _ _ _ _ _ _ _ _ (@ye _ _ _ _ _ _ _ _ ow (pv 1) (pv 2) (ya _)) (@zk _ _ _ (@zr _ _ _ _ (pv 3))) (@z5 _)) (@zu _ _ _ _ _ (zy (i := 4) sc_law_drawn.nd rfl (Or.inl rfl) (@zg _ _ _ _ _ _ _ _ z4 (@zg _ _ _ _ _ _ _ _ yt (@zg _ _ _ _ _ _ _ _ yt (@zg _ _ _ _ _ _ _ _ v8 (@zg _ _ _ _ _ _ _ _ z4 (pv 3) (@zb _ _ _ _)) (@zb _ _ _ _)) (@zg _ _ _ _ _ _ _ _ v8 (@zg _ _ _ _ _ _ _ _ yc (pv 1) (pv 2)) (@zb _ _ _ _))) (pv 1)) (@zb _ _ _ _))) (@zk _ _ _ (@zr _ _ _ _ (@zg _ _ _ _ _ _ _ _ z4 (@zg _ _ _ _ _ _ _ _ v8 (pv 4) (pv 4)) (@zb _ _ _ _)))))))), ?_⟩;rw [show start ["script", "k", "many", "cell", "number"] [V.ref a, V.int k] = [some (V.ref a), some (V.int k), none, none, none] from rfl];simp only [zp, zq, ↓reduceIte];refine ⟨_, Or.inl hS, ?_⟩;rw [Za]
    have hm : (if (if (63 : Int) < (ns.length : Int) then (63 : Int) else (ns.length : Int)) - 5 > 1 then (if (63 : Int) < (ns.length : Int) then (63 : Int) else (ns.length : Int)) - 5 else 1) = (xw ns : Int) := by
      unfold xw
      by_cases h1 : (63 : Int) < (ns.length : Int)
      . rw [if_pos h1, if_pos (by omega)]
        omega
      . rw [if_neg h1]
        by_cases h2 : (ns.length : Int) - 5 > 1
        . rw [if_pos h2]; omega
        . rw [if_neg h2]; omega
    rw [hm];have hm1 : 1 <= xw ns := by unfold xw; omega
    have hm2 : xw ns <= 58 := by unfold xw; omega
    refine ⟨by omega, a, ns, 5 + k % xw ns, ?_, hS, ?_⟩
    . rw [show (5 : Int) + (k : Int) % (xw ns : Int) = ((5 + k % xw ns : Nat) : Int) by rw [Int.natCast_add, Int.natCast_emod]; rfl]
    unfold nq at q;refine ite2 (fun h => ?_) (fun h => ?_)
    . rw [if_pos (by have := of_decide_eq_true h; omega)] at q
      exact q
    . rw [if_neg (by have : ¬ (k : Int) < (xw ns : Int) := fun z => h (decide_eq_true z); omega)] at q
      refine ⟨_, rfl, by decide, .inr ⟨by decide, by decide⟩, ⟨by omega, by omega⟩, .inr ⟨by decide, by decide⟩, by decide, .inl ?_, by decide, ?_⟩
      . generalize zx ns (5 + k % xw ns) % 2147483647 * 48271 + (k : Int) / (xw ns : Int) * 7919 + (k : Int) = m
        have h1 := ZT m (show (2147483647 : Int) ≠ 0 by decide);have h2 := ZP m (show (0 : Int) < 2147483647 by decide);omega
      . rw [Int.natCast_ediv] at q
        exact q
end
structure HX where
  t : Addr
  w : Addr
  g : Addr
  gs : List Addr
def HX.adr (x : HX) : List Addr := x.t :: x.w :: x.g :: x.gs
structure HD where
  name : Str
  words : List Str
  worths : List (List Int)
structure HandAt (H : Hp) (x : HX) (d : HD) : Prop where
  tup : H x.t = some (.tup [.str d.name, .ref x.w, .ref x.g])
  words : H x.w = some (.lst (d.words.map V.str))
  grid : H x.g = some (.lst (x.gs.map V.ref))
  len : x.gs.length = d.worths.length
  row : ∀ (i : Nat) (r : Addr) (ns : List Int), x.gs[i]? = some r -> d.worths[i]? = some ns -> H r = some (.lst (ns.map V.int))
theorem HandAt.mono {H H' : Hp} {x : HX} {d : HD} (S : Same H H') (h : HandAt H x d) : HandAt H' x d :=
  ⟨S _ _ h.tup, S _ _ h.words, S _ _ h.grid, h.len, fun i r ns e1 e2 => S _ _ (h.row i r ns e1 e2)⟩
def adrs (xs : List HX) : List Addr := (xs.map HX.adr).flatten
structure NewHands (H H' : Hp) (b : Addr) (xs : List HX) (ds : List HD) : Prop where
  same : Same H H'
  nb : H b = none
  at' : H' b = some (.lst (xs.map fun x => V.ref x.t))
  len : xs.length = ds.length
  hand : ∀ (i : Nat) (x : HX) (d : HD), xs[i]? = some x -> ds[i]? = some d -> HandAt H' x d
  new : ∀ y ∈ adrs xs, H y = none
  old : ∀ y ∈ adrs xs, H' y ≠ none
  nd : (adrs xs).Nodup
  ne : b ∉ adrs xs
theorem NewHands.nil {H H' : Hp} {b : Addr} (s : Same H H') (nb : H' b = none) : NewHands H (upd H' b (.lst [])) b [] [] :=
  ⟨Same.upd s (s.free nb), s.free nb, ze, rfl, (fun i x d e => by simp at e), (fun y z => nomatch z), (fun y z => nomatch z), List.nodup_nil, (fun z => nomatch z)⟩
theorem NewHands.more {H H' H2 : Hp} {b : Addr} {xs : List HX} {ds : List HD} (g : NewHands H H' b xs ds) (S : Same H' H2) : NewHands H H2 b xs ds :=
  ⟨g.same.trans S, g.nb, S _ _ g.at', g.len, fun i x d e1 e2 => (g.hand i x d e1 e2).mono S, g.new, fun y hy => by
    cases e : H' y with
    | none => exact absurd e (g.old y hy)
    | some o => rw [S _ _ e]; simp, g.nd, g.ne⟩
theorem NewHands.snoc {H H' : Hp} {b : Addr} {xs : List HX} {ds : List HD} {x : HX} {d : HD} (g : NewHands H H' b xs ds) (h : HandAt H' x d) (hn : ∀ y ∈ x.adr, H y = none) (hx : x.adr.Nodup) (ho : ∀ y ∈ x.adr, y ∉ adrs xs) (hb : b ∉ x.adr) :
    NewHands H (upd H' b (.lst (xs.map (fun x => V.ref x.t) ++ [.ref x.t]))) b (xs ++ [x]) (ds ++ [d]) := by
  have ap : adrs (xs ++ [x]) = adrs xs ++ x.adr := by simp [adrs]
  have keep : ∀ y o, y ≠ b -> H' y = some o -> upd H' b (.lst (xs.map (fun x => V.ref x.t) ++ [.ref x.t])) y = some o := fun y o e q => by rw [z0 e]; exact q
  have hand' : ∀ {z : HX} {e : HD}, HandAt H' z e -> b ∉ z.adr -> HandAt (upd H' b (.lst (xs.map (fun x => V.ref x.t) ++ [.ref x.t]))) z e := fun {z e} q nb => by
    have n : ∀ y ∈ z.adr, y ≠ b := fun y hy e => nb (e ▸ hy)
    exact ⟨keep _ _ (n _ (by simp [HX.adr])) q.tup, keep _ _ (n _ (by simp [HX.adr])) q.words, keep _ _ (n _ (by simp [HX.adr])) q.grid, q.len, fun i r ns e1 e2 => keep _ _ (n _ (by simp [HX.adr, Zi e1])) (q.row i r ns e1 e2)⟩
  refine ⟨Same.upd g.same g.nb, g.nb, by rw [ze]; simp, by simp [g.len], fun i z e e1 e2 => ?_, fun y hy => ?_, fun y hy => ?_, ?_, ?_⟩
  . by_cases hi : i < xs.length
    . rw [Zg hi] at e1
      rw [Zg (by rw [<- g.len]; exact hi)] at e2;refine hand' (g.hand i z e e1 e2) fun q => g.ne ?_
      exact List.mem_flatten.mpr ⟨_, Zp.mpr ⟨z, Zi e1, rfl⟩, q⟩
    . rw [Zf (ZC.mp hi)] at e1
      rw [Zf (by rw [<- g.len]; exact ZC.mp hi)] at e2
      have e0 : i - xs.length = 0 := by
        have := (Zc.mp e1).1;simp at this; omega
      rw [e0] at e1;rw [<- g.len, e0] at e2;simp at e1 e2;subst e1 e2;exact hand' h hb
  . rw [ap] at hy
    rcases ZF.mp hy with z | z
    . exact g.new y z
    . exact hn y z
  . rw [ap] at hy
    have hyb : y ≠ b := fun e => by
      rcases ZF.mp hy with z | z
      . exact g.ne (e ▸ z)
      . exact hb (e ▸ z)
    rw [z0 hyb]
    rcases ZF.mp hy with z | z
    . exact g.old y z
    . rcases ZJ.mp z with e | z
      . rw [e, h.tup]; simp
      rcases ZJ.mp z with e | z
      . rw [e, h.words]; simp
      rcases ZJ.mp z with e | z
      . rw [e, h.grid]; simp
      . obtain ⟨i, hi, rfl⟩ := Zy z
        have e1 : x.gs[i]? = some x.gs[i] := by simp [hi]
        have hi2 : i < d.worths.length := by rw [<- h.len]; exact hi
        have e2 : d.worths[i]? = some d.worths[i] := by simp [hi2]
        rw [h.row i _ _ e1 e2]; simp
  . rw [ap]
    refine Yo.mpr ⟨g.nd, hx, fun y hy z hz e => ?_⟩;exact ho z hz (e ▸ hy)
  . rw [ap]
    intro z
    rcases ZF.mp z with z | z
    . exact g.ne z
    . exact hb z
def yz (ns : List Int) : Nat := (1 + zx ns 1 % 8).toNat
def uv (ns : List Int) : List Str := xl (zx ns 0) (yz ns)
def wg (ns : List Int) : Nat := (1 + zx ns 1 / 8 % 4).toNat
def xr (ns tops : List Int) (j : Nat) : Nat := (1 + zx ns 2 / ([1, 9, 83, 761] : List Int).getD j 0 % tops.getD (zx ns 1 / 8 % 4).toNat 0).toNat
def re (ns : List Int) (j : Nat) : Int := [zx ns 0, zx ns 0 / 5 + j, zx ns 3 + 31 * j].getD (zx ns 1 / 32 % 3).toNat 0
def vo (ns : List Int) : Int := [zx ns 0, zx ns 0 / 7 + 2].getD (zx ns 1 / 96 % 2).toNat 0
def rowA (ns : List Int) (k n : Nat) : List Int := (List.range n).map fun i => tw (nq ns (k + i))
def w5 (ns : List Int) (k n m : Nat) : List (List Int) := (List.range m).map fun r => rowA ns (k + r * n) n
def xh (ns tops : List Int) : Nat -> Nat
  | 0 => 0
  | j + 1 => xh ns tops j + xr ns tops j * yz ns
def ka (ns tops : List Int) (j : Nat) : HD := ⟨wm (vo ns) j, xl (re ns j) (xr ns tops j), w5 ns (xh ns tops j) (yz ns) (xr ns tops j)⟩
def wc (ns tops : List Int) (m : Nat) : List HD := (List.range m).map (ka ns tops)
theorem jw (ns tops : List Int) (m : Nat) : wc ns tops (m + 1) = wc ns tops m ++ [ka ns tops m] := by rw [wc, ZQ, Zn]; rfl
theorem dk (ns : List Int) (k n : Nat) : rowA ns k (n + 1) = rowA ns k n ++ [tw (nq ns (k + n))] := by rw [rowA, ZQ, Zn]; rfl
theorem pz (ns : List Int) (k n : Nat) : (rowA ns k n).length = n := by rw [rowA, Za, ZI]
theorem ge (ns : List Int) (k n m : Nat) : w5 ns k n (m + 1) = w5 ns k n m ++ [rowA ns (k + m * n) n] := by rw [w5, ZQ, Zn]; rfl
theorem ll (ns : List Int) (k n m : Nat) : (w5 ns k n m).length = m := by rw [w5, Za, ZI]
theorem yl (a : Int) {n : Int} (h : 0 < n) : 0 <= a % n /\ a % n < n := ⟨ZT _ (by omega), ZP _ h⟩
theorem t7 (ns : List Int) : 1 <= yz ns /\ yz ns <= 8 := by
  have := yl (zx ns 1) (show (0 : Int) < 8 by decide);unfold yz; omega
theorem se (ns : List Int) : 1 <= wg ns /\ wg ns <= 4 := by
  have := yl (zx ns 1 / 8) (show (0 : Int) < 4 by decide);unfold wg; omega
def Tops (tops : List Int) : Prop := tops.length = 4 /\ ∀ t ∈ tops, 1 <= t /\ t <= 8
theorem Tops.get {tops : List Int} (h : Tops tops) (ns : List Int) : ∃ t, tops[(zx ns 1 / 8 % 4).toNat]? = some t /\ tops.getD (zx ns 1 / 8 % 4).toNat 0 = t /\ 1 <= t /\ t <= 8 := by
  have := yl (zx ns 1 / 8) (show (0 : Int) < 4 by decide);have hl : (zx ns 1 / 8 % 4).toNat < tops.length := by rw [h.1]; omega
  refine ⟨tops[(zx ns 1 / 8 % 4).toNat], by simp [hl], by rw [Zk]; simp [hl], h.2 _ (Zl hl)⟩
theorem uy {ns tops : List Int} (h : Tops tops) (j : Nat) : 1 <= xr ns tops j /\ xr ns tops j <= 8 := by
  obtain ⟨t, _, e, h1, h2⟩ := h.get ns;unfold xr;rw [e];have := yl (zx ns 2 / ([1, 9, 83, 761] : List Int).getD j 0) (show 0 < t by omega);omega
theorem kh {α : Type} {xs : List α} {i : Int} (h0 : 0 <= i) {v : α} (h : xs[i.toNat]? = some v) : atI xs i = some v := by
  have := zj h
  rwa [Yl h0] at this
def i8 (K : Fg) : Sp := fun vs H Q _ => ∃ (a tp : Addr) (ns tops : List Int), vs = [.ref a, .ref tp] /\ SqL K H a (ns.map V.int) /\ SqL K H tp (tops.map V.int) /\ Tops tops /\
  ∀ H1 H2 H3 (o b p : Addr) (xs : List HX), Same H H1 -> H o = none -> H1 o = some (.lst ((uv ns).map V.str)) -> NewHands H1 H2 b xs (wc ns tops (wg ns)) -> H2 p = none -> H3 = upd H2 p (.tup [.ref o, .ref b]) -> Q (.ref p) H3
def PvH (a tp o b : Addr) (ns tops : List Int) (H1 : Hp) (j : Nat) : L2.St -> Hp -> Prop := fun σ H' => ∃ (xs : List HX) (t1 t2 t3 t4 t5 : Option V), NewHands H1 H' b xs (wc ns tops j) /\ σ = [some (V.ref a), some (V.ref tp), some (V.int (zx ns 0)), some (V.int (zx ns 1)), some (V.ref o), some (V.ref b), some (V.int (xh ns tops j)), t1, t2, t3, t4, t5]
def PvG (a tp o b g wl : Addr) (ns tops : List Int) (H5 : Hp) (j : Nat) (m : Nat) : L2.St -> Hp -> Prop := fun σ H' => ∃ (gs : List Addr) (t2 t5 : Option V), NewGrid H5 H' g gs (w5 ns (xh ns tops j) (yz ns) m) m (yz ns) /\ σ = [some (V.ref a), some (V.ref tp), some (V.int (zx ns 0)), some (V.int (zx ns 1)), some (V.ref o), some (V.ref b), some (V.int ((xh ns tops j + m * yz ns : Nat) : Int)), some (V.int j), t2, some (V.ref wl), some (V.ref g), t5]
def PvR (ns : List Int) (H6 : Hp) (k : Nat) (i : Nat) (ys : List V) (H' : Hp) : Prop := H' = H6 /\ ys = (rowA ns k i).map V.int
section
variable {P : Program} {w : World} {K : Fg} {mg : Str -> Option Value} {base : Heap}
theorem ss (B : Bt mg) (y7 : FnAt P w K mg base "_law_cell_at" 1 ["script", "k"] (rz K)) (ud : FnAt P w K mg base "_law_pool" 1 ["cell", "many"] ee) (sy : FnAt P w K mg base "_law_worth" 1 ["cell"] j2) (ra : FnAt P w K mg base "_law_drawn" 2 ["script", "k"] (ii K))
    (D : zt K mg "_law_parts" ur ["script", "tops"]) : FnAt P w K mg base "_law_parts" 3 ["script", "tops"] (i8 K) := by
  refine FnAt.of D sc_law_parts (fun vs H Q E h => ?_) (fun f cdv A outer s H vs Q E hr h => ?_)
  . obtain ⟨a, tp, ns, tops, rfl, _⟩ := h
    rfl
  . obtain ⟨a, tp, ns, tops, rfl, hS, hT, ht, q⟩ := h
    refine ⟨_, (@zu _ _ _ _ _ (zy (i := 2) sc_law_parts.nd rfl (Or.inl rfl) (zw y7 (hr.mono (by decide)) rfl (za (pv 0) (za (@zb _ _ _ _) (@zc _))))) (@zu _ _ _ _ _ (zy (i := 3) sc_law_parts.nd rfl (Or.inl rfl) (zw y7 (hr.mono (by decide)) rfl (za (pv 0) (za (@zb _ _ _ _) (@zc _))))) (@zu _ _ _ _ _ (zy (i := 4) sc_law_parts.nd rfl (Or.inl rfl) (zw ud (hr.mono (by decide)) rfl (za (pv 2) (za (@zg _ _ _ _ _ _ _ _ yt (@zb _ _ _ _) (@zg _ _ _ _ _ _ _ _ z4 (pv 3) (@zb _ _ _ _))) (@zc _))))) (@zu _ _ _ _ _ (zy (i := 5) sc_law_parts.nd rfl (Or.inl rfl) (@yb _ _ _ _ (@zc _))) (@zu _ _ _ _ _ (zy (i := 6) sc_law_parts.nd rfl (Or.inr rfl) (@zb _ _ _ _)) (@zu _ _ _ _ _ (qq PassesOwn.never rfl (x0 rfl B.range (za (@zg _ _ _ _ _ _ _ _ yt (@zb _ _ _ _) (@zg _ _ _ _ _ _ _ _ z4 (@zg _ _ _ _ _ _ _ _ yc (pv 3) (@zb _ _ _ _)) (@zb _ _ _ _))) (@zc _))) (z7 (i := 7) sc_law_parts.nd rfl (Or.inl rfl)) (@zu _ _ _ _ _ (zy (i := 8) sc_law_parts.nd rfl (Or.inl rfl) (@zg _ _ _ _ _ _ _ _ yt (@zb _ _ _ _) (@zg _ _ _ _ _ _ _ _ z4 (@zg _ _ _ _ _ _ _ _ yc (zw y7 (hr.mono (by decide)) rfl (za (pv 0) (za (@zb _ _ _ _) (@zc _)))) (@z6 _ _ _ _ _ _ _ yo (@yb _ _ _ _ (za (@zb _ _ _ _) (za (@zb _ _ _ _) (za (@zb _ _ _ _) (za (@zb _ _ _ _) (@zc _)))))) (pv 7) (fun _ _ => rfl))) (@z6 _ _ _ _ _ _ _ yo (pv 1) (@zg _ _ _ _ _ _ _ _ z4 (@zg _ _ _ _ _ _ _ _ yc (pv 3) (@zb _ _ _ _)) (@zb _ _ _ _)) (fun _ _ => rfl))))) (@zu _ _ _ _ _ (zy (i := 9) sc_law_parts.nd rfl (Or.inl rfl) (zw ud (hr.mono (by decide)) rfl (za (@z6 _ _ _ _ _ _ _ yo (@yb _ _ _ _ (za (pv 2) (za (@zg _ _ _ _ _ _ _ _ yt (@zg _ _ _ _ _ _ _ _ yc (pv 2) (@zb _ _ _ _)) (pv 7)) (za (@zg _ _ _ _ _ _ _ _ yt (zw y7 (hr.mono (by decide)) rfl (za (pv 0) (za (@zb _ _ _ _) (@zc _)))) (@zg _ _ _ _ _ _ _ _ v8 (@zb _ _ _ _) (pv 7))) (@zc _))))) (@zg _ _ _ _ _ _ _ _ z4 (@zg _ _ _ _ _ _ _ _ yc (pv 3) (@zb _ _ _ _)) (@zb _ _ _ _)) (fun _ _ => rfl)) (za (pv 8) (@zc _))))) (@zu _ _ _ _ _ (zy (i := 10) sc_law_parts.nd rfl (Or.inl rfl) (@yb _ _ _ _ (@zc _))) (@zu _ _ _ _ _ (qq PassesOwn.never rfl (@yu _ _ _ _ (pv 9)) (z7 (i := 11) sc_law_parts.nd rfl (Or.inl rfl)) (@zu _ _ _ _ _ (qv (l9 PySem.F.plainAttrs_list PySem.F.slot_list_append PySem.F.type_list_append sh (pv 10) (za (yn ["i"] ["script", "tops", "first", "shape", "outcomes", "hands", "k", "j", "size", "words", "worths", "word"] rfl (x0 rfl B.range (za (zo zz rfl B.len yp (za (pv 4) (@zc _))) (@zc _))) (fun _ => (z7 (i := 0) (show (["i", "script", "tops", "first", "shape", "outcomes", "hands", "k", "j", "size", "words", "worths", "word"] : List Str).Nodup by decide +kernel) rfl (Or.inl rfl))) (fun _ => (@yi _)) (fun _ => (zw sy (hr.mono (by decide)) rfl (za (zw ra (hr.mono (by decide)) rfl (za (pv 1) (za (@zg _ _ _ _ _ _ _ _ yt (pv 7) (pv 0)) (@zc _)))) (@zc _)))) rfl (by decide +kernel) rfl rfl) (@zc _)))) (@zk _ _ _ (zy (i := 6) sc_law_parts.nd rfl (Or.inr rfl) (@zg _ _ _ _ _ _ _ _ yt (pv 6) (zo zz rfl B.len yp (za (pv 4) (@zc _)))))))) (@zk _ _ _ (qv (l9 PySem.F.plainAttrs_list PySem.F.slot_list_append PySem.F.type_list_append sh (pv 5) (@za _ _ _ _ _ (@y9 _ _ _ _ _ (@za _ _ _ _ _ (@z6 _ _ _ _ _ _ _ yo (zw ud (hr.mono (by decide)) rfl (@za _ _ _ _ _ (@z6 _ _ _ _ _ _ _ yo (@yb _ _ _ _ (@za _ _ _ _ _ (pv 2) (@za _ _ _ _ _ (@zg _ _ _ _ _ _ _ _ yt (@zg _ _ _ _ _ _ _ _ yc (pv 2) (@zb _ _ _ _)) (@zb _ _ _ _)) (@zc _) (zh nofun)) (zh nofun))) (@zg _ _ _ _ _ _ _ _ z4 (@zg _ _ _ _ _ _ _ _ yc (pv 3) (@zb _ _ _ _)) (@zb _ _ _ _)) (fun _ _ => rfl)) (@za _ _ _ _ _ (@zb _ _ _ _) (@zc _) (zh nofun)) (zh nofun))) (pv 7) (fun _ _ => rfl)) (@za _ _ _ _ _ (pv 9) (@za _ _ _ _ _ (pv 10) (@zc _) (zh nofun)) (zh nofun)) (zh nofun))) (@zc _) (zh nofun)))))))))) (@zk _ _ _ (@zr _ _ _ _ (@y9 _ _ _ _ _ (za (pv 4) (za (pv 5) (@zc _)))))))))))), ?_⟩;rw [show start ["script", "tops", "first", "shape", "outcomes", "hands", "k", "j", "size", "words", "worths", "word"] [V.ref a, V.ref tp] = [some (V.ref a), some (V.ref tp), none, none, none, none, none, none, none, none, none, none] from rfl];simp only [zp, zq, ↓reduceIte];refine ⟨a, ns, 0, rfl, hS, ?_⟩;simp only [zp, zq, ↓reduceIte];refine ⟨a, ns, 1, rfl, hS, ?_⟩;simp only [zp, zq, ↓reduceIte];refine ⟨by decide, zx ns 0, yz ns, ?_, ?_, fun H1 o S1 ho ho1 => ?_⟩
    . have := yl (zx ns 1) (show (0 : Int) < 8 by decide)
      rw [show ((yz ns : Nat) : Int) = 1 + zx ns 1 % 8 by unfold yz; omega]
    . have := t7 ns; omega
    simp only [zp, zq, ↓reduceIte];refine ⟨by decide, fun b hb => ?_⟩;have hh := yl (zx ns 1 / 8) (show (0 : Int) < 4 by decide);have hN := se ns;have hO := t7 ns;refine ⟨⟨by decide, by decide⟩, by decide, by omega, by omega, ?_⟩;rw [show (1 + zx ns 1 / 8 % 4).toNat = wg ns from rfl];refine mt (PvH a tp o b ns tops H1) ⟨[], _, _, _, _, _, NewHands.nil (Same.refl _) hb, rfl⟩ ?_ ?_
    . rintro j σ H' hj ⟨xs, t1, t2, t3, t4, t5, G, rfl⟩
      simp only [zp, zq, ↓reduceIte];have SA := S1.trans G.same;refine ⟨a, ns, 2, rfl, SA.seq hS, by decide, fun p1 hp1 => ?_⟩;have S2 : Same H' (upd H' p1 (.lst [V.int 1, V.int 9, V.int 83, V.int 761])) := Same.upd (Same.refl _) hp1;have hl2 : upd H' p1 (.lst [V.int 1, V.int 9, V.int 83, V.int 761]) p1 = some (.lst [V.int 1, V.int 9, V.int 83, V.int 761]) := ze;generalize upd H' p1 (.lst [V.int 1, V.int 9, V.int 83, V.int 761]) = H2 at *
      have hdiv : [V.int 1, V.int 9, V.int 83, V.int 761][j]? = some (V.int (([1, 9, 83, 761] : List Int).getD j 0)) /\ 0 < ([1, 9, 83, 761] : List Int).getD j 0 /\ ([1, 9, 83, 761] : List Int).getD j 0 < 1073741824 := by
        have : ∀ k : Fin 4, [V.int 1, V.int 9, V.int 83, V.int 761][k.val]? = some (V.int (([1, 9, 83, 761] : List Int).getD k.val 0)) /\ 0 < ([1, 9, 83, 761] : List Int).getD k.val 0 /\ ([1, 9, 83, 761] : List Int).getD k.val 0 < 1073741824 := by decide
        exact this ⟨j, by omega⟩
      refine ⟨_, .of hl2, _, zj hdiv.1, ?_⟩;simp only [zp, zq, ↓reduceIte];obtain ⟨t, et, et2, ht1, ht2⟩ := ht.get ns;refine ⟨⟨hdiv.2.1, hdiv.2.2⟩, ⟨by decide, by decide⟩, by decide, _, (SA.trans S2).seq hT, _, kh hh.1 (v := V.int t) (by rw [Ze, et]; rfl), ?_⟩;simp only [zp, zq, ↓reduceIte];refine ⟨by omega, ⟨by decide, by decide⟩, a, ns, 3, rfl, (SA.trans S2).seq hS, ?_⟩;simp only [zp, zq, ↓reduceIte];refine ⟨.inl ⟨by decide, by decide⟩, by decide, fun p2 hp2 => ?_⟩;have S3 : Same H2 (upd H2 p2 (.lst [V.int (zx ns 0), V.int (zx ns 0 / 5 + j), V.int (zx ns 3 + 31 * j)])) := Same.upd (Same.refl _) hp2;have hl3 : upd H2 p2 (.lst [V.int (zx ns 0), V.int (zx ns 0 / 5 + j), V.int (zx ns 3 + 31 * j)]) p2 = some (.lst [V.int (zx ns 0), V.int (zx ns 0 / 5 + j), V.int (zx ns 3 + 31 * j)]) := ze;generalize upd H2 p2 (.lst [V.int (zx ns 0), V.int (zx ns 0 / 5 + j), V.int (zx ns 3 + 31 * j)]) = H3 at *;have h32 := yl (zx ns 1 / 32) (show (0 : Int) < 3 by decide)
      have hw3 : [V.int (zx ns 0), V.int (zx ns 0 / 5 + j), V.int (zx ns 3 + 31 * j)][(zx ns 1 / 32 % 3).toNat]? = some (V.int (re ns j)) := by
        unfold re;have : (zx ns 1 / 32 % 3).toNat < 3 := by omega
        generalize (zx ns 1 / 32 % 3).toNat = m at this ⊢
        match m, this with
        | 0, _ => rfl
        | 1, _ => rfl
        | 2, _ => rfl
      refine ⟨⟨by decide, by decide⟩, by decide, _, .of hl3, _, kh h32.1 hw3, re ns j, xr ns tops j, ?_, ?_, fun H4 wl S4 hwl hwl4 => ?_⟩
      . have := yl (zx ns 2 / ([1, 9, 83, 761] : List Int).getD j 0) (show 0 < t by omega)
        rw [show ((xr ns tops j : Nat) : Int) = 1 + zx ns 2 / ([1, 9, 83, 761] : List Int).getD j 0 % t by unfold xr; rw [et2]; omega]
      . have := uy (ns := ns) ht j; omega
      refine ⟨by decide, fun g hg => ?_⟩;have hwN := uy (ns := ns) ht j;have SB := (SA.trans S2).trans (S3.trans S4);have GG := (G.more S2).more (S3.trans S4);have hwg : upd H4 g (.lst []) wl = some (.lst ((xl (re ns j) (xr ns tops j)).map V.str)) := by rw [z0 (y8 hwl4 hg)]; exact hwl4
      refine ⟨_, rfl, ⟨_, .of hwg⟩, ?_⟩;refine oi (K := K) (xs := (xl (re ns j) (xr ns tops j)).map V.str) (PvG a tp o b g wl ns tops H4 j) ⟨[], _, _, NewGrid.nil (Same.refl _) hg, by rw [Nat.zero_mul, Nat.add_zero]⟩ ?_ ?_ ?_
      . rintro m σ H5 hm ⟨gs, t2, t5, NG, rfl⟩
        exact .of (NG.same _ _ hwl4)
      . rintro m x σ H5 hx ⟨gs, t2, t5, NG, rfl⟩
        simp only [zp, zq, ↓reduceIte];have So : Same H1 H5 := (G.same.trans (S2.trans (S3.trans S4))).trans NG.same;have ho5 : H5 o = some (.lst ((uv ns).map V.str)) := So _ _ ho1
        have hm : m < xr ns tops j := by
          have := (Zc.mp hx).1;rw [Za, xu] at this;exact this
        have hol : ((uv ns).map V.str).length = yz ns := by rw [Za, uv, xu]
        refine ⟨.inl ⟨rfl, _, .of NG.at'⟩, _, .inl (.of ho5), ?_⟩;rw [hol, Zw];refine ⟨by omega, by omega, fun d => ?_⟩;refine wp (PvR ns H5 (xh ns tops j + m * yz ns)) ⟨rfl, rfl⟩ ?_ ?_ ?_
        . rintro i ys H6 hi ⟨rfl, rfl⟩
          rw [Za, pz];exact Zd (show i <= 8 by omega) (by decide)
        . rintro i ys H6 hi ⟨rfl, rfl⟩
          simp only [zp, zq, ↓reduceIte];refine ⟨a, ns, xh ns tops j + m * yz ns + i, ?_, (S1.trans So).seq hS, ?_⟩
          . rw [show ((xh ns tops j + m * yz ns : Nat) : Int) + (i : Int) = ((xh ns tops j + m * yz ns + i : Nat) : Int) by omega]
          refine ⟨_, rfl, rfl, ?_⟩;rw [dk, Zn];rfl
        . rintro ys H6 ⟨rfl, rfl⟩ l hl
          have hgl : g ≠ l := y8 NG.at' hl;refine ⟨gs.map V.ref, by rw [z0 hgl]; exact NG.at', ?_, (uv ns).map V.str, .inl ?_, ?_⟩
          . rw [Za, NG.lb]
            exact Zh hm (Zd hwN.2 (by decide))
          . have hog : o ≠ g := fun e => by
              have h1 := (G.same.trans (S2.trans (S3.trans S4))) _ _ ho1;rw [e, hg] at h1; cases h1
            have hol2 : o ≠ l := y8 ho5 hl;exact .of (by rw [z0 hog, z0 hol2]; exact ho5)
          . have NG2 := NG.laid (c := l) (o := .lst ((rowA ns (xh ns tops j + m * yz ns) (yz ns)).map V.int)) hl
            have NG3 := NG2.snoc (c := l) (ns := rowA ns (xh ns tops j + m * yz ns) (yz ns)) (NG.same.free hl) ze (pz ..) (fun z => by
              obtain ⟨k, hk, e⟩ := Zy z;have e1 : gs[k]? = some l := by rw [<- e]; simp [hk]
              have hk2 : k < (w5 ns (xh ns tops j) (yz ns) m).length := by rw [NG.lr, <- NG.lb]; exact hk
              have e2 : (w5 ns (xh ns tops j) (yz ns) m)[k]? = some (w5 ns (xh ns tops j) (yz ns) m)[k] := by simp [hk2]
              have := (NG.row k l _ e1 e2).1
              rw [hl] at this; cases this) (Ne.symm hgl)
            refine ⟨gs ++ [l], t2, some x, ?_, ?_⟩
            . rw [ge]
              exact NG3
            . rw [hol, show ((xh ns tops j + m * yz ns : Nat) : Int) + (yz ns : Int) = ((xh ns tops j + (m + 1) * yz ns : Nat) : Int) by rw [Nat.succ_mul]; omega]
      . rintro σ H5 ⟨gs, t2, t5, NG, rfl⟩
        rw [Za, xu] at NG ⊢;simp only [zp, zq, ↓reduceIte];have S5 := NG.same;have GH := GG.more S5;have hb5 := GH.at';refine ⟨.inl ⟨rfl, _, .of hb5⟩, ⟨by decide, by decide⟩, by decide, fun p3 hp3 => ?_⟩;have S6 : Same H5 (upd H5 p3 (.lst [V.int (zx ns 0), V.int (zx ns 0 / 7 + 2)])) := Same.upd (Same.refl _) hp3;have hl6 : upd H5 p3 (.lst [V.int (zx ns 0), V.int (zx ns 0 / 7 + 2)]) p3 = some (.lst [V.int (zx ns 0), V.int (zx ns 0 / 7 + 2)]) := ze;generalize upd H5 p3 (.lst [V.int (zx ns 0), V.int (zx ns 0 / 7 + 2)]) = H6 at *;have h96 := yl (zx ns 1 / 96) (show (0 : Int) < 2 by decide)
        have hw6 : [V.int (zx ns 0), V.int (zx ns 0 / 7 + 2)][(zx ns 1 / 96 % 2).toNat]? = some (V.int (vo ns)) := by
          unfold vo;have : (zx ns 1 / 96 % 2).toNat < 2 := by omega
          generalize (zx ns 1 / 96 % 2).toNat = m at this ⊢
          match m, this with
          | 0, _ => rfl
          | 1, _ => rfl
        refine ⟨⟨by decide, by decide⟩, by decide, _, .of hl6, _, kh h96.1 hw6, vo ns, 4, rfl, by decide, fun H7 l S7 hl hl7 => ?_⟩;have hj4 : j < 4 := by omega
        refine ⟨_, rfl, _, .of hl7, V.str (wm (vo ns) j), ?_, by decide, fun tt htt => ?_⟩
        . refine zj ?_
          rw [Ze, xl, Ze, List.getElem?_range hj4];rfl
        have S57 := S6.trans S7;have S8 : Same H7 (upd H7 tt (.tup [V.str (wm (vo ns) j), V.ref wl, V.ref g])) := Same.upd (Same.refl _) htt;have htt8 : upd H7 tt (.tup [V.str (wm (vo ns) j), V.ref wl, V.ref g]) tt = some (.tup [V.str (wm (vo ns) j), V.ref wl, V.ref g]) := ze;generalize upd H7 tt (.tup [V.str (wm (vo ns) j), V.ref wl, V.ref g]) = H8 at *;have S58 := S57.trans S8;have G7 := GH.more S57;have G8 := GH.more S58;have hb8 := G8.at';have hd : HandAt H8 ⟨tt, wl, g, gs⟩ (ka ns tops j) := ⟨htt8, S58 _ _ (S5 _ _ hwl4), S58 _ _ NG.at', by rw [NG.lb]; exact (ll ..).symm, fun i r ms e1 e2 => S58 _ _ (NG.row i r ms e1 e2).1⟩
        have h4 : ∀ y ∈ g :: gs, H4 y = none := fun y hy => by
          rcases ZJ.mp hy with e | z
          . rw [e]; exact hg
          . exact NG.nr y z
        have S14 : Same H1 H4 := GG.same;have S13 : Same H1 H3 := G.same.trans (S2.trans S3)
        have h5 : ∀ y ∈ wl :: g :: gs, H5 y ≠ none := fun y hy => by
          rcases ZJ.mp hy with e | z
          . rw [e, S5 _ _ hwl4]; simp
          rcases ZJ.mp z with e | z
          . rw [e, NG.at']; simp
          . obtain ⟨k, hk, e⟩ := Zy z
            have e1 : gs[k]? = some y := by rw [<- e]; simp [hk]
            have hk2 : k < (w5 ns (xh ns tops j) (yz ns) (xr ns tops j)).length := by rw [NG.lr, <- NG.lb]; exact hk
            have e2 : (w5 ns (xh ns tops j) (yz ns) (xr ns tops j))[k]? = some (w5 ns (xh ns tops j) (yz ns) (xr ns tops j))[k] := by simp [hk2]
            rw [(NG.row k y _ e1 e2).1]; simp
        have htt5 : H5 tt = none := S57.free htt;have G3 := (G.more S2).more S3;refine ⟨_, hb8, ?_, ?_⟩
        . rw [Za, G.len, wc, Za, ZI]
          exact Zh hj4 (by decide)
        refine ⟨xs ++ [⟨tt, wl, g, gs⟩], _, _, _, _, _, ?_, rfl⟩;rw [jw];refine G8.snoc hd (fun y hy => ?_) ?_ (fun y hy => ?_) ?_
        . rcases ZJ.mp hy with e | hy
          . rw [e]; exact (S14.trans S5).free htt5
          rcases ZJ.mp hy with e | hy
          . rw [e]; exact S13.free hwl
          . exact S14.free (h4 y hy)
        . refine ZS.mpr ⟨fun z => h5 _ z htt5, ZS.mpr ⟨fun z => ?_, ZS.mpr ⟨NG.ne, NG.nd⟩⟩⟩
          have := h4 _ z;rw [hwl4] at this; cases this
        . intro hz
          rcases ZJ.mp hy with e | hy
          . rw [e] at hz; exact G7.old _ hz htt
          rcases ZJ.mp hy with e | hy
          . rw [e] at hz; exact G3.old _ hz hwl
          . exact GG.old _ hz (h4 y hy)
        . intro hy
          rcases ZJ.mp hy with e | hy
          . have := G7.at'
            rw [e, htt] at this; cases this
          rcases ZJ.mp hy with e | hy
          . have := G3.at'
            rw [e, hwl] at this; cases this
          . have := GG.at'
            rw [h4 _ hy] at this; cases this
    . rintro σ H' ⟨xs, t1, t2, t3, t4, t5, G, rfl⟩
      simp only [zp, zq, ↓reduceIte];exact ⟨by decide, fun p hp => q H1 H' _ o b p xs S1 ho ho1 G hp rfl⟩
end
def y2 (z : Str) : Prop := 1 <= z.length /\ z.length <= 8 /\ ∀ c ∈ z.cps.toList, 97 <= c /\ c <= 122
theorem iv (i : Int) : 97 <= letA i /\ letA i <= 122 := by
  have := yl i (show (0 : Int) < 26 by decide);unfold letA; omega
theorem rq {z : Str} {n c : Nat} (h : c ∈ (xi z n).cps.toList) : c ∈ z.cps.toList := by
  unfold xi at h;simp only [List.toList_toArray, List.mem_flatten] at h;obtain ⟨l, h1, h2⟩ := h;rw [(List.mem_replicate.mp h1).2] at h2;exact h2
theorem pb {y z : Str} {c : Nat} (h : c ∈ (y ++ z).cps.toList) : c ∈ y.cps.toList \/ c ∈ z.cps.toList := by
  have : (y ++ z).cps.toList = y.cps.toList ++ z.cps.toList := by
    show (y.cps ++ z.cps).toList = _
    simp
  rw [this] at h;exact ZF.mp h
theorem jo (c : Int) : 1 <= vf c /\ vf c <= 8 := by
  have := yl (numA c / 24336) (show (0 : Int) < 8 by decide);unfold vf; omega
theorem da (c : Int) : 0 <= uf c /\ uf c < vf c := yl _ (by have := jo c; omega)
theorem si (c : Int) : (sk c).length = 1 := rfl
theorem qg {c : Int} {d : Nat} (h : d ∈ (sk c).cps.toList) : 97 <= d /\ d <= 122 := by
  have : d = letA (numA c) := by simpa [sk, chr1] using h
  rw [this]; exact iv _
theorem nt (c : Int) {k : Nat} (hk : k < 8) : y2 (wm c k) := by
  unfold wm;have hs := jo c;have hp := da c
  by_cases h : numA c / 26 % 3 = 1
  . rw [if_pos h]
    refine ⟨?_, ?_, fun d hd => qg (rq hd)⟩ <;> rw [xp, si] <;> omega
  . rw [if_neg h]
    refine ⟨?_, ?_, fun d hd => ?_⟩
    . rw [vh, vh, xp, xp, si]
      show 1 <= _ + 1 + _
      omega
    . rw [vh, vh, xp, xp, si]
      show _ + 1 + _ <= 8
      omega
    . rcases pb hd with z | z
      . rcases pb z with z | z
        . exact qg (rq z)
        . have : d = letA (numA c / 78 % 26 + ub c * k) := by simpa [chr1] using z
          rw [this]; exact iv _
      . exact qg (rq z)
theorem ar {x y : Str} {n : Nat} {a b : Nat} (f : Str) (h : xi f n ++ chr1 a ++ x = xi f n ++ chr1 b ++ y) : a = b := by
  have h1 : (xi f n ++ chr1 a ++ x).cps.toList = (xi f n ++ chr1 b ++ y).cps.toList := by rw [h]
  have e : ∀ (z : Str) (a : Nat), (xi f n ++ chr1 a ++ z).cps.toList = (xi f n).cps.toList ++ ([a] ++ z.cps.toList) := fun z a => by
    show (((xi f n).cps ++ (chr1 a).cps) ++ z.cps).toList = _
    simp [chr1]
  rw [e, e] at h1;have := List.append_cancel_left h1;simp at this;exact this.1
theorem jt (c : Int) : ub c ∈ stepsA := by
  have := yl (numA c / 2028) (show (0 : Int) < 12 by decide);unfold ub;have hl : (numA c / 2028 % 12).toNat < stepsA.length := by show _ < 12; omega
  rw [Zk, Zb hl];exact Zl hl
theorem cq {c : Int} {b : Int} {i j : Nat} (hi : i < 13) (hj : j < 13) (h : letA (b + ub c * i) = letA (b + ub c * j)) : i = j := by
  have hs := jt c;generalize ub c = st at hs h;have h1 := yl (b + st * i) (show (0 : Int) < 26 by decide);have h2 := yl (b + st * j) (show (0 : Int) < 26 by decide);have h3 : (b + st * i) % 26 = (b + st * j) % 26 := by unfold letA at h; omega
  simp only [stepsA, ZJ, Zx, or_false] at hs
  rcases hs with rfl | rfl | rfl | rfl | rfl | rfl | rfl | rfl | rfl | rfl | rfl | rfl <;> omega
theorem dg (c : Int) {i j : Nat} (hi : i < 13) (hj : j < 13) (h : wm c i = wm c j) : i = j := by
  unfold wm at h
  by_cases q : numA c / 26 % 3 = 1
  . rw [if_pos q, if_pos q] at h
    have := congrArg Str.length h;rw [xp, xp, si] at this;omega
  . rw [if_neg q, if_neg q] at h
    exact cq hi hj (ar _ h)
theorem sv (c : Int) {n : Nat} (hn : n <= 13) : (xl c n).Nodup := by
  unfold xl;refine ZX.mpr ?_;refine List.Pairwise.imp_of_mem ?_ (List.nodup_range (n := n));intro i j hi hj hne e;exact hne (dg c (by have := ZM.mp hi; omega) (by have := ZM.mp hj; omega) e)
theorem ou (c : Int) {n : Nat} (hn : n <= 8) : ∀ z ∈ xl c n, y2 z := fun z hz => by
  obtain ⟨i, hi, rfl⟩ := Zp.mp hz;exact nt c (by have := ZM.mp hi; omega)
theorem dt (c : Int) : -(10 ^ 60) < tw c /\ tw c < 10 ^ 60 := by
  unfold tw;have h1 := yl (c / 5) (show (0 : Int) < 10 ^ 18 by decide);have h2 := yl (c / 5) (show (0 : Int) < 2 * 10 ^ 60 - 1 by decide);have h3 := yl (c / 5) (show (0 : Int) < 19 by decide)
  split
  . omega
  . split
    . omega
    . split
      . exact ⟨by decide, by decide⟩
      . omega
def strT (z : Str) : Tr := .lf (.str z)
def intT (i : Int) : Tr := .lf (.int i)
def rowT (ns : List Int) : Tr := .tp (ns.map intT)
def gh (d : HD) : Tr := .tp [strT d.name, .tp (d.words.map strT), .tp (d.worths.map rowT)]
def fh (outs : List Str) (ds : List HD) : Tr := .tp [.tp (outs.map strT), .tp (ds.map gh)]
structure HandsL (H : Hp) (b : Addr) (xs : List HX) (ds : List HD) : Prop where
  at' : H b = some (.lst (xs.map fun x => V.ref x.t))
  len : xs.length = ds.length
  hand : ∀ (i : Nat) (x : HX) (d : HD), xs[i]? = some x -> ds[i]? = some d -> HandAt H x d
theorem NewHands.lists {H H' : Hp} {b : Addr} {xs : List HX} {ds : List HD} (g : NewHands H H' b xs ds) : HandsL H' b xs ds := ⟨g.at', g.len, g.hand⟩
theorem HandsL.mono {H H' : Hp} {b : Addr} {xs : List HX} {ds : List HD} (S : Same H H') (g : HandsL H b xs ds) : HandsL H' b xs ds := ⟨S _ _ g.at', g.len, fun i x d e1 e2 => (g.hand i x d e1 e2).mono S⟩
theorem ri {K : Fg} {H : Hp} : ∀ (zs : List Str), TrsAt K H (zs.map strT) (zs.map V.str)
  | [] => TrsAt.nil
  | z :: zs => TrsAt.cons (TrAt.lf rfl) (ri zs)
theorem io {K : Fg} {H : Hp} : ∀ (zs : List Int), TrsAt K H (zs.map intT) (zs.map V.int)
  | [] => TrsAt.nil
  | z :: zs => TrsAt.cons (TrAt.lf rfl) (io zs)
theorem mw : ∀ (zs : List Str), vx (zs.map strT) = 0
  | [] => by rw [List.map_nil, vx]
  | z :: zs => by rw [ZU, vx, mw zs, strT, deep]; rfl
theorem gt (zs : List Str) : wv (zs.map strT) = true := ox fun t ht => by
  obtain ⟨z, _, rfl⟩ := Zp.mp ht;rw [strT, vm]
def PvD (K : Fg) (ds : List HD) (H1 : Hp) (i : Nat) (ys : List V) (H' : Hp) : Prop := Same H1 H' /\ ys.length = i /\ TrsAt K H' ((ds.take i).map gh) ys
def PvE (K : Fg) (rows : List (List Int)) (H1 : Hp) (i : Nat) (ys : List V) (H' : Hp) : Prop := Same H1 H' /\ ys.length = i /\ TrsAt K H' ((rows.take i).map rowT) ys
section
variable {P : Program} {w : World} {K : Fg} {mg : Str -> Option Value} {base : Heap}
end
structure GoodHouse (outs : List Str) (ds : List HD) : Prop where
  outs1 : 1 <= outs.length /\ outs.length <= 8
  outsG : ∀ z ∈ outs, y2 z
  outsD : outs.Nodup
  hands : 1 <= ds.length /\ ds.length <= 4
  handsG : ∀ d ∈ ds, y2 d.name
  handsD : (ds.map HD.name).Nodup
  words1 : ∀ d ∈ ds, 1 <= d.words.length /\ d.words.length <= 8
  wordsG : ∀ d ∈ ds, ∀ z ∈ d.words, y2 z
  wordsD : ∀ d ∈ ds, d.words.Nodup
  rows : ∀ d ∈ ds, d.worths.length = d.words.length
  cols : ∀ d ∈ ds, ∀ r ∈ d.worths, r.length = outs.length
  nums : ∀ d ∈ ds, ∀ r ∈ d.worths, ∀ n ∈ r, -(10 ^ 60) < n /\ n < 10 ^ 60
  few : (ds.map fun d => d.words.length).prod <= 256
def j1 (K : Fg) : Sp := fun vs H Q _ => ∃ (o b : Addr) (outs : List Str) (xs : List HX) (ds : List HD), vs = [.ref o, .ref b] /\ H o = some (.lst (outs.map V.str)) /\ HandsL H b xs ds /\ GoodHouse outs ds /\
  ∀ H' p us, Same H H' -> H' p = some (.tup us) -> TrAt K H' (fh outs ds) (.ref p) -> Q (.ref p) H'
theorem xz {ns tops : List Int} {m : Nat} {d : HD} (h : d ∈ wc ns tops m) : ∃ j, j < m /\ d = ka ns tops j := by
  obtain ⟨j, hj, rfl⟩ := Zp.mp h;exact ⟨j, ZM.mp hj, rfl⟩
theorem bj {n t : Nat} : ∀ {l : List Nat}, (∀ x ∈ l, x <= t) -> l.length = n -> l.prod <= t ^ n := by
  induction n with
  | zero => intro l _ hl; rw [List.length_eq_zero_iff.mp hl]; simp
  | succ n ih =>
    intro l h hl
    match l, hl with
    | x :: l, hl =>
      rw [List.prod_cons, Nat.pow_succ, Nat.mul_comm];exact Nat.mul_le_mul (ih (fun y hy => h y (Zv _ hy)) (by simpa using hl)) (h x Zz)
def FewT (tops : List Int) : Prop := ∀ h, h < 4 -> (tops.getD h 0).toNat ^ (h + 1) <= 256
theorem goodA (ns : List Int) {tops : List Int} (ht : Tops tops) (hf : FewT tops) : GoodHouse (uv ns) (wc ns tops (wg ns)) where
  outs1 := by rw [uv, xu]; exact t7 ns
  outsG := ou _ (t7 ns).2
  outsD := sv _ (by have := t7 ns; omega)
  hands := by rw [wc, Za, ZI]; exact se ns
  handsG := fun d hd => by
    obtain ⟨j, hj, rfl⟩ := xz hd;exact nt _ (by have := se ns; omega)
  handsD := by
    have : (wc ns tops (wg ns)).map HD.name = xl (vo ns) (wg ns) := by rw [wc, xl, List.map_map]; rfl
    rw [this];exact sv _ (by have := se ns; omega)
  words1 := fun d hd => by
    obtain ⟨j, hj, rfl⟩ := xz hd
    show 1 <= (xl _ _).length /\ (xl _ _).length <= 8
    rw [xu]; exact uy ht j
  wordsG := fun d hd => by
    obtain ⟨j, hj, rfl⟩ := xz hd;exact ou _ (uy ht j).2
  wordsD := fun d hd => by
    obtain ⟨j, hj, rfl⟩ := xz hd;exact sv _ (by have := uy (ns := ns) ht j; omega)
  rows := fun d hd => by
    obtain ⟨j, hj, rfl⟩ := xz hd
    show (w5 _ _ _ _).length = (xl _ _).length
    rw [ll, xu]
  cols := fun d hd r hr => by
    obtain ⟨j, hj, rfl⟩ := xz hd;obtain ⟨i, _, rfl⟩ := Zp.mp hr;rw [pz, uv, xu]
  nums := fun d hd r hr n hn => by
    obtain ⟨j, hj, rfl⟩ := xz hd;obtain ⟨i, _, rfl⟩ := Zp.mp hr;obtain ⟨k, _, rfl⟩ := Zp.mp hn;exact dt _
  few := by
    obtain ⟨t, e1, e2, h1, h2⟩ := ht.get ns;have hh := yl (zx ns 1 / 8) (show (0 : Int) < 4 by decide);have h3 := hf (zx ns 1 / 8 % 4).toNat (by omega);rw [e2] at h3;refine Zd (bj (n := wg ns) (t := t.toNat) (fun x hx => ?_) (by rw [Za, wc, Za, ZI])) ?_
    . obtain ⟨d, hd, rfl⟩ := Zp.mp hx
      obtain ⟨j, hj, rfl⟩ := xz hd
      show (xl _ _).length <= _
      rw [xu];unfold xr;rw [e2];have := yl (zx ns 2 / ([1, 9, 83, 761] : List Int).getD j 0) (show 0 < t by omega);omega
    . rw [show wg ns = (zx ns 1 / 8 % 4).toNat + 1 by unfold wg; omega]
      exact h3
def u5 (i : Int) : Prop := -(10 ^ 60) < i /\ i < 10 ^ 60
def fu : Sp := fun vs H Q _ => ∃ i : Int, vs = [.int i] /\ Q (.bl true) H
def fw : Sp := fun vs H Q _ => ∃ i : Int, vs = [.int i] /\ u5 i /\ Q (.bl true) H
def qRow : Sp := fun vs H Q _ => ∃ (r : Addr) (ns : List Int) (n : Nat), vs = [.ref r, .int n] /\ H r = some (.lst (ns.map V.int)) /\ ns.length = n /\ n <= 8 /\ (∀ i ∈ ns, u5 i) /\ ∀ H', Same H H' -> Q (.bl true) H'
def gl : Sp := fun vs H Q _ => ∃ z : Str, vs = [.str z] /\ y2 z /\ ∀ H', Same H H' -> Q (.bl true) H'
def kt : Sp := fun vs H Q _ => ∃ (l : Addr) (zs : List Str) (m : Nat), vs = [.ref l, .int m] /\ H l = some (.lst (zs.map V.str)) /\ 1 <= zs.length /\ zs.length <= m /\ m <= 8 /\ (∀ z ∈ zs, y2 z) /\ zs.Nodup /\ ∀ H', Same H H' -> Q (.bl true) H'
def j7 : Sp := fun vs H Q _ => ∃ (g : Addr) (gs : List Addr) (rows : List (List Int)) (h n : Nat), vs = [.ref g, .int h, .int n] /\ H g = some (.lst (gs.map V.ref)) /\ gs.length = h /\ rows.length = h /\ h <= 8 /\ n <= 8 /\ (∀ (i : Nat) (r : Addr) (ns : List Int), gs[i]? = some r -> rows[i]? = some ns -> H r = some (.lst (ns.map V.int))) /\
  (∀ r ∈ rows, r.length = n /\ ∀ i ∈ r, u5 i) /\ ∀ H', Same H H' -> Q (.bl true) H'
structure tj (d : HD) (n : Nat) : Prop where
  name : y2 d.name
  words : 1 <= d.words.length /\ d.words.length <= 8
  wordsG : ∀ z ∈ d.words, y2 z
  wordsD : d.words.Nodup
  rows : d.worths.length = d.words.length
  cols : ∀ r ∈ d.worths, r.length = n /\ ∀ i ∈ r, u5 i
theorem GoodHouse.hand {outs : List Str} {ds : List HD} (g : GoodHouse outs ds) {d : HD} (h : d ∈ ds) : tj d outs.length :=
  ⟨g.handsG d h, g.words1 d h, g.wordsG d h, g.wordsD d h, g.rows d h, fun r hr => ⟨g.cols d h r hr, fun i hi => g.nums d h r hr i hi⟩⟩
def qHand : Sp := fun vs H Q _ => ∃ (x : HX) (d : HD) (n : Nat), vs = [.ref x.t, .int n] /\ HandAt H x d /\ tj d n /\ n <= 8 /\ ∀ H', Same H H' -> Q (.bl true) H'
def tf (f : HX -> HD -> V) : Sp := fun vs H Q _ => ∃ (x : HX) (d : HD), vs = [.ref x.t] /\ HandAt H x d /\ Q (f x d) H
def jj : Sp := fun vs H Q _ => ∃ (b : Addr) (xs : List HX) (ds : List HD), vs = [.ref b] /\ HandsL H b xs ds /\ (∀ d ∈ ds, d.words.length <= 8) /\ ds.length <= 4 /\ Q (.int ((ds.map fun d => d.words.length).prod : Nat)) H
def eo : Sp := fun vs H Q _ => ∃ (o b : Addr) (outs : List Str) (xs : List HX) (ds : List HD), vs = [.ref o, .ref b] /\ H o = some (.lst (outs.map V.str)) /\ HandsL H b xs ds /\ GoodHouse outs ds /\ ∀ H', Same H H' -> Q (.bl true) H'
def gk (K : Fg) : Sp := fun vs H Q _ => ∃ (x : HX) (d : HD), vs = [.ref x.t] /\ HandAt H x d /\ d.worths.length <= 8 /\ ∀ H' p, Same H H' -> TrAt K H' (gh d) (.ref p) -> Q (.ref p) H'
def allT (n : Nat) : List Bool := List.replicate n true
def PvAT (H : Hp) (i : Nat) (ys : List V) (H' : Hp) : Prop := Same H H' /\ ys = (allT i).map V.bl
theorem u1 (n : Nat) : (allT n).map V.bl ++ [V.bl true] = (allT (n + 1)).map V.bl := by
  rw [allT, allT, List.replicate_succ', Zn]; rfl
theorem tz (n : Nat) : (allT n).all id = true := by
  rw [ZK];intro x hx;exact ZL hx
theorem t8 (n : Nat) : ((allT n).map V.bl).length = n := by rw [Za, allT, ZG]
theorem mj {zs : List Str} (hd : zs.Nodup) : ∀ i, i <= zs.length -> seen (fun j => zs.getD j ⟨#[]⟩) i = zs.take i
  | 0, _ => rfl
  | i + 1, h => by
    have ih := mj hd i (by omega);have hi : i < zs.length := by omega
    have e : zs.getD i ⟨#[]⟩ = zs[i] := by simp [Zk, hi]
    show (if zs.getD i ⟨#[]⟩ ∈ seen (fun j => zs.getD j ⟨#[]⟩) i then _ else seen (fun j => zs.getD j ⟨#[]⟩) i ++ [zs.getD i ⟨#[]⟩]) = _
    rw [ih, e, if_neg, Zq]
    . simp [hi]
    . intro hm
      obtain ⟨j, hj, ej⟩ := Zy hm;rw [Zj] at hj;rw [List.getElem_take] at ej;have := (Yy hd).mp ej;omega
theorem bz : kit0 "str" "str" = some true := by decide +kernel
theorem v5 : kit0 "list" "list" = some true := by decide +kernel
theorem qw : kit0 "tuple" "tuple" = some true := by decide +kernel
theorem bp : kit0 "int" "int" = some true := by decide +kernel
theorem a5 : kit0 "int" "bool" = some false := by decide +kernel
theorem af {c : Nat} (h1 : 97 <= c) (h2 : c <= 122) : (!decide ((chr1 c).cps.toList < (Str.ofString "a").cps.toList)) = true /\ (!decide ((Str.ofString "z").cps.toList < (chr1 c).cps.toList)) = true := by
  have ea : (Str.ofString "a").cps.toList = [97] := by decide +kernel
  have ez : (Str.ofString "z").cps.toList = [122] := by decide +kernel
  have ec : (chr1 c).cps.toList = [c] := rfl;rw [ea, ez, ec]
  constructor
  . rw [decide_eq_false]
    . rfl
    . intro z
      rw [Ye] at z
      rcases z with z | ⟨_, z⟩
      . omega
      . exact absurd z (by simp)
  . rw [decide_eq_false]
    . rfl
    . intro z
      rw [Ye] at z
      rcases z with z | ⟨_, z⟩
      . omega
      . exact absurd z (by simp)
def PvNm (H : Hp) (ds : List HD) (i : Nat) (ys : List V) (H' : Hp) : Prop := H' = H /\ ys = ((ds.take i).map HD.name).map V.str
def PvCt (H : Hp) (b : Addr) (ds : List HD) (i : Nat) (σ : L2.St) (H4 : Hp) : Prop := H4 = H /\ ∃ v, σ = [some (.ref b), some (.int (((ds.take i).map fun d => d.words.length).prod : Nat)), v]
section
variable {P : Program} {w : World} {K : Fg} {mg : Str -> Option Value} {base : Heap} {a : Ad}
theorem u6 (B : Bt mg) (D : zt K mg "is_whole" uc ["thing"]) : FnAt P w K mg base "is_whole" 1 ["thing"] fu := by
  refine FnAt.of D pp (fun vs H Q E h => ?_) (fun f cdv A outer s H vs Q E hr h => ?_)
  . obtain ⟨x, rfl, _⟩ := h
    rfl
  . obtain ⟨x, rfl, q⟩ := h
    refine ⟨_, (@zk _ _ _ (@zr _ _ _ _ (@wb _ _ _ _ _ _ _ (zo yk rfl B.isinstance z8 (za (pv 0) (za (xx rfl B.int dq) (@zc _)))) (@vd _ _ _ _ _ (@e7 _ _ _ _ (zo yk rfl B.isinstance z8 (za (pv 0) (za (xx rfl B.bool j9) (@zc _))))))))), ?_⟩;rw [show start ["thing"] [V.int x] = [some (V.int x)] from rfl];simp only [zp, zq, ↓reduceIte];exact ⟨_, .int _, true, bp, iteT ⟨_, .int _, false, a5, q⟩⟩
theorem uk (B : Bt mg) (u6 : FnAt P w K mg base "is_whole" 1 ["thing"] fu) (D : zt K mg "is_bounded" va ["thing"]) : FnAt P w K mg base "is_bounded" 2 ["thing"] fw := by
  refine FnAt.of D qd (fun vs H Q E h => ?_) (fun f cdv A outer s H vs Q E hr h => ?_)
  . obtain ⟨x, rfl, _⟩ := h
    rfl
  . obtain ⟨x, rfl, g, q⟩ := h
    refine ⟨_, (@zk _ _ _ (@zr _ _ _ _ (@wb _ _ _ _ _ _ _ (zw u6 (hr.mono (by decide)) rfl (za (pv 0) (@zc _))) (@vd _ _ _ _ _ (@wy _ _ _ _ _ _ _ _ ow (zo jh rfl B.abs db (za (pv 0) (@zc _))) (@zg _ _ _ _ _ _ _ _ vc (@zb _ _ _ _) (@zb _ _ _ _)) (ya _)))))), ?_⟩;rw [show start ["thing"] [V.int x] = [some (V.int x)] from rfl];simp only [zp, zq, ↓reduceIte];refine ⟨x, rfl, _, rfl, iteT ⟨⟨by decide, by decide, by decide⟩, ?_⟩⟩;rw [decide_eq_true]
    . exact q
    . have h1 := g.1
      have h2 := g.2
      show _ < (10 : Int) ^ 60
      split <;> omega
theorem vy (B : Bt mg) (uk : FnAt P w K mg base "is_bounded" 2 ["thing"] fw) (D : zt K mg "is_grid_row" wu ["thing", "width"]) : FnAt P w K mg base "is_grid_row" 3 ["thing", "width"] qRow := by
  refine FnAt.of D rb (fun vs H Q E h => ?_) (fun f cdv A outer s H vs Q E hr h => ?_)
  . obtain ⟨r, ns, n, rfl, _⟩ := h
    rfl
  . obtain ⟨r, ns, n, rfl, hr1, ln, n8, hg, q⟩ := h
    refine ⟨_, (@zu _ _ _ _ _ (@yf _ _ _ _ _ _ _ _ (PW.pt (@vq _ _ _ _ _ _ _ (@y6 _ _ _ _ (xc (zo yk rfl B.isinstance z8 (za (pv 0) (za (xx rfl B.list wf) (@zc _)))))) (@wq _ _ _ _ (@ye _ _ _ _ _ _ _ _ qy (zo zz rfl B.len yp (za (pv 0) (@zc _))) (pv 1) (ya _))))) (@zk _ _ _ (@zr _ _ _ _ (@xm _ _ _ _))) (@z5 _)) (@zk _ _ _ (@zr _ _ _ _ (zo (xt rfl) rfl B.all vi (za (yn ["worth"] ["thing", "width"] rfl (@yu _ _ _ _ (pv 0)) (fun _ => (z7 (i := 0) (show (["worth", "thing", "width"] : List Str).Nodup by decide +kernel) rfl (Or.inl rfl))) (fun _ => (@yi _)) (fun _ => (zw uk (hr.mono (by decide)) rfl (za (pv 0) (@zc _)))) rfl (by decide +kernel) rfl rfl) (@zc _)))))), ?_⟩;rw [show start ["thing", "width"] [V.ref r, V.int n] = [some (V.ref r), some (V.int n)] from rfl];simp only [zp, zq, ↓reduceIte];refine ⟨_, .lst hr1, true, v5, iteF ⟨_, .inl (.of hr1), rfl, ?_⟩⟩;rw [Za, ln];refine kc rfl ⟨⟨_, .of hr1⟩, fun d => ?_⟩;refine yq (xs := ns.map V.int) (PvAT H) ⟨Same.refl _, rfl⟩ ?_ ?_ ?_
    . rintro i ys H2 hi ⟨S, rfl⟩
      rw [Za] at hi;exact ⟨by rw [t8]; exact Zd hi (Zd (show ns.length <= 8 by omega) (by decide)), S.seq (.of hr1)⟩
    . rintro i x ys H2 hx ⟨S, rfl⟩
      obtain ⟨y, hy, rfl⟩ := xv hx;simp only [zp, zq, ↓reduceIte];exact ⟨y, rfl, hg y (Zi hy), S, u1 i⟩
    . rintro ys H2 ⟨S, rfl⟩ l hl
      refine ⟨_, .of ze, ?_⟩;rw [tz];exact q _ (S.trans (Same.upd (Same.refl _) hl))
theorem wj (B : Bt mg) (D : zt K mg "is_name" u3 ["thing"]) : FnAt P w K mg base "is_name" 1 ["thing"] gl := by
  refine FnAt.of D nu (fun vs H Q E h => ?_) (fun f cdv A outer s H vs Q E hr h => ?_)
  . obtain ⟨x, rfl, _⟩ := h
    rfl
  . obtain ⟨z, rfl, g, q⟩ := h
    refine ⟨_, (@zu _ _ _ _ _ (@yf _ _ _ _ _ _ _ _ (PW.pt (@vq _ _ _ _ _ _ _ (@y6 _ _ _ _ (xc (zo yk rfl B.isinstance z8 (za (pv 0) (za (xx rfl B.str di) (@zc _)))))) (@wq _ _ _ _ (@y6 _ _ _ _ (qa uo uo (@zb _ _ _ _) (zo qm rfl B.len yp (za (pv 0) (@zc _))) (wd rfl B.k_MOST_LETTERS)))))) (@zk _ _ _ (@zr _ _ _ _ (@xm _ _ _ _))) (@z5 _)) (@zk _ _ _ (@zr _ _ _ _ (zo (xt rfl) rfl B.all vi (za (yn ["sign"] ["thing"] rfl (@dv _ _ _ _ (pv 0)) (fun _ => (z7 (i := 0) (show (["sign", "thing"] : List Str).Nodup by decide +kernel) rfl (Or.inl rfl))) (fun _ => (@yi _)) (fun _ => (kq oo oo (@yh _ _ _ _) (pv 0) (@yh _ _ _ _))) rfl (by decide +kernel) rfl rfl) (@zc _)))))), ?_⟩;rw [show start ["thing"] [V.str z] = [some (V.str z)] from rfl];simp only [zp, zq, ↓reduceIte];obtain ⟨g1, g2, g3⟩ := g;refine ⟨_, .str _, true, bz, iteF ?_⟩;refine ⟨Zd g2 (by decide), ite2 (fun _ => ite2 (fun h => ?_) fun _ => ?_) fun h => (h (decide_eq_true (by omega))).elim⟩
    . rw [decide_eq_true (show (z.length : Int) <= 8 by omega)] at h
      cases h
    . intro d
      refine jg (PvAT H) ⟨Same.refl _, rfl⟩ ?_ ?_ ?_
      . rintro i ys H' hi ⟨S, rfl⟩
        rw [t8];exact Zd hi (Zd (show z.cps.size <= 8 from g2) (by decide))
      . rintro i c ys H' hc ⟨S, rfl⟩
        have hm : c ∈ z.cps.toList := by
          obtain ⟨hi, e⟩ := Array.getElem?_eq_some_iff.mp hc;rw [<- e];exact Array.getElem_mem_toList hi
        obtain ⟨o1, o2⟩ := af (g3 c hm).1 (g3 c hm).2;simp only [zp, zq, ↓reduceIte];rw [if_pos o1, o2];exact ⟨S, u1 i⟩
      . rintro ys H' ⟨S, rfl⟩ l hl
        refine ⟨_, .of ze, ?_⟩;rw [tz];exact q _ (S.trans (Same.upd (Same.refl _) hl))
theorem xg (B : Bt mg) (wj : FnAt P w K mg base "is_name" 1 ["thing"] gl) (D : zt K mg "are_names" vp ["thing", "most"]) : FnAt P w K mg base "are_names" 2 ["thing", "most"] kt := by
  refine FnAt.of D qt (fun vs H Q E h => ?_) (fun f cdv A outer s H vs Q E hr h => ?_)
  . obtain ⟨l, zs, m, rfl, _⟩ := h
    rfl
  . obtain ⟨l, zs, m, rfl, hl, g1, g2, g3, gG, gD, q⟩ := h
    refine ⟨_, (@zu _ _ _ _ _ (@yf _ _ _ _ _ _ _ _ (PW.pt (@vq _ _ _ _ _ _ _ (@y6 _ _ _ _ (xc (zo yk rfl B.isinstance z8 (za (pv 0) (za (xx rfl B.list wf) (@zc _)))))) (@wq _ _ _ _ (@y6 _ _ _ _ (qa uo uo (@zb _ _ _ _) (zo zz rfl B.len yp (za (pv 0) (@zc _))) (pv 1)))))) (@zk _ _ _ (@zr _ _ _ _ (@xm _ _ _ _))) (@z5 _)) (@zk _ _ _ (@zr _ _ _ _ (@wb _ _ _ _ _ _ _ (zo (xt rfl) rfl B.all vi (za (yn ["one"] ["thing", "most"] rfl (@yu _ _ _ _ (pv 0)) (fun _ => (z7 (i := 0) (show (["one", "thing", "most"] : List Str).Nodup by decide +kernel) rfl (Or.inl rfl))) (fun _ => (@yi _)) (fun _ => (zw wj (hr.mono (by decide)) rfl (za (pv 0) (@zc _)))) rfl (by decide +kernel) rfl rfl) (@zc _))) (@vd _ _ _ _ _ (@wy _ _ _ _ _ _ _ _ y3 (lj rfl rfl B.len rfl B.set (za (pv 0) (@zc _))) (zo zz rfl B.len yp (za (pv 0) (@zc _))) (ya _))))))), ?_⟩;rw [show start ["thing", "most"] [V.ref l, V.int m] = [some (V.ref l), some (V.int m)] from rfl];simp only [zp, zq, ↓reduceIte];refine ⟨_, .lst hl, true, v5, iteF ⟨_, .inl (.of hl), ?_⟩⟩;rw [Za];refine ite2 (fun _ => ite2 (fun h => ?_) fun _ => ?_) fun h => (h (decide_eq_true (by omega))).elim
    . rw [decide_eq_true (show (zs.length : Int) <= m by omega)] at h
      cases h
    . refine ⟨⟨_, .of hl⟩, fun d => ?_⟩
      refine yq (xs := zs.map V.str) (PvAT H) ⟨Same.refl _, rfl⟩ ?_ ?_ ?_
      . rintro i ys H2 hi ⟨S, rfl⟩
        rw [Za] at hi;exact ⟨by rw [t8]; exact Zd hi (Zd (show zs.length <= 8 by omega) (by decide)), S.seq (.of hl)⟩
      . rintro i x ys H2 hx ⟨S, rfl⟩
        obtain ⟨y, hy, rfl⟩ := xv hx;simp only [zp, zq, ↓reduceIte];exact ⟨y, rfl, gG y (Zi hy), fun H3 S3 => ⟨S.trans S3, u1 i⟩⟩
      . rintro ys H2 ⟨S, rfl⟩ p hp
        have S2 : Same H (upd H2 p (.lst ((allT (zs.map V.str).length).map V.bl))) := S.trans (Same.upd (Same.refl _) hp);refine ⟨_, .of ze, ?_⟩;rw [tz];generalize upd H2 p (.lst ((allT (zs.map V.str).length).map V.bl)) = H3 at *;refine ⟨zs, S2.seq (.of hl), by omega, _, .inl (S2.seq (.of hl)), rfl, ?_⟩;rw [mj gD _ (Zm _), Zt, Za, decide_eq_true rfl];exact q _ S2
theorem ui (B : Bt mg) (vy : FnAt P w K mg base "is_grid_row" 3 ["thing", "width"] qRow) (D : zt K mg "are_worths" w6 ["thing", "height", "width"]) : FnAt P w K mg base "are_worths" 4 ["thing", "height", "width"] j7 := by
  refine FnAt.of D qf (fun vs H Q E h => ?_) (fun f cdv A outer s H vs Q E hr h => ?_)
  . obtain ⟨g, gs, rows, ht, n, rfl, _⟩ := h
    rfl
  . obtain ⟨g, gs, rows, ht, n, rfl, hg, l1, l2, b1, b2, hrow, hG, q⟩ := h
    refine ⟨_, (@zu _ _ _ _ _ (@yf _ _ _ _ _ _ _ _ (PW.pt (@vq _ _ _ _ _ _ _ (@y6 _ _ _ _ (xc (zo yk rfl B.isinstance z8 (za (pv 0) (za (xx rfl B.list wf) (@zc _)))))) (@wq _ _ _ _ (@ye _ _ _ _ _ _ _ _ qy (zo zz rfl B.len yp (za (pv 0) (@zc _))) (pv 1) (ya _))))) (@zk _ _ _ (@zr _ _ _ _ (@xm _ _ _ _))) (@z5 _)) (@zk _ _ _ (@zr _ _ _ _ (zo (xt rfl) rfl B.all vi (za (yn ["row"] ["thing", "height", "width"] rfl (@yu _ _ _ _ (pv 0)) (fun _ => (z7 (i := 0) (show (["row", "thing", "height", "width"] : List Str).Nodup by decide +kernel) rfl (Or.inl rfl))) (fun _ => (@yi _)) (fun _ => (zw vy (hr.mono (by decide)) rfl (za (pv 0) (za (pv 3) (@zc _))))) rfl (by decide +kernel) rfl rfl) (@zc _)))))), ?_⟩;rw [show start ["thing", "height", "width"] [V.ref g, V.int ht, V.int n] = [some (V.ref g), some (V.int ht), some (V.int n)] from rfl];simp only [zp, zq, ↓reduceIte];refine ⟨_, .lst hg, true, v5, iteF ⟨_, .inl (.of hg), rfl, ?_⟩⟩;rw [Za, l1];refine kc rfl ⟨⟨_, .of hg⟩, fun d => ?_⟩;refine yq (xs := gs.map V.ref) (PvAT H) ⟨Same.refl _, rfl⟩ ?_ ?_ ?_
    . rintro i ys H2 hi ⟨S, rfl⟩
      rw [Za] at hi;exact ⟨by rw [t8]; exact Zd hi (Zd (show gs.length <= 8 by omega) (by decide)), S.seq (.of hg)⟩
    . rintro i x ys H2 hx ⟨S, rfl⟩
      obtain ⟨r, hr', rfl⟩ := xv hx;have hi : i < rows.length := by have := (Zc.mp hr').1; omega
      have e2 : rows[i]? = some rows[i] := by simp [hi]
      have hm := hG rows[i] (Zl hi);simp only [zp, zq, ↓reduceIte];exact ⟨r, rows[i], n, rfl, S _ _ (hrow i r rows[i] hr' e2), hm.1, b2, hm.2, fun H3 S3 => ⟨S.trans S3, u1 i⟩⟩
    . rintro ys H2 ⟨S, rfl⟩ l hl
      refine ⟨_, .of ze, ?_⟩;rw [tz];exact q _ (S.trans (Same.upd (Same.refl _) hl))
theorem sj (B : Bt mg) (wj : FnAt P w K mg base "is_name" 1 ["thing"] gl) (xg : FnAt P w K mg base "are_names" 2 ["thing", "most"] kt) (ui : FnAt P w K mg base "are_worths" 4 ["thing", "height", "width"] j7) (D : zt K mg "is_hand" u0 ["thing", "width"]) : FnAt P w K mg base "is_hand" 5 ["thing", "width"] qHand := by
  refine FnAt.of D ng (fun vs H Q E h => ?_) (fun f cdv A outer s H vs Q E hr h => ?_)
  . obtain ⟨x, d, n, rfl, _⟩ := h
    rfl
  . obtain ⟨x, d, n, rfl, hx, g, n8, q⟩ := h
    refine ⟨_, (@zu _ _ _ _ _ (@yf _ _ _ _ _ _ _ _ (PW.pt (@vq _ _ _ _ _ _ _ (@y6 _ _ _ _ (xc (zo yk rfl B.isinstance z8 (za (pv 0) (za (xx rfl B.tuple xb) (@zc _)))))) (@wq _ _ _ _ (@ye _ _ _ _ _ _ _ _ qy (zo zz rfl B.len yp (za (pv 0) (@zc _))) (@zb _ _ _ _) (ya _))))) (@zk _ _ _ (@zr _ _ _ _ (@xm _ _ _ _))) (@z5 _)) (@zk _ _ _ (@zr _ _ _ _ (@wb _ _ _ _ _ _ _ (zw wj (hr.mono (by decide)) rfl (za (@z6 _ _ _ _ _ _ _ yx (pv 0) (@zb _ _ _ _) (fun _ _ => rfl)) (@zc _))) (@wb _ _ _ _ _ _ _ (zw xg (hr.mono (by decide)) rfl (za (@z6 _ _ _ _ _ _ _ yx (pv 0) (@zb _ _ _ _) (fun _ _ => rfl)) (za (wd rfl B.k_MOST_WORDS) (@zc _)))) (@vd _ _ _ _ _ (zw ui (hr.mono (by decide)) rfl (za (@z6 _ _ _ _ _ _ _ yx (pv 0) (@zb _ _ _ _) (fun _ _ => rfl)) (za (zo zz rfl B.len yp (za (@z6 _ _ _ _ _ _ _ yx (pv 0) (@zb _ _ _ _) (fun _ _ => rfl)) (@zc _))) (za (pv 1) (@zc _))))))))))), ?_⟩;rw [show start ["thing", "width"] [V.ref x.t, V.int n] = [some (V.ref x.t), some (V.int n)] from rfl];simp only [zp, zq, ↓reduceIte];refine ⟨_, .tup hx.tup, true, qw, iteF ⟨_, .inr (.of hx.tup), rfl, kc rfl ?_⟩⟩;refine ⟨_, .of hx.tup, _, zj (j := 0) rfl, d.name, rfl, g.name, fun H1 S1 => ?_⟩;have hx1 := hx.mono S1;refine ⟨_, rfl, iteT ⟨_, .of hx1.tup, _, zj (j := 1) rfl, x.w, d.words, 8, rfl, hx1.words, g.words.1, g.words.2, Zm _, g.wordsG, g.wordsD, fun H2 S2 => ?_⟩⟩;have hx2 := hx1.mono S2;refine ⟨_, rfl, iteT ⟨_, .of hx2.tup, _, zj (j := 2) rfl, _, .of hx2.tup, _, zj (j := 1) rfl, x.w, rfl, _, .inl (.of hx2.words), ?_⟩⟩;rw [Za];have hw := g.words.2;have hr2 := g.rows;exact ⟨x.g, x.gs, d.worths, d.words.length, n, rfl, hx2.grid, by rw [hx2.len]; exact hr2, hr2, hw, n8, hx2.row, g.cols, fun H3 S3 => q H3 (S1.trans (S2.trans S3))⟩
theorem w9 (D : zt K mg "name_of" sr ["hand"]) : FnAt P w K mg base "name_of" 1 ["hand"] (tf fun _ d => .str d.name) := by
  refine FnAt.of D gp (fun vs H Q E h => ?_) (fun f cdv A outer s H vs Q E hr h => ?_)
  . obtain ⟨x, d, rfl, _⟩ := h
    rfl
  . obtain ⟨x, d, rfl, hx, q⟩ := h
    refine ⟨_, (@zk _ _ _ (@zr _ _ _ _ (@z6 _ _ _ _ _ _ _ yx (pv 0) (@zb _ _ _ _) (fun _ _ => rfl)))), ?_⟩;rw [show start ["hand"] [V.ref x.t] = [some (V.ref x.t)] from rfl];simp only [zp, zq, ↓reduceIte];exact ⟨_, .of hx.tup, _, zj (j := 0) rfl, q⟩
theorem wa (D : zt K mg "words_of_hand" wz ["hand"]) : FnAt P w K mg base "words_of_hand" 1 ["hand"] (tf fun x _ => .ref x.w) := by
  refine FnAt.of D og (fun vs H Q E h => ?_) (fun f cdv A outer s H vs Q E hr h => ?_)
  . obtain ⟨x, d, rfl, _⟩ := h
    rfl
  . obtain ⟨x, d, rfl, hx, q⟩ := h
    refine ⟨_, (@zk _ _ _ (@zr _ _ _ _ (@z6 _ _ _ _ _ _ _ yx (pv 0) (@zb _ _ _ _) (fun _ _ => rfl)))), ?_⟩;rw [show start ["hand"] [V.ref x.t] = [some (V.ref x.t)] from rfl];simp only [zp, zq, ↓reduceIte];exact ⟨_, .of hx.tup, _, zj (j := 1) rfl, q⟩
theorem v0 (D : zt K mg "worths_of_hand" wn ["hand"]) : FnAt P w K mg base "worths_of_hand" 1 ["hand"] (tf fun x _ => .ref x.g) := by
  refine FnAt.of D qz (fun vs H Q E h => ?_) (fun f cdv A outer s H vs Q E hr h => ?_)
  . obtain ⟨x, d, rfl, _⟩ := h
    rfl
  . obtain ⟨x, d, rfl, hx, q⟩ := h
    refine ⟨_, (@zk _ _ _ (@zr _ _ _ _ (@z6 _ _ _ _ _ _ _ yx (pv 0) (@zb _ _ _ _) (fun _ _ => rfl)))), ?_⟩;rw [show start ["hand"] [V.ref x.t] = [some (V.ref x.t)] from rfl];simp only [zp, zq, ↓reduceIte];exact ⟨_, .of hx.tup, _, zj (j := 2) rfl, q⟩
theorem x9 (B : Bt mg) (wa : FnAt P w K mg base "words_of_hand" 1 ["hand"] (tf fun x _ => .ref x.w)) (D : zt K mg "count_of_rows" w4 ["hands"]) : FnAt P w K mg base "count_of_rows" 2 ["hands"] jj := by
  refine FnAt.of D sc_count_of_rows (fun vs H Q E h => ?_) (fun f cdv A outer s H vs Q E hr h => ?_)
  . obtain ⟨b, xs, ds, rfl, _⟩ := h
    rfl
  . obtain ⟨b, xs, ds, rfl, hh, h8, h4, q⟩ := h
    refine ⟨_, (@zu _ _ _ _ _ (zy (i := 1) sc_count_of_rows.nd rfl (Or.inl rfl) (@zb _ _ _ _)) (@zu _ _ _ _ _ (qq PassesOwn.never rfl (@yu _ _ _ _ (pv 0)) (z7 (i := 2) sc_count_of_rows.nd rfl (Or.inl rfl)) (@zk _ _ _ (zy (i := 1) sc_count_of_rows.nd rfl (Or.inl rfl) (@zg _ _ _ _ _ _ _ _ v8 (pv 1) (zo zz rfl B.len yp (za (zw wa (hr.mono (by decide)) rfl (za (pv 2) (@zc _))) (@zc _))))))) (@zk _ _ _ (@zr _ _ _ _ (pv 1))))), ?_⟩;rw [show start ["hands", "count", "hand"] [V.ref b] = [some (V.ref b), none, none] from rfl];simp only [zp, zq, ↓reduceIte];refine ⟨⟨_, .of hh.at'⟩, ?_⟩;refine oi (xs := xs.map fun x => V.ref x.t) (PvCt H b ds) ⟨rfl, _, rfl⟩ ?_ ?_ ?_
    . rintro i σ H4 hi ⟨rfl, v, rfl⟩
      exact .of hh.at'
    . rintro i x σ H4 hx ⟨rfl, v, rfl⟩
      obtain ⟨y, hy, rfl⟩ := xv hx;have hi : i < ds.length := by have := (Zc.mp hy).1; have := hh.len; omega
      have e2 : ds[i]? = some ds[i] := by simp [hi]
      have hd := hh.hand i y ds[i] hy e2;have hw := h8 ds[i] (Zl hi);simp only [zp, zq, ↓reduceIte];refine ⟨y, ds[i], rfl, hd, ?_⟩;simp only [zp, zq, ↓reduceIte];refine ⟨_, .inl (.of hd.words), ?_⟩;rw [Za];refine ⟨.inr ⟨by omega, by omega⟩, rfl, some (V.ref y.t), ?_⟩;rw [Zq, e2, Zn, List.prod_append];simp only [Option.toList, ZU, List.map_nil, List.prod_cons, List.prod_nil, Nat.mul_one, Int.natCast_mul]
    . rintro σ H4 ⟨rfl, v, rfl⟩
      simp only [zp, zq, ↓reduceIte];rw [Za, hh.len, Zt];exact q
def kx : Sp := fun vs H Q _ => ∃ (b : Addr) (xs : List HX) (ds : List HD), vs = [.ref b] /\ HandsL H b xs ds /\ ds.length <= 4 /\ ∀ l, H l = none -> Q (.ref l) (upd H l (.lst ((ds.map HD.name).map V.str)))
theorem u7 (w9 : FnAt P w K mg base "name_of" 1 ["hand"] (tf fun _ d => .str d.name)) (D : zt K mg "names_of" uh ["hands"]) : FnAt P w K mg base "names_of" 2 ["hands"] kx := by
  refine FnAt.of D pq (fun vs H Q E h => ?_) (fun f cdv A outer s H vs Q E hr h => ?_)
  . obtain ⟨b, xs, ds, rfl, _⟩ := h
    rfl
  . obtain ⟨b, xs, ds, rfl, hh3, g4, q⟩ := h
    refine ⟨_, (@zk _ _ _ (@zr _ _ _ _ (yn ["hand"] ["hands"] rfl (@yu _ _ _ _ (pv 0)) (fun _ => (z7 (i := 0) (show (["hand", "hands"] : List Str).Nodup by decide +kernel) rfl (Or.inl rfl))) (fun _ => (@yi _)) (fun _ => (zw w9 (hr.mono (by decide)) rfl (za (pv 0) (@zc _)))) rfl (by decide +kernel) rfl rfl))), ?_⟩;rw [show start ["hands"] [V.ref b] = [some (V.ref b)] from rfl];simp only [zp, zq, ↓reduceIte];refine ⟨⟨_, .of hh3.at'⟩, fun d2 => ?_⟩;refine yq (xs := xs.map fun x => V.ref x.t) (PvNm H ds) ⟨rfl, rfl⟩ ?_ ?_ ?_
    . rintro i ys H4 hi ⟨rfl, rfl⟩
      refine ⟨?_, .of hh3.at'⟩;rw [Za, Za, Zj];exact Zd (ZA _ _) (Zd g4 (by decide))
    . rintro i x ys H4 hx ⟨rfl, rfl⟩
      obtain ⟨y, hy, rfl⟩ := xv hx;have hi : i < ds.length := by have := (Zc.mp hy).1; have := hh3.len; omega
      have e2 : ds[i]? = some ds[i] := by simp [hi]
      simp only [zp, zq, ↓reduceIte];refine ⟨y, ds[i], rfl, hh3.hand i y ds[i] hy e2, rfl, ?_⟩;rw [Zq, e2, Zn, Zn];rfl
    . rintro ys H4 ⟨rfl, rfl⟩ l hl
      rw [Za, hh3.len, Zt];exact q l hl
theorem vv (B : Bt mg) (xg : FnAt P w K mg base "are_names" 2 ["thing", "most"] kt) (sj : FnAt P w K mg base "is_hand" 5 ["thing", "width"] qHand) (u7 : FnAt P w K mg base "names_of" 2 ["hands"] kx) (x9 : FnAt P w K mg base "count_of_rows" 2 ["hands"] jj)
    (D : zt K mg "makes_house" wt ["outcomes", "hands"]) : FnAt P w K mg base "makes_house" 6 ["outcomes", "hands"] eo := by
  refine FnAt.of D rg (fun vs H Q E h => ?_) (fun f cdv A outer s H vs Q E hr h => ?_)
  . obtain ⟨o, b, outs, xs, ds, rfl, _⟩ := h
    rfl
  . obtain ⟨o, b, outs, xs, ds, rfl, ho, hh, g, q⟩ := h
    refine ⟨_, (@zu _ _ _ _ _ (@yf _ _ _ _ _ _ _ _ (PW.pt (@vq _ _ _ _ _ _ _ (@y6 _ _ _ _ (xc (zw xg (hr.mono (by decide)) rfl (za (pv 0) (za (wd rfl B.k_MOST_OUTCOMES) (@zc _)))))) (@wq _ _ _ _ (@y6 _ _ _ _ (xc (zo yk rfl B.isinstance z8 (za (pv 1) (za (xx rfl B.list wf) (@zc _))))))))) (@zk _ _ _ (@zr _ _ _ _ (@xm _ _ _ _))) (@z5 _)) (@zu _ _ _ _ _ (@yf _ _ _ _ _ _ _ _ (@y6 _ _ _ _ (xc (zo (xt rfl) rfl B.all vi (za (yn ["hand"] ["outcomes", "hands"] rfl (@yu _ _ _ _ (pv 1)) (fun _ => (z7 (i := 0) (show (["hand", "outcomes", "hands"] : List Str).Nodup by decide +kernel) rfl (Or.inl rfl))) (fun _ => (@yi _)) (fun _ => (zw sj (hr.mono (by decide)) rfl (za (pv 0) (za (zo zz rfl B.len yp (za (pv 1) (@zc _))) (@zc _))))) rfl (by decide +kernel) rfl rfl) (@zc _))))) (@zk _ _ _ (@zr _ _ _ _ (@xm _ _ _ _))) (@z5 _)) (@zk _ _ _ (@zr _ _ _ _ (@wb _ _ _ _ _ _ _ (zw xg (hr.mono (by decide)) rfl (za (zw u7 (hr.mono (by decide)) rfl (za (pv 1) (@zc _))) (za (wd rfl B.k_MOST_HANDS) (@zc _)))) (@vd _ _ _ _ _ (@wy _ _ _ _ _ _ _ _ uo (zw x9 (hr.mono (by decide)) rfl (za (pv 1) (@zc _))) (wd rfl B.k_MOST_ROWS) (ya _)))))))), ?_⟩;rw [show start ["outcomes", "hands"] [V.ref o, V.ref b] = [some (V.ref o), some (V.ref b)] from rfl];simp only [zp, zq, ↓reduceIte];have g1 := g.outs1;have g2 := g.hands;refine ⟨o, outs, 8, rfl, ho, g1.1, g1.2, Zm _, g.outsG, g.outsD, fun H1 S1 => ?_⟩;simp only [zp, zq, ↓reduceIte];have hh1 := hh.mono S1;have ho1 := S1 _ _ ho;refine iteF ⟨_, .lst hh1.at', true, v5, iteF ⟨⟨_, .of hh1.at'⟩, fun d => ?_⟩⟩;refine yq (xs := xs.map fun x => V.ref x.t) (PvAT H1) ⟨Same.refl _, rfl⟩ ?_ ?_ ?_
    . rintro i ys H2 hi ⟨S, rfl⟩
      rw [Za, hh.len] at hi;exact ⟨by rw [t8]; exact Zd hi (Zd g2.2 (by decide)), S.seq (.of hh1.at')⟩
    . rintro i x ys H2 hx ⟨S, rfl⟩
      obtain ⟨y, hy, rfl⟩ := xv hx;have hi : i < ds.length := by have := (Zc.mp hy).1; have := hh.len; omega
      have e2 : ds[i]? = some ds[i] := by simp [hi]
      simp only [zp, zq, ↓reduceIte];refine ⟨_, .inl (S.seq (.of ho1)), ?_⟩;rw [Za];exact ⟨y, ds[i], outs.length, rfl, (hh1.hand i y ds[i] hy e2).mono S, g.hand (Zl hi), g1.2, fun H3 S3 => ⟨S.trans S3, u1 i⟩⟩
    . rintro ys H2 ⟨S, rfl⟩ p hp
      have S2 : Same H1 (upd H2 p (.lst ((allT (xs.map fun x => V.ref x.t).length).map V.bl))) := S.trans (Same.upd (Same.refl _) hp);refine ⟨_, .of ze, ?_⟩;rw [tz];generalize upd H2 p (.lst ((allT (xs.map fun x => V.ref x.t).length).map V.bl)) = H3 at *;have hh3 := hh1.mono S2;refine iteF ⟨b, xs, ds, rfl, hh3, g2.2, fun l hl => ?_⟩;have S5 : Same H3 (upd H3 l (.lst ((ds.map HD.name).map V.str))) := Same.upd (Same.refl _) hl;refine ⟨l, ds.map HD.name, 4, rfl, ze, by rw [Za]; exact g2.1, by rw [Za]; exact g2.2, by decide, fun z hz => ?_, g.handsD, fun H6 S6 => ?_⟩
      . obtain ⟨d, hd, rfl⟩ := Zp.mp hz
        exact g.handsG d hd
      . generalize upd H3 l (.lst ((ds.map HD.name).map V.str)) = H5 at *
        have S36 := S5.trans S6;have few := g.few;refine ⟨_, rfl, iteT ⟨b, xs, ds, rfl, hh3.mono S36, fun d hd => (g.words1 d hd).2, g2.2, _, rfl, ?_⟩⟩;rw [decide_eq_true (by omega)];exact q _ (S1.trans (S2.trans S36))
theorem vg (B : Bt mg) (w9 : FnAt P w K mg base "name_of" 1 ["hand"] (tf fun _ d => .str d.name)) (wa : FnAt P w K mg base "words_of_hand" 1 ["hand"] (tf fun x _ => .ref x.w)) (v0 : FnAt P w K mg base "worths_of_hand" 1 ["hand"] (tf fun x _ => .ref x.g))
    (D : zt K mg "kept_hand" ut ["hand"]) : FnAt P w K mg base "kept_hand" 2 ["hand"] (gk K) := by
  refine FnAt.of D sc_kept_hand (fun vs H Q E h => ?_) (fun f cdv A outer s H vs Q E hr h => ?_)
  . obtain ⟨x, d, rfl, _⟩ := h
    rfl
  . obtain ⟨x, d, rfl, hx, h8, q⟩ := h
    refine ⟨_, (@zu _ _ _ _ _ (zy (i := 1) sc_kept_hand.nd rfl (Or.inl rfl) (y4 xj rfl B.tuple xb (za (yn ["row"] ["hand", "worths"] rfl (@yu _ _ _ _ (zw v0 (hr.mono (by decide)) rfl (za (pv 0) (@zc _)))) (fun _ => (z7 (i := 0) (show (["row", "hand", "worths"] : List Str).Nodup by decide +kernel) rfl (Or.inl rfl))) (fun _ => (@yi _)) (fun _ => (y4 xj rfl B.tuple xb (za (pv 0) (@zc _)))) rfl (by decide +kernel) rfl rfl) (@zc _)))) (@zk _ _ _ (@zr _ _ _ _ (@y9 _ _ _ _ _ (za (zw w9 (hr.mono (by decide)) rfl (za (pv 0) (@zc _))) (za (y4 xj rfl B.tuple xb (za (zw wa (hr.mono (by decide)) rfl (za (pv 0) (@zc _))) (@zc _))) (za (pv 1) (@zc _)))))))), ?_⟩;rw [show start ["hand", "worths"] [V.ref x.t] = [some (V.ref x.t), none] from rfl];simp only [zp, zq, ↓reduceIte];refine ⟨x, d, rfl, hx, ?_⟩;simp only [zp, zq, ↓reduceIte];refine ⟨⟨_, .of hx.grid⟩, fun dd => ?_⟩;refine yq (xs := x.gs.map V.ref) (PvE K d.worths H) ⟨Same.refl _, rfl, TrsAt.nil⟩ ?_ ?_ ?_
    . rintro i ys H2 hi ⟨S, ly, _⟩
      rw [Za, hx.len] at hi;exact ⟨by rw [ly]; exact Zd hi (Zd h8 (by decide)), S.seq (.of hx.grid)⟩
    . rintro i y ys H2 hy ⟨S, ly, ty⟩
      obtain ⟨r, hr', rfl⟩ := xv hy;have hi : i < d.worths.length := by have := (Zc.mp hr').1; have := hx.len; omega
      have e2 : d.worths[i]? = some d.worths[i] := by simp [hi]
      simp only [zp, zq, ↓reduceIte];refine ⟨_, S.seq (.of (hx.row i r _ hr' e2)), fun l hl => ?_⟩;have S3 : Same H2 (upd H2 l (.tup ((d.worths[i]).map V.int))) := Same.upd (Same.refl _) hl;refine ⟨S.trans S3, by simp [ly], ?_⟩;rw [Zq, e2, Zn];exact TrsAt.append (TrsAt.mono S3 ty) (TrsAt.cons (TrAt.tp (.of ze) (io _)) TrsAt.nil)
    . rintro ys H2 ⟨S, ly, ty⟩ l hl
      rw [Za, hx.len, Zt] at ty;have S3 : Same H2 (upd H2 l (.lst ys)) := Same.upd (Same.refl _) hl;refine ⟨_, .of ze, fun l1 hl1 => ?_⟩;generalize upd H2 l (.lst ys) = H3 at *;have S4 : Same H3 (upd H3 l1 (.tup ys)) := Same.upd (Same.refl _) hl1;have h4 : upd H3 l1 (.tup ys) l1 = some (.tup ys) := ze;generalize upd H3 l1 (.tup ys) = H4 at *;have S24 := S.trans (S3.trans S4);refine ⟨x, d, rfl, hx.mono S24, x, d, rfl, hx.mono S24, x.w, rfl, _, .of (hx.mono S24).words, fun l2 hl2 => ⟨by decide, fun p hp => ?_⟩⟩;have S5 : Same H4 (upd H4 l2 (.tup (d.words.map V.str))) := Same.upd (Same.refl _) hl2;have h5 : upd H4 l2 (.tup (d.words.map V.str)) l2 = some (.tup (d.words.map V.str)) := ze;generalize upd H4 l2 (.tup (d.words.map V.str)) = H5 at *;have S6 : Same H5 (upd H5 p (.tup [V.str d.name, V.ref l2, V.ref l1])) := Same.upd (Same.refl _) hp;refine q _ p (S24.trans (S5.trans S6)) (TrAt.tp (.of ze) (TrsAt.cons (TrAt.lf rfl) (TrsAt.cons (TrAt.tp (.of (S6 _ _ h5)) (ri _)) (TrsAt.cons (TrAt.tp (.of ((S5.trans S6) _ _ h4)) (TrsAt.mono (S3.trans (S4.trans (S5.trans S6))) ty)) TrsAt.nil))))
theorem ot (B : Bt mg) (C : Ct K mg a) (vv : FnAt P w K mg base "makes_house" 6 ["outcomes", "hands"] eo) (vg : FnAt P w K mg base "kept_hand" 2 ["hand"] (gk K)) (D : zt K mg "house_of" ua ["outcomes", "hands"]) : FnAtX P w K mg base "house_of" 7 ["outcomes", "hands"] (j1 K) := by
  refine FnAtX.of D q8 (fun vs H Q E h => ?_) (fun f cdv A outer s H vs Q E hr h => ?_)
  . obtain ⟨o, b, outs, xs, ds, rfl, _⟩ := h
    rfl
  . obtain ⟨o, b, outs, xs, ds, rfl, ho, hh, g, q⟩ := h
    refine ⟨_, (@zu _ _ _ _ _ (@yf _ _ _ _ _ _ _ _ (@y6 _ _ _ _ (xc (zw vv (hr.mono (by decide)) rfl (za (pv 0) (za (pv 1) (@zc _)))))) (@zk _ _ _ (jr rfl C.q_NoHouse.toErr rfl C.m_NoHouse (pj rfl) (za (@yh _ _ _ _) (@zc _)))) (@z5 _)) (@zk _ _ _ (PS.nox (@zr _ _ _ _ (@y9 _ _ _ _ _ (za (y4 xj rfl B.tuple xb (za (pv 0) (@zc _))) (za (y4 xj rfl B.tuple xb (za (yn ["hand"] ["outcomes", "hands"] rfl (@yu _ _ _ _ (pv 1)) (fun _ => (z7 (i := 0) (show (["hand", "outcomes", "hands"] : List Str).Nodup by decide +kernel) rfl (Or.inl rfl))) (fun _ => (@yi _)) (fun _ => (zw vg (hr.mono (by decide)) rfl (za (pv 0) (@zc _)))) rfl (by decide +kernel) rfl rfl) (@zc _))) (@zc _)))))))), ?_⟩;rw [show start ["outcomes", "hands"] [V.ref o, V.ref b] = [some (V.ref o), some (V.ref b)] from rfl];simp only [zp, zq, ↓reduceIte];have g2 := g.hands;refine ⟨o, b, outs, xs, ds, rfl, ho, hh, g, fun H1 S1 => ?_⟩;simp only [zp, zq, ↓reduceIte];have hh1 := hh.mono S1;have ho1 := S1 _ _ ho;refine iteF ⟨_, .of ho1, fun l hl => ?_⟩;have S2 : Same H1 (upd H1 l (.tup (outs.map V.str))) := Same.upd (Same.refl _) hl;have h2 : upd H1 l (.tup (outs.map V.str)) l = some (.tup (outs.map V.str)) := ze;generalize upd H1 l (.tup (outs.map V.str)) = H2 at *;have hh2 := hh1.mono S2;refine ⟨⟨_, .of hh2.at'⟩, fun d => ?_⟩;refine yq (xs := xs.map fun x => V.ref x.t) (PvD K ds H2) ⟨Same.refl _, rfl, TrsAt.nil⟩ ?_ ?_ ?_
    . rintro i ys H3 hi ⟨S, ly, _⟩
      rw [Za, hh.len] at hi;exact ⟨by rw [ly]; exact Zd hi (Zd g2.2 (by decide)), S.seq (.of hh2.at')⟩
    . rintro i y ys H3 hy ⟨S, ly, ty⟩
      obtain ⟨x, hx, rfl⟩ := xv hy;have hi : i < ds.length := by have := (Zc.mp hx).1; have := hh.len; omega
      have e2 : ds[i]? = some ds[i] := by simp [hi]
      have hm := Zl hi;have r8 : (ds[i]).worths.length <= 8 := by rw [g.rows _ hm]; exact (g.words1 _ hm).2
      simp only [zp, zq, ↓reduceIte];refine ⟨x, ds[i], rfl, (hh2.hand i x ds[i] hx e2).mono S, r8, fun H4 p S4 tp => ?_⟩;refine ⟨S.trans S4, by simp [ly], ?_⟩;rw [Zq, e2, Zn];exact TrsAt.append (TrsAt.mono S4 ty) (TrsAt.cons tp TrsAt.nil)
    . rintro ys H3 ⟨S, ly, ty⟩ l1 hl1
      rw [Za, hh.len, Zt] at ty;have S4 : Same H3 (upd H3 l1 (.lst ys)) := Same.upd (Same.refl _) hl1;refine ⟨_, .of ze, fun l2 hl2 => ⟨by decide, fun p hp => ?_⟩⟩;generalize upd H3 l1 (.lst ys) = H4 at *;have S5 : Same H4 (upd H4 l2 (.tup ys)) := Same.upd (Same.refl _) hl2;have h5 : upd H4 l2 (.tup ys) l2 = some (.tup ys) := ze;generalize upd H4 l2 (.tup ys) = H5 at *;have S6 : Same H5 (upd H5 p (.tup [V.ref l, V.ref l2])) := Same.upd (Same.refl _) hp;have S36 := S4.trans (S5.trans S6);exact q _ p _ (S1.trans (S2.trans (S.trans S36))) ze (TrAt.tp (.of ze) (TrsAt.cons (TrAt.tp (.of ((S.trans S36) _ _ h2)) (ri _)) (TrsAt.cons (TrAt.tp (.of (S6 _ _ h5)) (TrsAt.mono S36 ty)) TrsAt.nil)))
end
def so (c : Nat) : Bool := decide (97 <= c) && decide (c <= 122)
def v7 (z : Str) : Bool := z.cps.toList.all so && (decide (1 <= z.length) && decide (z.length <= 8))
def xa : V -> Bool
  | .str z => v7 z
  | _ => false
def isS : V -> Bool
  | .str _ => true
  | _ => false
def isI : V -> Bool
  | .int _ => true
  | .bl _ => true
  | _ => false
def isB : V -> Bool
  | .bl _ => true
  | _ => false
def wholeV : V -> Bool
  | .int _ => true
  | _ => false
def vj : V -> Bool
  | .int i => decide ((if i < 0 then -i else i) < (10 : Int) ^ 60)
  | _ => false
theorem nameB_iff {z : Str} : v7 z = true ↔ y2 z := by
  unfold v7 y2 so;rw [Bool.and_eq_true, Bool.and_eq_true, ZK, decide_eq_true_iff, decide_eq_true_iff]
  constructor
  . rintro ⟨h1, h2, h3⟩
    refine ⟨h2, h3, fun c hc => ?_⟩;have := h1 c hc;rw [Bool.and_eq_true, decide_eq_true_iff, decide_eq_true_iff] at this;exact this
  . rintro ⟨h2, h3, h1⟩
    refine ⟨fun c hc => ?_, h2, h3⟩;rw [Bool.and_eq_true, decide_eq_true_iff, decide_eq_true_iff];exact h1 c hc
theorem boundV_iff {i : Int} : vj (.int i) = true ↔ u5 i := by
  show decide _ = true ↔ _
  rw [decide_eq_true_iff];unfold u5;have e : (10 : Int) ^ 60 = 10 ^ 60 := rfl;generalize (10 : Int) ^ 60 = T at *
  split <;> omega
theorem kitS : kit0 "str" "str" = some true /\ kit0 "NoneType" "str" = some false /\ kit0 "bool" "str" = some false /\ kit0 "int" "str" = some false /\ kit0 "list" "str" = some false /\ kit0 "tuple" "str" = some false /\ kit0 "dict" "str" = some false := by decide +kernel
theorem kitI : kit0 "str" "int" = some false /\ kit0 "NoneType" "int" = some false /\ kit0 "bool" "int" = some true /\ kit0 "int" "int" = some true /\ kit0 "list" "int" = some false /\ kit0 "tuple" "int" = some false /\ kit0 "dict" "int" = some false := by decide +kernel
theorem kitB : kit0 "str" "bool" = some false /\ kit0 "NoneType" "bool" = some false /\ kit0 "bool" "bool" = some true /\ kit0 "int" "bool" = some false /\ kit0 "list" "bool" = some false /\ kit0 "tuple" "bool" = some false /\ kit0 "dict" "bool" = some false := by decide +kernel
theorem kitL : kit0 "str" "list" = some false /\ kit0 "NoneType" "list" = some false /\ kit0 "bool" "list" = some false /\ kit0 "int" "list" = some false /\ kit0 "list" "list" = some true /\ kit0 "tuple" "list" = some false /\ kit0 "dict" "list" = some false := by decide +kernel
theorem kitT : kit0 "str" "tuple" = some false /\ kit0 "NoneType" "tuple" = some false /\ kit0 "bool" "tuple" = some false /\ kit0 "int" "tuple" = some false /\ kit0 "list" "tuple" = some false /\ kit0 "tuple" "tuple" = some true /\ kit0 "dict" "tuple" = some false := by decide +kernel
inductive Thing (H : Hp) : V -> Prop where
  | str (z : Str) (h : z.length <= 1000) : Thing H (.str z)
  | non : Thing H .non
  | bl (b : Bool) : Thing H (.bl b)
  | int (i : Int) : Thing H (.int i)
  | lst {p : Addr} {xs : List V} (h : H p = some (.lst xs)) : Thing H (.ref p)
  | tup {p : Addr} {xs : List V} (h : H p = some (.tup xs)) : Thing H (.ref p)
  | dic {p : Addr} {kvs : List (Key × V)} (h : H p = some (.dK kvs)) : Thing H (.ref p)
theorem Thing.mono {H H' : Hp} {v : V} (S : Same H H') (h : Thing H v) : Thing H' v := by
  cases h with
  | str z h => exact .str z h
  | non => exact .non
  | bl b => exact .bl b
  | int i => exact .int i
  | lst h => exact .lst (S _ _ h)
  | tup h => exact .tup (S _ _ h)
  | dic h => exact .dic (S _ _ h)
theorem Thing.ty {K : Fg} {H : Hp} {v : V} (h : Thing H v) : ∃ T, TyOf K H v (.type T) /\ kit0 T "str" = some (isS v) /\ kit0 T "int" = some (isI v) /\ kit0 T "bool" = some (isB v) := by
  obtain ⟨s1, s2, s3, s4, s5, s6, s7⟩ := kitS;obtain ⟨i1, i2, i3, i4, i5, i6, i7⟩ := kitI;obtain ⟨b1, b2, b3, b4, b5, b6, b7⟩ := kitB
  cases h with
  | str z h => exact ⟨_, .str _, s1, i1, b1⟩
  | non => exact ⟨_, .non, s2, i2, b2⟩
  | bl b => exact ⟨_, .bl _, s3, i3, b3⟩
  | int i => exact ⟨_, .int _, s4, i4, b4⟩
  | lst h => exact ⟨_, .lst h, s5, i5, b5⟩
  | tup h => exact ⟨_, .tup h, s6, i6, b6⟩
  | dic h => exact ⟨_, .dK h, s7, i7, b7⟩
def NoL (K : Fg) (H : Hp) (x : V) : Prop := ∃ T, TyOf K H x (.type T) /\ kit0 T "list" = some false
def NoT (K : Fg) (H : Hp) (x : V) : Prop := ∃ T, TyOf K H x (.type T) /\ kit0 T "tuple" = some false
def RowA (K : Fg) (H : Hp) (x : V) (n : Nat) (b : Bool) : Prop := (b = false /\ NoL K H x) \/ ∃ l xs, x = .ref l /\ H l = some (.lst xs) /\ xs.length <= 20 /\ (∀ y ∈ xs, Thing H y) /\ b = (decide (xs.length = n) && xs.all vj)
def NamesA (K : Fg) (H : Hp) (x : V) (m : Nat) (b : Bool) : Prop := (b = false /\ NoL K H x) \/ ∃ l xs, x = .ref l /\ H l = some (.lst xs) /\ xs.length <= 20 /\ (∀ y ∈ xs, Thing H y) /\ b = ((decide (1 <= xs.length) && decide (xs.length <= m)) && (xs.all xa && decide xs.Nodup))
def WorthsA (K : Fg) (H : Hp) (x : V) (h n : Nat) (b : Bool) : Prop := (b = false /\ NoL K H x) \/ ∃ (l : Addr) (xs : List V) (cs : List Bool), x = .ref l /\ H l = some (.lst xs) /\ xs.length <= 20 /\ cs.length = xs.length /\ (∀ (i : Nat) (y : V) (c : Bool), xs[i]? = some y -> cs[i]? = some c -> RowA K H y n c) /\ b = (decide (xs.length = h) && cs.all id)
def HandA (K : Fg) (H : Hp) (x : V) (n : Nat) (b : Bool) : Prop := (b = false /\ NoT K H x) \/ (b = false /\ ∃ t us, x = .ref t /\ H t = some (.tup us) /\ us.length ≠ 3) \/ ∃ (t : Addr) (u v w : V) (b2 : Bool), x = .ref t /\ H t = some (.tup [u, v, w]) /\ Thing H u /\ NamesA K H v 8 b2 /\ ((xa u && b2) = false -> b = false) /\ ((xa u && b2) = true -> ∃ l xs, v = .ref l /\ H l = some (.lst xs) /\ WorthsA K H w xs.length n b)
def k7 : Sp := fun vs H Q _ => ∃ x, vs = [x] /\ Thing H x /\ Q (.bl (wholeV x)) H
def jp : Sp := fun vs H Q _ => ∃ x, vs = [x] /\ Thing H x /\ Q (.bl (vj x)) H
def fq (K : Fg) : Sp := fun vs H Q _ => ∃ (x : V) (n : Nat) (b : Bool), vs = [x, .int n] /\ RowA K H x n b /\ ∀ H', Same H H' -> Q (.bl b) H'
def n0 : Sp := fun vs H Q _ => ∃ v : V, vs = [v] /\ Thing H v /\ ∀ H', Same H H' -> Q (.bl (xa v)) H'
def oa (K : Fg) : Sp := fun vs H Q _ => ∃ (x : V) (m : Nat) (b : Bool), vs = [x, .int m] /\ NamesA K H x m b /\ ∀ H', Same H H' -> Q (.bl b) H'
def m9 (K : Fg) : Sp := fun vs H Q _ => ∃ (x : V) (h n : Nat) (b : Bool), vs = [x, .int h, .int n] /\ WorthsA K H x h n b /\ ∀ H', Same H H' -> Q (.bl b) H'
def ie (K : Fg) : Sp := fun vs H Q _ => ∃ (x : V) (n : Nat) (b : Bool), vs = [x, .int n] /\ HandA K H x n b /\ ∀ H', Same H H' -> Q (.bl b) H'
theorem TyOf.mono {K : Fg} {H H' : Hp} {x : V} {t : Value} (S : Same H H') (h : TyOf K H x t) : TyOf K H' x t := by
  cases h with
  | non => exact .non
  | bl x => exact .bl x
  | int x => exact .int x
  | str x => exact .str x
  | flt x => exact .flt x
  | lst e => exact .lst (S _ _ e)
  | frz e => exact .frz (S _ _ e)
  | tup e => exact .tup (S _ _ e)
  | dK e => exact .dK (S _ _ e)
  | dT e => exact .dT (S _ _ e)
  | ins e cl ha hn htk hm => exact .ins (S _ _ e) cl ha hn htk hm
theorem NoL.mono {K : Fg} {H H' : Hp} {x : V} (S : Same H H') (h : NoL K H x) : NoL K H' x := by
  obtain ⟨T, t, k⟩ := h;exact ⟨T, TyOf.mono S t, k⟩
theorem NoT.mono {K : Fg} {H H' : Hp} {x : V} (S : Same H H') (h : NoT K H x) : NoT K H' x := by
  obtain ⟨T, t, k⟩ := h;exact ⟨T, TyOf.mono S t, k⟩
theorem RowA.mono {K : Fg} {H H' : Hp} {x : V} {n : Nat} {b : Bool} (S : Same H H') (h : RowA K H x n b) : RowA K H' x n b := by
  rcases h with ⟨e, h⟩ | ⟨l, xs, e, hl, h1, h2, h3⟩
  . exact .inl ⟨e, h.mono S⟩
  . exact .inr ⟨l, xs, e, S _ _ hl, h1, fun y hy => (h2 y hy).mono S, h3⟩
theorem NamesA.mono {K : Fg} {H H' : Hp} {x : V} {n : Nat} {b : Bool} (S : Same H H') (h : NamesA K H x n b) : NamesA K H' x n b := by
  rcases h with ⟨e, h⟩ | ⟨l, xs, e, hl, h1, h2, h3⟩
  . exact .inl ⟨e, h.mono S⟩
  . exact .inr ⟨l, xs, e, S _ _ hl, h1, fun y hy => (h2 y hy).mono S, h3⟩
theorem WorthsA.mono {K : Fg} {H H' : Hp} {x : V} {m n : Nat} {b : Bool} (S : Same H H') (h : WorthsA K H x m n b) : WorthsA K H' x m n b := by
  rcases h with ⟨e, h⟩ | ⟨l, xs, cs, e, hl, h1, h2, h3, h4⟩
  . exact .inl ⟨e, h.mono S⟩
  . exact .inr ⟨l, xs, cs, e, S _ _ hl, h1, h2, fun i y c e1 e2 => (h3 i y c e1 e2).mono S, h4⟩
theorem HandA.mono {K : Fg} {H H' : Hp} {x : V} {n : Nat} {b : Bool} (S : Same H H') (h : HandA K H x n b) : HandA K H' x n b := by
  rcases h with ⟨e, h⟩ | ⟨e, t, us, e1, h1, h2⟩ | ⟨t, u, v, w, b2, e, h1, h2, h3, h4, h5⟩
  . exact .inl ⟨e, h.mono S⟩
  . exact .inr (.inl ⟨e, t, us, e1, S _ _ h1, h2⟩)
  . refine .inr (.inr ⟨t, u, v, w, b2, e, S _ _ h1, h2.mono S, h3.mono S, h4, fun z => ?_⟩)
    obtain ⟨l, xs, a1, a2, a3⟩ := h5 z;exact ⟨l, xs, a1, S _ _ a2, a3.mono S⟩
theorem am (c : Nat) : (if (!decide ((chr1 c).cps.toList < (Str.ofString "a").cps.toList)) = true then (!decide ((Str.ofString "z").cps.toList < (chr1 c).cps.toList)) else false) = so c := by
  have ea : (Str.ofString "a").cps.toList = [97] := by decide +kernel
  have ez : (Str.ofString "z").cps.toList = [122] := by decide +kernel
  have ec : (chr1 c).cps.toList = [c] := rfl;rw [ea, ez, ec]
  have h1 : decide ([c] < [97]) = decide (c < 97) := by
    apply decide_eq_decide.mpr
    rw [Ye];simp
  have h2 : decide ([122] < [c]) = decide (122 < c) := by
    apply decide_eq_decide.mpr
    rw [Ye];simp
  rw [h1, h2];unfold so
  by_cases a1 : c < 97
  . have : ¬ 97 <= c := by omega
    simp [a1, this]
  . by_cases a2 : 122 < c
    . have : ¬ c <= 122 := by omega
      simp [a1, a2, this]
    . simp [a1, a2, ZC.mp a1, ZC.mp a2]
theorem j5 (g : Nat -> Str) : ∀ i, (seen g i).length <= i
  | 0 => Zm _
  | i + 1 => by
    have := j5 g i
    show (if g i ∈ seen g i then seen g i else seen g i ++ [g i]).length <= _
    split
    . omega
    . rw [Zo]
      show _ + 1 <= _
      omega
theorem m7 {zs : List Str} : ∀ i, i <= zs.length -> (seen (fun j => zs.getD j ⟨#[]⟩) i).length = i -> seen (fun j => zs.getD j ⟨#[]⟩) i = zs.take i /\ (zs.take i).Nodup
  | 0, _, _ => ⟨rfl, List.nodup_nil⟩
  | i + 1, h, e => by
    have hi : i < zs.length := by omega
    have ez : zs.getD i ⟨#[]⟩ = zs[i] := by simp [Zk, hi]
    have le := j5 (fun j => zs.getD j ⟨#[]⟩) i;have e' : (if zs.getD i ⟨#[]⟩ ∈ seen (fun j => zs.getD j ⟨#[]⟩) i then seen (fun j => zs.getD j ⟨#[]⟩) i else seen (fun j => zs.getD j ⟨#[]⟩) i ++ [zs.getD i ⟨#[]⟩]).length = i + 1 := e
    by_cases hm : zs.getD i ⟨#[]⟩ ∈ seen (fun j => zs.getD j ⟨#[]⟩) i
    . rw [if_pos hm] at e'
      omega
    . rw [if_neg hm, Zo] at e'
      obtain ⟨i1, i2⟩ := m7 (zs := zs) i (by omega) (by have : [zs.getD i ⟨#[]⟩].length = 1 := rfl; omega)
      have et : zs.take (i + 1) = zs.take i ++ [zs.getD i ⟨#[]⟩] := by
        rw [Zq, ez];simp [hi]
      rw [et];refine ⟨?_, ?_⟩
      . show (if zs.getD i ⟨#[]⟩ ∈ seen (fun j => zs.getD j ⟨#[]⟩) i then seen (fun j => zs.getD j ⟨#[]⟩) i else seen (fun j => zs.getD j ⟨#[]⟩) i ++ [zs.getD i ⟨#[]⟩]) = _
        rw [if_neg hm, i1]
      . rw [i1] at hm
        rw [Yo];refine ⟨i2, by simp, fun a ha b hb => ?_⟩;rw [ZB.mp hb];exact fun z => hm (z ▸ ha)
theorem g5 {zs : List Str} : decide ((seen (fun j => zs.getD j ⟨#[]⟩) zs.length).length = zs.length) = decide (zs.map V.str).Nodup := by
  have e : (zs.map V.str).Nodup ↔ zs.Nodup := by
    constructor
    . intro h
      exact (ZX.mp h).imp fun {a b} hab z => hab (by rw [z])
    . intro h
      exact ZX.mpr (h.imp fun {a b} hab z => hab (by injection z))
  apply decide_eq_decide.mpr
  rw [e]
  constructor
  . intro h
    have := (m7 zs.length (Zm _) h).2
    rwa [Zt] at this
  . intro h
    rw [mj h _ (Zm _), Zt]
theorem d0 {xs : List V} (h : xs.all xa = true) : ∃ zs : List Str, xs = zs.map V.str /\ ∀ z ∈ zs, y2 z := by
  induction xs with
  | nil => exact ⟨[], rfl, fun z hz => nomatch hz⟩
  | cons x xs ih =>
    rw [Yp, Bool.and_eq_true] at h;obtain ⟨zs, e, hz⟩ := ih h.2
    cases x with
    | str z => exact ⟨z :: zs, by rw [e]; rfl, fun y hy => by
        rcases ZJ.mp hy with q | q
        . rw [q]; exact nameB_iff.mp h.1
        . exact hz y q⟩
    | _ => cases h.1
def PvSg (H : Hp) (z : Str) (i : Nat) (ys : List V) (H' : Hp) : Prop := H' = H /\ ys = ((z.cps.toList.take i).map so).map V.bl
def PvBd (H : Hp) (g : V -> Bool) (xs : List V) (i : Nat) (ys : List V) (H2 : Hp) : Prop := Same H H2 /\ ys = ((xs.take i).map g).map V.bl
def PvGr (H : Hp) (cs : List Bool) (i : Nat) (ys : List V) (H2 : Hp) : Prop := Same H H2 /\ ys = (cs.take i).map V.bl
section
variable {P : Program} {w : World} {K : Fg} {mg : Str -> Option Value} {base : Heap} {a : Ad}
theorem g6 (B : Bt mg) (D : zt K mg "is_whole" uc ["thing"]) : FnAt P w K mg base "is_whole" 1 ["thing"] k7 := by
  refine FnAt.of D pp (fun vs H Q E h => ?_) (fun f cdv A outer s H vs Q E hr h => ?_)
  . obtain ⟨x, rfl, _⟩ := h
    rfl
  . obtain ⟨x, rfl, th, q⟩ := h
    refine ⟨_, (@zk _ _ _ (@zr _ _ _ _ (@wb _ _ _ _ _ _ _ (zo yk rfl B.isinstance z8 (za (pv 0) (za (xx rfl B.int dq) (@zc _)))) (@vd _ _ _ _ _ (@e7 _ _ _ _ (zo yk rfl B.isinstance z8 (za (pv 0) (za (xx rfl B.bool j9) (@zc _))))))))), ?_⟩;rw [show start ["thing"] [x] = [some x] from rfl];simp only [zp, zq, ↓reduceIte];obtain ⟨T, t1, t2, t3, t4⟩ := Thing.ty (K := K) th;refine ⟨T, t1, isI x, t3, ?_⟩
    cases x with
    | int i => exact iteT ⟨T, t1, false, t4, q⟩
    | bl i => exact iteT ⟨T, t1, true, t4, q⟩
    | _ => exact iteF q
theorem kd (B : Bt mg) (u6 : FnAt P w K mg base "is_whole" 1 ["thing"] k7) (D : zt K mg "is_bounded" va ["thing"]) : FnAt P w K mg base "is_bounded" 2 ["thing"] jp := by
  refine FnAt.of D qd (fun vs H Q E h => ?_) (fun f cdv A outer s H vs Q E hr h => ?_)
  . obtain ⟨x, rfl, _⟩ := h
    rfl
  . obtain ⟨x, rfl, th, q⟩ := h
    refine ⟨_, (@zk _ _ _ (@zr _ _ _ _ (@wb _ _ _ _ _ _ _ (zw u6 (hr.mono (by decide)) rfl (za (pv 0) (@zc _))) (@vd _ _ _ _ _ (@wy _ _ _ _ _ _ _ _ ow (zo jh rfl B.abs db (za (pv 0) (@zc _))) (@zg _ _ _ _ _ _ _ _ vc (@zb _ _ _ _) (@zb _ _ _ _)) (ya _)))))), ?_⟩;rw [show start ["thing"] [x] = [some x] from rfl];simp only [zp, zq, ↓reduceIte];refine ⟨x, rfl, th, _, rfl, ?_⟩
    cases x with
    | int i => exact iteT ⟨i, rfl, ⟨by decide, by decide, by decide⟩, q⟩
    | _ => exact q
theorem lp (B : Bt mg) (uk : FnAt P w K mg base "is_bounded" 2 ["thing"] jp) (D : zt K mg "is_grid_row" wu ["thing", "width"]) : FnAt P w K mg base "is_grid_row" 3 ["thing", "width"] (fq K) := by
  refine FnAt.of D rb (fun vs H Q E h => ?_) (fun f cdv A outer s H vs Q E hr h => ?_)
  . obtain ⟨x, n, b, rfl, _⟩ := h
    rfl
  . obtain ⟨x, n, b, rfl, R, q⟩ := h
    refine ⟨_, (@zu _ _ _ _ _ (@yf _ _ _ _ _ _ _ _ (PW.pt (@vq _ _ _ _ _ _ _ (@y6 _ _ _ _ (xc (zo yk rfl B.isinstance z8 (za (pv 0) (za (xx rfl B.list wf) (@zc _)))))) (@wq _ _ _ _ (@ye _ _ _ _ _ _ _ _ qy (zo zz rfl B.len yp (za (pv 0) (@zc _))) (pv 1) (ya _))))) (@zk _ _ _ (@zr _ _ _ _ (@xm _ _ _ _))) (@z5 _)) (@zk _ _ _ (@zr _ _ _ _ (zo (xt rfl) rfl B.all vi (za (yn ["worth"] ["thing", "width"] rfl (@yu _ _ _ _ (pv 0)) (fun _ => (z7 (i := 0) (show (["worth", "thing", "width"] : List Str).Nodup by decide +kernel) rfl (Or.inl rfl))) (fun _ => (@yi _)) (fun _ => (zw uk (hr.mono (by decide)) rfl (za (pv 0) (@zc _)))) rfl (by decide +kernel) rfl rfl) (@zc _)))))), ?_⟩;rw [show start ["thing", "width"] [x, V.int n] = [some x, some (V.int n)] from rfl]
    rcases R with ⟨rfl, T, t, k⟩ | ⟨l, xs, rfl, ha, hl, hth, rfl⟩
    all_goals simp only [zp, zq, ↓reduceIte]
    . exact ⟨T, t, false, k, iteT (q H (Same.refl _))⟩
    . refine ⟨_, .lst ha, true, v5, iteF ⟨xs, .inl (.of ha), rfl, ite2 (fun h => ?_) (fun h => ?_)⟩⟩
      . have e : ¬ xs.length = n := fun z => by rw [z] at h; simp at h
        rw [decide_eq_false e, Bool.false_and] at q;exact q H (Same.refl _)
      . have e : xs.length = n := Classical.byContradiction fun z => h (by
          have : ¬ ((xs.length : Int) = (n : Int)) := by omega
          simp [this])
        rw [decide_eq_true e, Bool.true_and] at q;refine ⟨⟨_, .of ha⟩, fun d => ?_⟩;refine yq (xs := xs) (PvBd H vj xs) ⟨Same.refl _, rfl⟩ ?_ ?_ ?_
        . rintro i ys H2 hi ⟨S, rfl⟩
          refine ⟨?_, .of (S _ _ ha)⟩;rw [Za, Za, Zj];exact Zd (ZA _ _) (Zd hl (by decide))
        . rintro i x ys H2 hx ⟨S, rfl⟩
          simp only [zp, zq, ↓reduceIte];refine ⟨x, rfl, (hth x (Zi hx)).mono S, S, ?_⟩;rw [Zq, hx, Zn, Zn];rfl
        . rintro ys H2 ⟨S, rfl⟩ l hl1
          rw [Zt];refine ⟨xs.map vj, .of ze, ?_⟩;rw [Yr];exact q _ (S.trans (Same.upd (Same.refl _) hl1))
theorem fr (B : Bt mg) (D : zt K mg "is_name" u3 ["thing"]) : FnAt P w K mg base "is_name" 1 ["thing"] n0 := by
  refine FnAt.of D nu (fun vs H Q E h => ?_) (fun f cdv A outer s H vs Q E hr h => ?_)
  . obtain ⟨v, rfl, _⟩ := h
    rfl
  . obtain ⟨v, rfl, ht, q⟩ := h
    refine ⟨_, (@zu _ _ _ _ _ (@yf _ _ _ _ _ _ _ _ (PW.pt (@vq _ _ _ _ _ _ _ (@y6 _ _ _ _ (xc (zo yk rfl B.isinstance z8 (za (pv 0) (za (xx rfl B.str di) (@zc _)))))) (@wq _ _ _ _ (@y6 _ _ _ _ (qa uo uo (@zb _ _ _ _) (zo qm rfl B.len yp (za (pv 0) (@zc _))) (wd rfl B.k_MOST_LETTERS)))))) (@zk _ _ _ (@zr _ _ _ _ (@xm _ _ _ _))) (@z5 _)) (@zk _ _ _ (@zr _ _ _ _ (zo (xt rfl) rfl B.all vi (za (yn ["sign"] ["thing"] rfl (@dv _ _ _ _ (pv 0)) (fun _ => (z7 (i := 0) (show (["sign", "thing"] : List Str).Nodup by decide +kernel) rfl (Or.inl rfl))) (fun _ => (@yi _)) (fun _ => (kq oo oo (@yh _ _ _ _) (pv 0) (@yh _ _ _ _))) rfl (by decide +kernel) rfl rfl) (@zc _)))))), ?_⟩;rw [show start ["thing"] [v] = [some v] from rfl];simp only [zp, zq, ↓reduceIte];obtain ⟨T, t1, t2, _⟩ := Thing.ty (K := K) ht;refine ⟨T, t1, isS v, t2, ?_⟩
    cases ht with
    | str z hz =>
      refine iteF ⟨z, rfl, Zd hz (by decide), ?_⟩
      by_cases g1 : 1 <= z.length
      . rw [if_pos (decide_eq_true (by omega))]
        by_cases g2 : z.length <= 8
        . rw [decide_eq_true (show (z.length : Int) <= 8 by omega)]
          refine iteF ⟨z, rfl, fun d => ?_⟩;refine jg (PvSg H z) ⟨rfl, rfl⟩ ?_ ?_ ?_
          . rintro i ys H' hi ⟨rfl, rfl⟩
            rw [Za, Za, Zj];exact Zd (YC _ _) (Zd hi (Zd (show z.cps.size <= 8 from g2) (by decide)))
          . rintro i c ys H' hc ⟨rfl, rfl⟩
            have hsn := am c;have e2 : z.cps.toList[i]? = some c := by simpa using hc
            simp only [zp, zq, ↓reduceIte];have done : PvSg H' z (i + 1) (((z.cps.toList.take i).map so).map V.bl ++ [V.bl (so c)]) H' := ⟨rfl, by rw [Zq, e2]; simp⟩
            by_cases h : (!decide ((chr1 c).cps.toList < (Str.ofString "a").cps.toList)) = true
            . rw [if_pos h] at hsn ⊢
              rw [hsn];exact done
            . rw [if_neg h] at hsn ⊢
              rw [hsn];exact done
          . rintro ys H' ⟨rfl, rfl⟩ l hl
            refine ⟨_, .of ze, ?_⟩
            have e3 : ((z.cps.toList.take z.cps.size).map so).all id = xa (.str z) := by
              rw [show z.cps.size = z.cps.toList.length by simp, Zt, Yr]
              show _ = v7 z
              unfold v7;rw [decide_eq_true g1, decide_eq_true g2];simp
            rw [e3];exact q _ (Same.upd (Same.refl _) hl)
        . rw [decide_eq_false (show ¬ (z.length : Int) <= 8 by omega)]
          have e3 : xa (.str z) = false := by
            show v7 z = false
            unfold v7;rw [decide_eq_false g2];simp
          rw [e3] at q;exact iteT (q H (Same.refl _))
      . rw [if_neg (fun h => g1 (by have := of_decide_eq_true h; omega))]
        have e3 : xa (.str z) = false := by
          show v7 z = false
          unfold v7;rw [decide_eq_false g1];simp
        rw [e3] at q;exact iteT (q H (Same.refl _))
    | _ => exact iteT (q H (Same.refl _))
theorem jy (B : Bt mg) (wj : FnAt P w K mg base "is_name" 1 ["thing"] n0) (D : zt K mg "are_names" vp ["thing", "most"]) : FnAt P w K mg base "are_names" 2 ["thing", "most"] (oa K) := by
  refine FnAt.of D qt (fun vs H Q E h => ?_) (fun f cdv A outer s H vs Q E hr h => ?_)
  . obtain ⟨x, m, b, rfl, _⟩ := h
    rfl
  . obtain ⟨x, m, b, rfl, R, q⟩ := h
    refine ⟨_, (@zu _ _ _ _ _ (@yf _ _ _ _ _ _ _ _ (PW.pt (@vq _ _ _ _ _ _ _ (@y6 _ _ _ _ (xc (zo yk rfl B.isinstance z8 (za (pv 0) (za (xx rfl B.list wf) (@zc _)))))) (@wq _ _ _ _ (@y6 _ _ _ _ (qa uo uo (@zb _ _ _ _) (zo zz rfl B.len yp (za (pv 0) (@zc _))) (pv 1)))))) (@zk _ _ _ (@zr _ _ _ _ (@xm _ _ _ _))) (@z5 _)) (@zk _ _ _ (@zr _ _ _ _ (@wb _ _ _ _ _ _ _ (zo (xt rfl) rfl B.all vi (za (yn ["one"] ["thing", "most"] rfl (@yu _ _ _ _ (pv 0)) (fun _ => (z7 (i := 0) (show (["one", "thing", "most"] : List Str).Nodup by decide +kernel) rfl (Or.inl rfl))) (fun _ => (@yi _)) (fun _ => (zw wj (hr.mono (by decide)) rfl (za (pv 0) (@zc _)))) rfl (by decide +kernel) rfl rfl) (@zc _))) (@vd _ _ _ _ _ (@wy _ _ _ _ _ _ _ _ y3 (lj rfl rfl B.len rfl B.set (za (pv 0) (@zc _))) (zo zz rfl B.len yp (za (pv 0) (@zc _))) (ya _))))))), ?_⟩;rw [show start ["thing", "most"] [x, V.int m] = [some x, some (V.int m)] from rfl]
    rcases R with ⟨rfl, T, t, k⟩ | ⟨l, xs, rfl, hl, h20, hth, rfl⟩
    all_goals simp only [zp, zq, ↓reduceIte]
    . exact ⟨T, t, false, k, iteT (q H (Same.refl _))⟩
    . refine ⟨_, .lst hl, true, v5, iteF ⟨_, .inl (.of hl), ?_⟩⟩
      refine ite2 (fun g1 => ite2 (fun h => ?_) fun h => ?_) fun g1 => iteT ?_
      . have e : ¬ xs.length <= m := fun z => by
          rw [decide_eq_true (show (xs.length : Int) <= m by omega)] at h;cases h
        rw [decide_eq_false e, Bool.and_false, Bool.false_and] at q;exact q H (Same.refl _)
      . have e1 : 1 <= xs.length := by have := of_decide_eq_true g1; omega
        have e : xs.length <= m := Classical.byContradiction fun z => h (by
          rw [decide_eq_false (show ¬ (xs.length : Int) <= m by omega)]; rfl)
        rw [decide_eq_true e, decide_eq_true e1, Bool.true_and, Bool.true_and] at q;refine ⟨⟨_, .of hl⟩, fun d => ?_⟩;refine yq (xs := xs) (PvBd H xa xs) ⟨Same.refl _, rfl⟩ ?_ ?_ ?_
        . rintro i ys H2 hi ⟨S, rfl⟩
          refine ⟨?_, .of (S _ _ hl)⟩;rw [Za, Za, Zj];exact Zd (ZA _ _) (Zd h20 (by decide))
        . rintro i x ys H2 hx ⟨S, rfl⟩
          simp only [zp, zq, ↓reduceIte];refine ⟨x, rfl, (hth x (Zi hx)).mono S, fun H3 S3 => ⟨S.trans S3, ?_⟩⟩;rw [Zq, hx, Zn, Zn];rfl
        . rintro ys H2 ⟨S, rfl⟩ p hp
          rw [Zt];have S2 : Same H (upd H2 p (.lst ((xs.map xa).map V.bl))) := S.trans (Same.upd (Same.refl _) hp);refine ⟨xs.map xa, .of ze, ?_⟩;rw [Yr];generalize upd H2 p (.lst ((xs.map xa).map V.bl)) = H3 at *
          show if xs.all xa = true then _ else _
          by_cases hn : xs.all xa = true
          . obtain ⟨zs, rfl, hz⟩ := d0 hn
            rw [if_pos hn];rw [hn, Bool.true_and] at q;rw [Za] at h20;refine ⟨zs, S2.seq (.of hl), by omega, _, .inl (S2.seq (.of hl)), rfl, ?_⟩;rw [Za];have e5 : decide (((seen (fun j => zs.getD j ⟨#[]⟩) zs.length).length : Int) = (zs.length : Int)) = decide ((seen (fun j => zs.getD j ⟨#[]⟩) zs.length).length = zs.length) := decide_eq_decide.mpr ⟨fun z => by omega, fun z => by omega⟩;rw [e5, g5];exact q _ S2
          . rw [if_neg hn]
            rw [Bool.eq_false_iff.mpr hn, Bool.false_and] at q;exact q _ S2
      . have e : ¬ 1 <= xs.length := fun z => g1 (decide_eq_true (by omega))
        rw [decide_eq_false e, Bool.false_and, Bool.false_and] at q;exact q H (Same.refl _)
theorem kz (B : Bt mg) (vy : FnAt P w K mg base "is_grid_row" 3 ["thing", "width"] (fq K)) (D : zt K mg "are_worths" w6 ["thing", "height", "width"]) : FnAt P w K mg base "are_worths" 4 ["thing", "height", "width"] (m9 K) := by
  refine FnAt.of D qf (fun vs H Q E h => ?_) (fun f cdv A outer s H vs Q E hr h => ?_)
  . obtain ⟨x, h, n, b, rfl, _⟩ := h
    rfl
  . obtain ⟨x, ht, n, b, rfl, R, q⟩ := h
    refine ⟨_, (@zu _ _ _ _ _ (@yf _ _ _ _ _ _ _ _ (PW.pt (@vq _ _ _ _ _ _ _ (@y6 _ _ _ _ (xc (zo yk rfl B.isinstance z8 (za (pv 0) (za (xx rfl B.list wf) (@zc _)))))) (@wq _ _ _ _ (@ye _ _ _ _ _ _ _ _ qy (zo zz rfl B.len yp (za (pv 0) (@zc _))) (pv 1) (ya _))))) (@zk _ _ _ (@zr _ _ _ _ (@xm _ _ _ _))) (@z5 _)) (@zk _ _ _ (@zr _ _ _ _ (zo (xt rfl) rfl B.all vi (za (yn ["row"] ["thing", "height", "width"] rfl (@yu _ _ _ _ (pv 0)) (fun _ => (z7 (i := 0) (show (["row", "thing", "height", "width"] : List Str).Nodup by decide +kernel) rfl (Or.inl rfl))) (fun _ => (@yi _)) (fun _ => (zw vy (hr.mono (by decide)) rfl (za (pv 0) (za (pv 3) (@zc _))))) rfl (by decide +kernel) rfl rfl) (@zc _)))))), ?_⟩;rw [show start ["thing", "height", "width"] [x, V.int ht, V.int n] = [some x, some (V.int ht), some (V.int n)] from rfl]
    rcases R with ⟨rfl, T, t, k⟩ | ⟨l, xs, cs, rfl, hl, h20, hcs, hrow, rfl⟩
    all_goals simp only [zp, zq, ↓reduceIte]
    . exact ⟨T, t, false, k, iteT (q H (Same.refl _))⟩
    . refine ⟨_, .lst hl, true, v5, iteF ⟨xs, .inl (.of hl), rfl, ite2 (fun h => ?_) (fun h => ?_)⟩⟩
      . have e : ¬ xs.length = ht := fun z => by rw [z] at h; simp at h
        rw [decide_eq_false e, Bool.false_and] at q;exact q H (Same.refl _)
      . have e : xs.length = ht := Classical.byContradiction fun z => h (by
          have : ¬ ((xs.length : Int) = (ht : Int)) := by omega
          simp [this])
        rw [decide_eq_true e, Bool.true_and] at q;refine ⟨⟨_, .of hl⟩, fun d => ?_⟩;refine yq (xs := xs) (PvGr H cs) ⟨Same.refl _, rfl⟩ ?_ ?_ ?_
        . rintro i ys H2 hi ⟨S, rfl⟩
          refine ⟨?_, S.seq (.of hl)⟩;rw [Za, Zj];exact Zd (YC _ _) (Zd hi (Zd h20 (by decide)))
        . rintro i x ys H2 hx ⟨S, rfl⟩
          have hi : i < cs.length := by rw [hcs]; exact (Zc.mp hx).1
          have ec : cs[i]? = some cs[i] := by simp [hi]
          simp only [zp, zq, ↓reduceIte];refine ⟨x, n, cs[i], rfl, (hrow i x _ hx ec).mono S, fun H3 S3 => ⟨S.trans S3, ?_⟩⟩;rw [Zq, ec, Zn];rfl
        . rintro ys H2 ⟨S, rfl⟩ l hl1
          rw [<- hcs, Zt];exact ⟨cs, .of ze, q _ (S.trans (Same.upd (Same.refl _) hl1))⟩
theorem dh (B : Bt mg) (wj : FnAt P w K mg base "is_name" 1 ["thing"] n0) (xg : FnAt P w K mg base "are_names" 2 ["thing", "most"] (oa K)) (ui : FnAt P w K mg base "are_worths" 4 ["thing", "height", "width"] (m9 K)) (D : zt K mg "is_hand" u0 ["thing", "width"]) : FnAt P w K mg base "is_hand" 5 ["thing", "width"] (ie K) := by
  refine FnAt.of D ng (fun vs H Q E h => ?_) (fun f cdv A outer s H vs Q E hr h => ?_)
  . obtain ⟨x, n, b, rfl, _⟩ := h
    rfl
  . obtain ⟨x, n, b, rfl, R, q⟩ := h
    refine ⟨_, (@zu _ _ _ _ _ (@yf _ _ _ _ _ _ _ _ (PW.pt (@vq _ _ _ _ _ _ _ (@y6 _ _ _ _ (xc (zo yk rfl B.isinstance z8 (za (pv 0) (za (xx rfl B.tuple xb) (@zc _)))))) (@wq _ _ _ _ (@ye _ _ _ _ _ _ _ _ qy (zo zz rfl B.len yp (za (pv 0) (@zc _))) (@zb _ _ _ _) (ya _))))) (@zk _ _ _ (@zr _ _ _ _ (@xm _ _ _ _))) (@z5 _)) (@zk _ _ _ (@zr _ _ _ _ (@wb _ _ _ _ _ _ _ (zw wj (hr.mono (by decide)) rfl (za (@z6 _ _ _ _ _ _ _ yx (pv 0) (@zb _ _ _ _) (fun _ _ => rfl)) (@zc _))) (@wb _ _ _ _ _ _ _ (zw xg (hr.mono (by decide)) rfl (za (@z6 _ _ _ _ _ _ _ yx (pv 0) (@zb _ _ _ _) (fun _ _ => rfl)) (za (wd rfl B.k_MOST_WORDS) (@zc _)))) (@vd _ _ _ _ _ (zw ui (hr.mono (by decide)) rfl (za (@z6 _ _ _ _ _ _ _ yx (pv 0) (@zb _ _ _ _) (fun _ _ => rfl)) (za (zo zz rfl B.len yp (za (@z6 _ _ _ _ _ _ _ yx (pv 0) (@zb _ _ _ _) (fun _ _ => rfl)) (@zc _))) (za (pv 1) (@zc _))))))))))), ?_⟩;rw [show start ["thing", "width"] [x, V.int n] = [some x, some (V.int n)] from rfl]
    rcases R with ⟨rfl, T, t, k⟩ | ⟨rfl, t, us, rfl, h1, h2⟩ | ⟨t, u, v, w, b2, rfl, h1, h2, h3, h4, h5⟩
    all_goals simp only [zp, zq, ↓reduceIte]
    . exact ⟨T, t, false, k, iteT (q H (Same.refl _))⟩
    . refine ⟨_, .tup h1, true, qw, iteF ⟨_, .inr (.of h1), rfl, ite2 (fun _ => q H (Same.refl _)) fun h => absurd ?_ h⟩⟩
      have : ¬ ((us.length : Int) = 3) := by omega
      simp [this]
    . refine ⟨_, .tup h1, true, qw, iteF ⟨_, .inr (.of h1), rfl, kc rfl ?_⟩⟩
      refine ⟨_, .of h1, _, zj (j := 0) rfl, u, rfl, h2, fun H1 S1 => ⟨_, rfl, ?_⟩⟩
      by_cases e1 : xa u = true
      . rw [if_pos e1]
        rw [e1, Bool.true_and] at h4 h5;refine ⟨_, .of (S1 _ _ h1), _, zj (j := 1) rfl, v, 8, b2, rfl, h3.mono S1, fun H2 S2 => ⟨_, rfl, ?_⟩⟩
        by_cases e2 : b2 = true
        . rw [if_pos e2]
          obtain ⟨l, xs, rfl, hl, W⟩ := h5 e2;have S12 := S1.trans S2;exact ⟨_, .of (S12 _ _ h1), _, zj (j := 2) rfl, _, .of (S12 _ _ h1), _, zj (j := 1) rfl, l, rfl, _, .inl (.of (S12 _ _ hl)), w, xs.length, n, b, rfl, W.mono S12, fun H3 S3 => q H3 (S12.trans S3)⟩
        . rw [if_neg e2]
          have e2' := Bool.eq_false_iff.mpr e2;rw [h4 e2'] at q;exact q H2 (S1.trans S2)
      . rw [if_neg e1]
        have e1' := Bool.eq_false_iff.mpr e1;rw [h4 (by rw [e1']; rfl)] at q;exact q H1 S1
end
theorem someR {as : List Addr} {i : Nat} {y : V} (h : (as.map V.ref)[i]? = some y) : ∃ r, as[i]? = some r /\ y = .ref r := by
  rw [Ze] at h
  cases e : as[i]? with
  | none => rw [e] at h; cases h
  | some r => rw [e] at h; cases h; exact ⟨r, rfl, rfl⟩
theorem nw {K : Fg} {H : Hp} {l : Addr} {zs : List Str} {m : Nat} (hl : H l = some (.lst (zs.map V.str))) (h20 : zs.length <= 20) (hG : ∀ z ∈ zs, y2 z) : NamesA K H (.ref l) m ((decide (1 <= zs.length) && decide (zs.length <= m)) && decide zs.Nodup) := by
  refine .inr ⟨l, _, rfl, hl, by rw [Za]; exact h20, fun y hy => ?_, ?_⟩
  . obtain ⟨z, hz, rfl⟩ := Zp.mp hy
    exact .str z (Zd (hG z hz).2.1 (by decide))
  . have e1 : (zs.map V.str).all xa = true := by
      rw [ZK];intro y hy;obtain ⟨z, hz, rfl⟩ := Zp.mp hy;exact nameB_iff.mpr (hG z hz)
    have e2 : decide (zs.map V.str).Nodup = decide zs.Nodup := decide_eq_decide.mpr ⟨fun h => (ZX.mp h).imp fun {a b} hab z => hab (by rw [z]), fun h => ZX.mpr (h.imp fun {a b} hab z => hab (by injection z))⟩;rw [e1, e2, Bool.true_and, Za]
theorem qj {K : Fg} {H : Hp} {l : Addr} {zs : List Str} {m : Nat} (hl : H l = some (.lst (zs.map V.str))) (h1 : 1 <= zs.length) (h2 : zs.length <= m) (hm : m <= 8) (hG : ∀ z ∈ zs, y2 z) (hD : zs.Nodup) : NamesA K H (.ref l) m true := by
  have := nw (K := K) (m := m) hl (by omega) hG;rw [decide_eq_true h1, decide_eq_true h2, decide_eq_true hD] at this;exact this
theorem mi {K : Fg} {H : Hp} {l : Addr} {ns : List Int} {n : Nat} (hl : H l = some (.lst (ns.map V.int))) (h1 : ns.length = n) (hn : n <= 9) (hG : ∀ i ∈ ns, u5 i) : RowA K H (.ref l) n true := by
  refine .inr ⟨l, _, rfl, hl, by rw [Za]; omega, fun y hy => ?_, ?_⟩
  . obtain ⟨z, hz, rfl⟩ := Zp.mp hy
    exact .int z
  . rw [Za, decide_eq_true h1]
    symm
    show (ns.map V.int).all vj = true
    rw [ZK];intro y hy;obtain ⟨z, hz, rfl⟩ := Zp.mp hy;exact boundV_iff.mpr (hG z hz)
theorem g8 {K : Fg} {H : Hp} {g : Addr} {gs : List Addr} {rows : List (List Int)} {h n : Nat} (hg : H g = some (.lst (gs.map V.ref))) (l1 : gs.length = rows.length) (l2 : rows.length = h) (h8 : h <= 9) (hn : n <= 9) (hrow : ∀ (i : Nat) (r : Addr) (ns : List Int), gs[i]? = some r -> rows[i]? = some ns -> H r = some (.lst (ns.map V.int))) (hG : ∀ r ∈ rows, r.length = n /\ ∀ i ∈ r, u5 i) : WorthsA K H (.ref g) h n true := by
  refine .inr ⟨g, _, List.replicate gs.length true, rfl, hg, by rw [Za]; omega, by rw [ZG, Za], fun i y c e1 e2 => ?_, ?_⟩
  . obtain ⟨r, hr, rfl⟩ := someR e1
    have hi : i < rows.length := by have := (Zc.mp hr).1; omega
    have := Zi e2;rw [ZL this];have hm := hG rows[i] (Zl hi);exact mi (hrow i r rows[i] hr (Zb hi)) hm.1 hn hm.2
  . rw [Za, decide_eq_true (by omega : gs.length = h)]
    symm
    show (List.replicate gs.length true).all id = true
    rw [ZK];intro x hx;exact ZL hx
theorem jb {K : Fg} {H : Hp} {x : HX} {d : HD} {n : Nat} (h : HandAt H x d) (g : tj d n) (hn : n <= 9) : HandA K H (.ref x.t) n true := by
  refine .inr (.inr ⟨x.t, _, _, _, true, rfl, h.tup, .str _ (Zd g.name.2.1 (by decide)), qj h.words g.words.1 g.words.2 (Zm _) g.wordsG g.wordsD, fun z => ?_, fun _ => ⟨_, _, rfl, h.words, ?_⟩⟩)
  . rw [Bool.and_true, show xa (V.str d.name) = true from nameB_iff.mpr g.name] at z
    cases z
  . rw [Za]
    have := g.words;exact g8 h.grid h.len g.rows (by omega) hn h.row g.cols
def uz (K : Fg) (H : Hp) (x y : V) (b : Bool) : Prop :=
  (b = false /\ NamesA K H x 8 false) \/
  ∃ (o : Addr) (outs : List Str), x = .ref o /\ H o = some (.lst (outs.map V.str)) /\ (1 <= outs.length /\ outs.length <= 8 /\ (∀ z ∈ outs, y2 z) /\ outs.Nodup) /\
    ((b = false /\ NoL K H y) \/
     (b = false /\ ∃ (l : Addr) (ys : List V) (cs : List Bool), y = .ref l /\ H l = some (.lst ys) /\ ys.length <= 20 /\ cs.length = ys.length /\ (∀ (i : Nat) (z : V) (c : Bool), ys[i]? = some z -> cs[i]? = some c -> HandA K H z outs.length c) /\ cs.all id = false) \/
     ∃ (l : Addr) (xs : List HX) (ds : List HD), y = .ref l /\ HandsL H l xs ds /\ ds.length <= 8 /\ (∀ d ∈ ds, tj d outs.length) /\ b = (((decide (1 <= ds.length) && decide (ds.length <= 4)) && decide (ds.map HD.name).Nodup) && decide ((ds.map fun d => d.words.length).prod <= 256)))
theorem ff {K : Fg} {H : Hp} {o b : Addr} {outs : List Str} {xs : List HX} {ds : List HD} (ho : H o = some (.lst (outs.map V.str))) (hh : HandsL H b xs ds) (g : GoodHouse outs ds) : uz K H (.ref o) (.ref b) true := by
  refine .inr ⟨o, outs, rfl, ho, ⟨g.outs1.1, g.outs1.2, g.outsG, g.outsD⟩, .inr (.inr ⟨b, xs, ds, rfl, hh, by have := g.hands.2; omega, fun d hd => g.hand hd, ?_⟩)⟩;rw [decide_eq_true g.hands.1, decide_eq_true g.hands.2, decide_eq_true g.handsD, decide_eq_true g.few];rfl
def kj (K : Fg) : Sp := fun vs H Q _ => ∃ (x y : V) (b : Bool), vs = [x, y] /\ uz K H x y b /\ ∀ H', Same H H' -> Q (.bl b) H'
def iz : Sp := fun vs H Q _ => ∃ (b : Addr) (xs : List HX) (ds : List HD), vs = [.ref b] /\ HandsL H b xs ds /\ ds.length <= 8 /\ ∀ l, H l = none -> Q (.ref l) (upd H l (.lst ((ds.map HD.name).map V.str)))
def mz (a : Ad) (K : Fg) : Sp := fun vs H Q E => ∃ x y, vs = [x, y] /\ ((uz K H x y false /\ ∀ H', Same H H' -> E (.ref a.NoHouse) none H') \/ j1 K [x, y] H Q E)
section
variable {P : Program} {w : World} {K : Fg} {mg : Str -> Option Value} {base : Heap} {a : Ad}
theorem g7 (w9 : FnAt P w K mg base "name_of" 1 ["hand"] (tf fun _ d => .str d.name)) (D : zt K mg "names_of" uh ["hands"]) : FnAt P w K mg base "names_of" 2 ["hands"] iz := by
  refine FnAt.of D pq (fun vs H Q E h => ?_) (fun f cdv A outer s H vs Q E hr h => ?_)
  . obtain ⟨b, xs, ds, rfl, _⟩ := h
    rfl
  . obtain ⟨b, xs, ds, rfl, hh3, g4, q⟩ := h
    refine ⟨_, (@zk _ _ _ (@zr _ _ _ _ (yn ["hand"] ["hands"] rfl (@yu _ _ _ _ (pv 0)) (fun _ => (z7 (i := 0) (show (["hand", "hands"] : List Str).Nodup by decide +kernel) rfl (Or.inl rfl))) (fun _ => (@yi _)) (fun _ => (zw w9 (hr.mono (by decide)) rfl (za (pv 0) (@zc _)))) rfl (by decide +kernel) rfl rfl))), ?_⟩;rw [show start ["hands"] [V.ref b] = [some (V.ref b)] from rfl];simp only [zp, zq, ↓reduceIte];refine ⟨⟨_, .of hh3.at'⟩, fun d2 => ?_⟩;refine yq (xs := xs.map fun x => V.ref x.t) (PvNm H ds) ⟨rfl, rfl⟩ ?_ ?_ ?_
    . rintro i ys H4 hi ⟨rfl, rfl⟩
      refine ⟨?_, .of hh3.at'⟩;rw [Za, Za, Zj];exact Zd (ZA _ _) (Zd g4 (by decide))
    . rintro i x ys H4 hx ⟨rfl, rfl⟩
      obtain ⟨y, hy, rfl⟩ := xv hx;have hi : i < ds.length := by have := (Zc.mp hy).1; have := hh3.len; omega
      have e2 : ds[i]? = some ds[i] := by simp [hi]
      simp only [zp, zq, ↓reduceIte];refine ⟨y, ds[i], rfl, hh3.hand i y ds[i] hy e2, rfl, ?_⟩;rw [Zq, e2, Zn, Zn];rfl
    . rintro ys H4 ⟨rfl, rfl⟩ l hl
      rw [Za, hh3.len, Zt];exact q l hl
theorem lu (B : Bt mg) (xg : FnAt P w K mg base "are_names" 2 ["thing", "most"] (oa K)) (sj : FnAt P w K mg base "is_hand" 5 ["thing", "width"] (ie K)) (u7 : FnAt P w K mg base "names_of" 2 ["hands"] iz) (x9 : FnAt P w K mg base "count_of_rows" 2 ["hands"] jj)
    (D : zt K mg "makes_house" wt ["outcomes", "hands"]) : FnAt P w K mg base "makes_house" 6 ["outcomes", "hands"] (kj K) := by
  refine FnAt.of D rg (fun vs H Q E h => ?_) (fun f cdv A outer s H vs Q E hr h => ?_)
  . obtain ⟨x, y, b, rfl, _⟩ := h
    rfl
  . obtain ⟨x, y, b, rfl, M, q⟩ := h
    refine ⟨_, (@zu _ _ _ _ _ (@yf _ _ _ _ _ _ _ _ (PW.pt (@vq _ _ _ _ _ _ _ (@y6 _ _ _ _ (xc (zw xg (hr.mono (by decide)) rfl (za (pv 0) (za (wd rfl B.k_MOST_OUTCOMES) (@zc _)))))) (@wq _ _ _ _ (@y6 _ _ _ _ (xc (zo yk rfl B.isinstance z8 (za (pv 1) (za (xx rfl B.list wf) (@zc _))))))))) (@zk _ _ _ (@zr _ _ _ _ (@xm _ _ _ _))) (@z5 _)) (@zu _ _ _ _ _ (@yf _ _ _ _ _ _ _ _ (@y6 _ _ _ _ (xc (zo (xt rfl) rfl B.all vi (za (yn ["hand"] ["outcomes", "hands"] rfl (@yu _ _ _ _ (pv 1)) (fun _ => (z7 (i := 0) (show (["hand", "outcomes", "hands"] : List Str).Nodup by decide +kernel) rfl (Or.inl rfl))) (fun _ => (@yi _)) (fun _ => (zw sj (hr.mono (by decide)) rfl (za (pv 0) (za (zo zz rfl B.len yp (za (pv 1) (@zc _))) (@zc _))))) rfl (by decide +kernel) rfl rfl) (@zc _))))) (@zk _ _ _ (@zr _ _ _ _ (@xm _ _ _ _))) (@z5 _)) (@zk _ _ _ (@zr _ _ _ _ (@wb _ _ _ _ _ _ _ (zw xg (hr.mono (by decide)) rfl (za (zw u7 (hr.mono (by decide)) rfl (za (pv 1) (@zc _))) (za (wd rfl B.k_MOST_HANDS) (@zc _)))) (@vd _ _ _ _ _ (@wy _ _ _ _ _ _ _ _ uo (zw x9 (hr.mono (by decide)) rfl (za (pv 1) (@zc _))) (wd rfl B.k_MOST_ROWS) (ya _)))))))), ?_⟩;rw [show start ["outcomes", "hands"] [x, y] = [some x, some y] from rfl]
    rcases M with ⟨rfl, N⟩ | ⟨o, outs, rfl, ho, ⟨o1, o8, oG, oD⟩, M⟩
    all_goals simp only [zp, zq, ↓reduceIte]
    . refine ⟨x, 8, false, rfl, N, fun H1 S1 => ?_⟩
      simp only [zp, zq, ↓reduceIte];exact iteT (q H1 S1)
    . refine ⟨_, 8, true, rfl, qj ho o1 o8 (Zm _) oG oD, fun H1 S1 => ?_⟩
      simp only [zp, zq, ↓reduceIte];have ho1 := S1 _ _ ho
      rcases M with ⟨rfl, T, t, k⟩ | M
      . exact iteF ⟨T, TyOf.mono S1 t, false, k, iteT (q H1 S1)⟩
      have lists : ∃ (l : Addr) (ys : List V) (cs : List Bool), y = .ref l /\ H l = some (.lst ys) /\ ys.length <= 20 /\ cs.length = ys.length /\ (∀ (i : Nat) (z : V) (c : Bool), ys[i]? = some z -> cs[i]? = some c -> HandA K H z outs.length c) /\ (cs.all id = false -> b = false) /\ (cs.all id = true -> ∃ (xs : List HX) (ds : List HD), HandsL H l xs ds /\ ds.length <= 8 /\ (∀ d ∈ ds, tj d outs.length) /\ b = (((decide (1 <= ds.length) && decide (ds.length <= 4)) && decide (ds.map HD.name).Nodup) && decide ((ds.map fun d => d.words.length).prod <= 256))) := by
        rcases M with ⟨rfl, l, ys, cs, e, hl, h20, hcs, hc, hf⟩ | ⟨l, xs, ds, e, hh, h8, hG, hb⟩
        . exact ⟨l, ys, cs, e, hl, h20, hcs, hc, fun _ => rfl, fun z => by rw [hf] at z; cases z⟩
        . refine ⟨l, _, List.replicate ds.length true, e, hh.at', by rw [Za, hh.len]; omega, by rw [ZG, Za, hh.len], fun i z c e1 e2 => ?_, fun z => ?_, fun _ => ⟨xs, ds, hh, h8, hG, hb⟩⟩
          . rw [Ze] at e1
            obtain ⟨x', hx'⟩ : ∃ y, xs[i]? = some y := by
              cases e : xs[i]? with
              | none => rw [e] at e1; cases e1
              | some y => exact ⟨y, rfl⟩
            rw [hx'] at e1;cases e1;have hi : i < ds.length := by have := (Zc.mp hx').1; have := hh.len; omega
            rw [ZL (Zi e2)];exact jb (hh.hand i x' ds[i] hx' (Zb hi)) (hG _ (Zl hi)) (by omega)
          . have : (List.replicate ds.length true).all id = true := by
              rw [ZK];intro x hx;exact ZL hx
            rw [this] at z;cases z
      obtain ⟨l, ys, cs, rfl, hl, h20, hcs, hc, hf, ht⟩ := lists;have hl1 := S1 _ _ hl;refine iteF ⟨_, .lst hl1, true, v5, iteF ⟨l, rfl, ⟨_, .of hl1⟩, fun d => ?_⟩⟩;refine yq (xs := ys) (PvGr H1 cs) ⟨Same.refl _, rfl⟩ ?_ ?_ ?_
      . rintro i zs H2 hi ⟨S, rfl⟩
        refine ⟨?_, S.seq (.of hl1)⟩;rw [Za, Zj];exact Zd (YC _ _) (Zd hi (Zd h20 (by decide)))
      . rintro i x zs H2 hx ⟨S, rfl⟩
        have hi : i < cs.length := by rw [hcs]; exact (Zc.mp hx).1
        have ec : cs[i]? = some cs[i] := by simp [hi]
        simp only [zp, zq, ↓reduceIte];refine ⟨_, .inl (S.seq (.of ho1)), ?_⟩;rw [Za];refine ⟨x, outs.length, cs[i], rfl, (hc i x _ hx ec).mono (S1.trans S), fun H3 S3 => ⟨S.trans S3, ?_⟩⟩;rw [Zq, ec, Zn];rfl
      . rintro zs H2 ⟨S, rfl⟩ p hp
        rw [<- hcs, Zt];have S2 : Same H1 (upd H2 p (.lst (cs.map V.bl))) := S.trans (Same.upd (Same.refl _) hp);refine ⟨cs, .of ze, ?_⟩;generalize upd H2 p (.lst (cs.map V.bl)) = H3 at *
        by_cases hall : cs.all id = true
        . rw [hall]
          obtain ⟨xs, ds, hh, h8, hG, rfl⟩ := ht hall;have hh3 := hh.mono (S1.trans S2);refine iteF ⟨l, xs, ds, rfl, hh3, h8, fun l2 hl2 => ?_⟩;have S5 : Same H3 (upd H3 l2 (.lst ((ds.map HD.name).map V.str))) := Same.upd (Same.refl _) hl2;have hn : upd H3 l2 (.lst ((ds.map HD.name).map V.str)) l2 = some (.lst ((ds.map HD.name).map V.str)) := ze;generalize upd H3 l2 (.lst ((ds.map HD.name).map V.str)) = H5 at *
          have nm := nw (K := K) (m := 4) hn (by rw [Za]; omega) fun z hz => by
            obtain ⟨d, hd, rfl⟩ := Zp.mp hz;exact (hG d hd).name
          rw [Za] at nm;refine ⟨_, 4, _, rfl, nm, fun H6 S6 => ⟨_, rfl, ?_⟩⟩;have S36 := S5.trans S6
          by_cases hb : ((decide (1 <= ds.length) && decide (ds.length <= 4)) && decide (ds.map HD.name).Nodup) = true
          . rw [if_pos hb]
            rw [hb, Bool.true_and] at q;rw [Bool.and_eq_true, Bool.and_eq_true, decide_eq_true_iff, decide_eq_true_iff] at hb;refine ⟨l, xs, ds, rfl, hh3.mono S36, fun d hd => (hG d hd).words.2, hb.1.2, _, rfl, ?_⟩;have e : decide (((ds.map fun d => d.words.length).prod : Nat) <= (256 : Int)) = decide ((ds.map fun d => d.words.length).prod <= 256) := decide_eq_decide.mpr ⟨fun z => by omega, fun z => by omega⟩;rw [e];exact q _ (S1.trans (S2.trans S36))
          . rw [if_neg hb]
            have hb' := Bool.eq_false_iff.mpr hb;rw [hb', Bool.false_and] at q;exact q _ (S1.trans (S2.trans S36))
        . have h' := Bool.eq_false_iff.mpr hall
          rw [h'];rw [hf h'] at q;exact iteT (q _ (S1.trans S2))
theorem gd (B : Bt mg) (C : Ct K mg a) (vv : FnAt P w K mg base "makes_house" 6 ["outcomes", "hands"] (kj K)) (vg : FnAt P w K mg base "kept_hand" 2 ["hand"] (gk K)) (D : zt K mg "house_of" ua ["outcomes", "hands"]) : FnAtX P w K mg base "house_of" 7 ["outcomes", "hands"] (mz a K) := by
  refine FnAtX.of D q8 (fun vs H Q E h => ?_) (fun f cdv A outer s H vs Q E hr h => ?_)
  . obtain ⟨x, y, rfl, _⟩ := h
    rfl
  . obtain ⟨x, y, rfl, h⟩ := h
    refine ⟨_, (@zu _ _ _ _ _ (@yf _ _ _ _ _ _ _ _ (@y6 _ _ _ _ (xc (zw vv (hr.mono (by decide)) rfl (za (pv 0) (za (pv 1) (@zc _)))))) (@zk _ _ _ (jr rfl C.q_NoHouse.toErr rfl C.m_NoHouse (pj rfl) (za (@yh _ _ _ _) (@zc _)))) (@z5 _)) (@zk _ _ _ (PS.nox (@zr _ _ _ _ (@y9 _ _ _ _ _ (za (y4 xj rfl B.tuple xb (za (pv 0) (@zc _))) (za (y4 xj rfl B.tuple xb (za (yn ["hand"] ["outcomes", "hands"] rfl (@yu _ _ _ _ (pv 1)) (fun _ => (z7 (i := 0) (show (["hand", "outcomes", "hands"] : List Str).Nodup by decide +kernel) rfl (Or.inl rfl))) (fun _ => (@yi _)) (fun _ => (zw vg (hr.mono (by decide)) rfl (za (pv 0) (@zc _)))) rfl (by decide +kernel) rfl rfl) (@zc _))) (@zc _)))))))), ?_⟩;rw [show start ["outcomes", "hands"] [x, y] = [some x, some y] from rfl];simp only [zp, zq, ↓reduceIte]
    rcases h with ⟨M, e⟩ | ⟨o, b, outs, xs, ds, hv, ho, hh, g, q⟩
    . refine ⟨x, y, false, rfl, M, fun H1 S1 => ?_⟩
      simp only [zp, zq, ↓reduceIte];exact iteT ⟨by decide, e H1 S1⟩
    injection hv with h1 h2
    injection h2 with h2
    subst h1 h2;have g2 := g.hands;refine ⟨_, _, true, rfl, ff ho hh g, fun H1 S1 => ?_⟩;simp only [zp, zq, ↓reduceIte];have hh1 := hh.mono S1;have ho1 := S1 _ _ ho;refine iteF ⟨_, .of ho1, fun l hl => ?_⟩;have S2 : Same H1 (upd H1 l (.tup (outs.map V.str))) := Same.upd (Same.refl _) hl;have h2 : upd H1 l (.tup (outs.map V.str)) l = some (.tup (outs.map V.str)) := ze;generalize upd H1 l (.tup (outs.map V.str)) = H2 at *;have hh2 := hh1.mono S2;refine ⟨⟨_, .of hh2.at'⟩, fun d => ?_⟩;refine yq (xs := xs.map fun x => V.ref x.t) (PvD K ds H2) ⟨Same.refl _, rfl, TrsAt.nil⟩ ?_ ?_ ?_
    . rintro i ys H3 hi ⟨S, ly, _⟩
      rw [Za, hh.len] at hi;exact ⟨by rw [ly]; exact Zd hi (Zd g2.2 (by decide)), S.seq (.of hh2.at')⟩
    . rintro i y ys H3 hy ⟨S, ly, ty⟩
      obtain ⟨x, hx, rfl⟩ := xv hy;have hi : i < ds.length := by have := (Zc.mp hx).1; have := hh.len; omega
      have e2 : ds[i]? = some ds[i] := by simp [hi]
      have hm := Zl hi;have r8 : (ds[i]).worths.length <= 8 := by rw [g.rows _ hm]; exact (g.words1 _ hm).2
      simp only [zp, zq, ↓reduceIte];refine ⟨x, ds[i], rfl, (hh2.hand i x ds[i] hx e2).mono S, r8, fun H4 p S4 tp => ?_⟩;refine ⟨S.trans S4, by simp [ly], ?_⟩;rw [Zq, e2, Zn];exact TrsAt.append (TrsAt.mono S4 ty) (TrsAt.cons tp TrsAt.nil)
    . rintro ys H3 ⟨S, ly, ty⟩ l1 hl1
      rw [Za, hh.len, Zt] at ty;have S4 : Same H3 (upd H3 l1 (.lst ys)) := Same.upd (Same.refl _) hl1;refine ⟨_, .of ze, fun l2 hl2 => ⟨by decide, fun p hp => ?_⟩⟩;generalize upd H3 l1 (.lst ys) = H4 at *;have S5 : Same H4 (upd H4 l2 (.tup ys)) := Same.upd (Same.refl _) hl2;have h5 : upd H4 l2 (.tup ys) l2 = some (.tup ys) := ze;generalize upd H4 l2 (.tup ys) = H5 at *;have S6 : Same H5 (upd H5 p (.tup [V.ref l, V.ref l2])) := Same.upd (Same.refl _) hp;have S36 := S4.trans (S5.trans S6);exact q _ p _ (S1.trans (S2.trans (S.trans S36))) ze (TrAt.tp (.of ze) (TrsAt.cons (TrAt.tp (.of ((S.trans S36) _ _ h2)) (ri _)) (TrsAt.cons (TrAt.tp (.of (S6 _ _ h5)) (TrsAt.mono S36 ty)) TrsAt.nil)))
end
theorem ve {K : Fg} {H : Hp} {l : Addr} {xs : List V} {m : Nat} (hl : H l = some (.lst xs)) (h20 : xs.length <= 20) (hth : ∀ y ∈ xs, Thing H y) (hb : ¬ 1 <= xs.length \/ ¬ xs.length <= m \/ (∃ y ∈ xs, xa y = false) \/ ¬ xs.Nodup) : NamesA K H (.ref l) m false := by
  refine .inr ⟨l, xs, rfl, hl, h20, hth, ?_⟩
  rcases hb with h | h | ⟨y, hy, h⟩ | h
  . rw [decide_eq_false h]; rfl
  . rw [decide_eq_false h, Bool.and_false]; rfl
  . have : xs.all xa = false := by
      rw [List.all_eq_false];exact ⟨y, hy, by rw [h]; decide⟩
    rw [this, Bool.false_and, Bool.and_false]
  . rw [decide_eq_false h, Bool.and_false, Bool.and_false]
theorem wo {H : Hp} {zs : List Str} (hG : ∀ z ∈ zs, y2 z) : ∀ y ∈ zs.map V.str, Thing H y := fun y hy => by
  obtain ⟨z, hz, rfl⟩ := Zp.mp hy;exact .str z (Zd (hG z hz).2.1 (by decide))
theorem ic {α : Type} {xs : List α} {k : Nat} {x : α} (h : x ∈ xs) : ¬ (xs.take k ++ [x] ++ xs.drop k).Nodup := fun z => by
  rw [Yw, Yo] at z;obtain ⟨_, z2, z3⟩ := z;rw [<- List.take_append_drop k xs] at h
  rcases ZF.mp h with h | h
  . exact z3 x h x (by simp) rfl
  . exact (ZS.mp z2).1 h
def abcN (k : Nat) : Str := chr1 (97 + k)
theorem ux {k : Nat} (h : k < 26) : y2 (abcN k) := by
  refine ⟨Zm _, ?_, fun c hc => ?_⟩
  . show 1 <= 8
    decide
  . have : c = 97 + k := by
      have e : (abcN k).cps.toList = [97 + k] := rfl;rw [e] at hc;exact ZB.mp hc
    omega
theorem vb {K : Fg} {H : Hp} {l p p1 : Addr} {xs As : List V} {v : V} {J : Int} {R : V -> Hp -> Prop} (hl : H l = some (.lst xs)) (hp : H p = some (.lst As)) (h1 : H p1 = some (.lst [v])) {j : Nat} (hJ : J = (j : Int)) (hj : j <= xs.length) (hA : As.length <= 20) (hx : xs.length <= 20) (h : ∀ H' q, Same H H' -> H' q = some (.lst (As ++ [v] ++ xs.drop j)) -> R (.ref q) H') :
    ∃ x4, H p = some (.lst x4) /\ ∃ x5, H p1 = some (.lst x5) /\ x4.length + x5.length <= sizeLine /\ ∀ p2, H p2 = none -> ∃ x6, SqL K (upd H p2 (.lst (x4 ++ x5))) l x6 /\ ∀ p3, upd H p2 (.lst (x4 ++ x5)) p3 = none -> ∃ x7, upd (upd H p2 (.lst (x4 ++ x5))) p3 (.lst (cutV x6 (some J) none)) p2 = some (.lst x7) /\ ∃ x8, upd (upd H p2 (.lst (x4 ++ x5))) p3 (.lst (cutV x6 (some J) none)) p3 = some (.lst x8) /\ x7.length + x8.length <= sizeLine /\ ∀ p4, upd (upd H p2 (.lst (x4 ++ x5))) p3 (.lst (cutV x6 (some J) none)) p4 = none -> R (.ref p4) (upd (upd (upd H p2 (.lst (x4 ++ x5))) p3 (.lst (cutV x6 (some J) none))) p4 (.lst (x7 ++ x8))) := by
  refine ⟨_, hp, _, h1, Zd (show As.length + 1 <= 21 by omega) (by decide), fun p2 hp2 => ?_⟩;have s2 : Same H (upd H p2 (.lst (As ++ [v]))) := Same.upd (Same.refl _) hp2;have c2 : upd H p2 (.lst (As ++ [v])) p2 = some (.lst (As ++ [v])) := ze;generalize upd H p2 (.lst (As ++ [v])) = H2 at *;refine ⟨_, .of (s2 _ _ hl), fun p3 hp3 => ?_⟩;rw [hJ, la hj];have s3 : Same H2 (upd H2 p3 (.lst (xs.drop j))) := Same.upd (Same.refl _) hp3;have c3 : upd H2 p3 (.lst (xs.drop j)) p3 = some (.lst (xs.drop j)) := ze;generalize upd H2 p3 (.lst (xs.drop j)) = H3 at *;refine ⟨_, s3 _ _ c2, _, c3, ?_, fun p4 hp4 => h _ _ (s2.trans (s3.trans (Same.upd (Same.refl _) hp4))) ze⟩;rw [Zo, ZN];exact Zd (show As.length + 1 + _ <= 41 by omega) (by decide)
theorem cat3 {K : Fg} {H : Hp} {l : Addr} {xs : List V} {v : V} {I J : Int} {R : V -> Hp -> Prop} (hl : H l = some (.lst xs)) {i j : Nat} (hI : I = (i : Int)) (hi : i <= xs.length) (hJ : J = (j : Int)) (hj : j <= xs.length) (hx : xs.length <= 20) (h : ∀ H' q, Same H H' -> H' q = some (.lst (xs.take i ++ [v] ++ xs.drop j)) -> R (.ref q) H') :
    ∃ x, SqL K H l x /\ ∀ p, H p = none -> 1 <= sizeLine /\ ∀ p1, upd H p (.lst (cutV x none (some I))) p1 = none -> ∃ x4, upd (upd H p (.lst (cutV x none (some I)))) p1 (.lst [v]) p = some (.lst x4) /\ ∃ x5, upd (upd H p (.lst (cutV x none (some I)))) p1 (.lst [v]) p1 = some (.lst x5) /\ x4.length + x5.length <= sizeLine /\ ∀ p2, upd (upd H p (.lst (cutV x none (some I)))) p1 (.lst [v]) p2 = none -> ∃ x6, SqL K (upd (upd (upd H p (.lst (cutV x none (some I)))) p1 (.lst [v])) p2 (.lst (x4 ++ x5))) l x6 /\ ∀ p3, upd (upd (upd H p (.lst (cutV x none (some I)))) p1 (.lst [v])) p2 (.lst (x4 ++ x5)) p3 = none -> ∃ x7, upd (upd (upd (upd H p (.lst (cutV x none (some I)))) p1 (.lst [v])) p2 (.lst (x4 ++ x5))) p3 (.lst (cutV x6 (some J) none)) p2 = some (.lst x7) /\ ∃ x8, upd (upd (upd (upd H p (.lst (cutV x none (some I)))) p1 (.lst [v])) p2 (.lst (x4 ++ x5))) p3 (.lst (cutV x6 (some J) none)) p3 = some (.lst x8) /\ x7.length + x8.length <= sizeLine /\ ∀ p4, upd (upd (upd (upd H p (.lst (cutV x none (some I)))) p1 (.lst [v])) p2 (.lst (x4 ++ x5))) p3 (.lst (cutV x6 (some J) none)) p4 = none -> R (.ref p4) (upd (upd (upd (upd (upd H p (.lst (cutV x none (some I)))) p1 (.lst [v])) p2 (.lst (x4 ++ x5))) p3 (.lst (cutV x6 (some J) none))) p4 (.lst (x7 ++ x8))) := by
  refine ⟨_, .of hl, fun p hp => ⟨by decide, fun p1 hp1 => ?_⟩⟩;rw [hI, ww hi] at *;have s3 : Same H (upd H p (.lst (xs.take i))) := Same.upd (Same.refl _) hp;have c3 : upd H p (.lst (xs.take i)) p = some (.lst (xs.take i)) := ze;generalize upd H p (.lst (xs.take i)) = H3 at *;have s4 : Same H3 (upd H3 p1 (.lst [v])) := Same.upd (Same.refl _) hp1;have c4 : upd H3 p1 (.lst [v]) p1 = some (.lst [v]) := ze;generalize upd H3 p1 (.lst [v]) = H4 at *;exact vb ((s3.trans s4) _ _ hl) (s4 _ _ c3) c4 hJ hj (by rw [Zj]; omega) hx fun H' q S hq => h H' q (s3.trans (s4.trans S)) hq
theorem cat2 {K : Fg} {H : Hp} {l : Addr} {xs : List V} {I J : Int} {R : V -> Hp -> Prop} (hl : H l = some (.lst xs)) {i j : Nat} (hI : I = (i : Int)) (hi : i <= xs.length) (hJ : J = (j : Int)) (hj : j <= xs.length) (hx : xs.length <= 20) (h : ∀ H' q, Same H H' -> H' q = some (.lst (xs.take i ++ xs.drop j)) -> R (.ref q) H') :
    ∃ x, SqL K H l x /\ ∀ p, H p = none -> ∃ x1, SqL K (upd H p (.lst (cutV x none (some I)))) l x1 /\ ∀ p1, upd H p (.lst (cutV x none (some I))) p1 = none -> ∃ x2, upd (upd H p (.lst (cutV x none (some I)))) p1 (.lst (cutV x1 (some J) none)) p = some (.lst x2) /\ ∃ x3, upd (upd H p (.lst (cutV x none (some I)))) p1 (.lst (cutV x1 (some J) none)) p1 = some (.lst x3) /\ x2.length + x3.length <= sizeLine /\ ∀ p2, upd (upd H p (.lst (cutV x none (some I)))) p1 (.lst (cutV x1 (some J) none)) p2 = none -> R (.ref p2) (upd (upd (upd H p (.lst (cutV x none (some I)))) p1 (.lst (cutV x1 (some J) none))) p2 (.lst (x2 ++ x3))) := by
  refine ⟨_, .of hl, fun p hp => ?_⟩;rw [hI, ww hi, hJ];have s3 : Same H (upd H p (.lst (xs.take i))) := Same.upd (Same.refl _) hp;have c3 : upd H p (.lst (xs.take i)) p = some (.lst (xs.take i)) := ze;generalize upd H p (.lst (xs.take i)) = H3 at *;refine ⟨_, .of (s3 _ _ hl), fun p1 hp1 => ?_⟩;rw [la hj] at *;have s4 : Same H3 (upd H3 p1 (.lst (xs.drop j))) := Same.upd (Same.refl _) hp1;have c4 : upd H3 p1 (.lst (xs.drop j)) p1 = some (.lst (xs.drop j)) := ze;generalize upd H3 p1 (.lst (xs.drop j)) = H4 at *;refine ⟨_, s4 _ _ c3, _, c4, ?_, fun p2 hp2 => h _ _ (s3.trans (s4.trans (Same.upd (Same.refl _) hp2))) ze⟩;rw [Zj, ZN];exact Zd (show _ <= 40 by omega) (by decide)
theorem md {k : Nat} (h : k < 9) : (Str.ofString "abcdefghi").cps[k]? = some (97 + k) := by
  have : k = 0 \/ k = 1 \/ k = 2 \/ k = 3 \/ k = 4 \/ k = 5 \/ k = 6 \/ k = 7 \/ k = 8 := by omega
  rcases this with e | e | e | e | e | e | e | e | e <;> subst e <;> decide +kernel
def bads (p p1 : Addr) : List V := [V.str (Str.ofString ""), V.str (Str.ofString "A"), V.str (Str.ofString "abcdefghi"), V.str (Str.ofString "a b"), V.str (Str.ofString "a1"), V.str (Str.ofString "a\n"), V.non, V.int 5, V.ref p, V.ref p1, V.bl true]
theorem aa {H : Hp} {p p1 : Addr} {xs ys : List V} {c : Int} (h : H p = some (.lst xs)) (h1 : H p1 = some (.tup ys)) : ∃ v, atI (bads p p1) (c % 11) = some v /\ Thing H v /\ xa v = false := by
  have hidx : c % 11 = 0 \/ c % 11 = 1 \/ c % 11 = 2 \/ c % 11 = 3 \/ c % 11 = 4 \/ c % 11 = 5 \/ c % 11 = 6 \/ c % 11 = 7 \/ c % 11 = 8 \/ c % 11 = 9 \/ c % 11 = 10 := by omega
  rcases hidx with e | e | e | e | e | e | e | e | e | e | e <;> rw [e]
  . exact ⟨_, zj (j := 0) rfl, .str _ (by decide +kernel), by decide +kernel⟩
  . exact ⟨_, zj (j := 1) rfl, .str _ (by decide +kernel), by decide +kernel⟩
  . exact ⟨_, zj (j := 2) rfl, .str _ (by decide +kernel), by decide +kernel⟩
  . exact ⟨_, zj (j := 3) rfl, .str _ (by decide +kernel), by decide +kernel⟩
  . exact ⟨_, zj (j := 4) rfl, .str _ (by decide +kernel), by decide +kernel⟩
  . exact ⟨_, zj (j := 5) rfl, .str _ (by decide +kernel), by decide +kernel⟩
  . exact ⟨_, zj (j := 6) rfl, .non, rfl⟩
  . exact ⟨_, zj (j := 7) rfl, .int _, rfl⟩
  . exact ⟨_, zj (j := 8) rfl, .lst h, rfl⟩
  . exact ⟨_, zj (j := 9) rfl, .tup h1, rfl⟩
  . exact ⟨_, zj (j := 10) rfl, .bl _, rfl⟩
def qu (K : Fg) : Sp := fun vs H Q _ => ∃ (l : Addr) (zs : List Str) (c : Int), vs = [.ref l, .int c, .int 8] /\ H l = some (.lst (zs.map V.str)) /\ 1 <= zs.length /\ zs.length <= 8 /\ (∀ z ∈ zs, y2 z) /\ ∀ H' v, Same H H' -> NamesA K H' v 8 false -> Q v H'
def PvAb (H : Hp) (i : Nat) (ys : List V) (H' : Hp) : Prop := H' = H /\ ys = ((List.range i).map abcN).map V.str
section
variable {P : Program} {w : World} {K : Fg} {mg : Str -> Option Value} {base : Heap} {a : Ad}
theorem we (B : Bt mg) (D : zt K mg "_law_no_names" zm ["names", "cell", "top"]) : FnAt P w K mg base "_law_no_names" 1 ["names", "cell", "top"] (qu K) := by
  refine FnAt.of D sc_law_no_names (fun vs H Q E h => ?_) (fun f cdv A outer s H vs Q E hr h => ?_)
  . obtain ⟨l, zs, c, rfl, _⟩ := h
    rfl
  . obtain ⟨l, zs, c, rfl, hl, h1, h8, hG, q⟩ := h
    have s8 : PS ((cxOf CX0 P w K mg base ["names", "cell", "top", "place", "bad", "way", "other"] "_law_no_names" (zf zm) f cdv A outer s H E).nox) ((zi zm).getD 8 (.Pass ⟨0, 0, 0, 0⟩)) _ := (@zr _ _ _ _ (@zg _ _ _ _ _ _ _ _ xf (@zg _ _ _ _ _ _ _ _ xf (@ym _ _ _ _ _ _ _ _ _ _ yy (pv 0) (@yw _) (@yv _ _ _ (pv 3))) (@yb _ _ _ _ (za (pv 4) (@zc _)))) (@ym _ _ _ _ _ _ _ _ _ _ yy (pv 0) (@yv _ _ _ (@zg _ _ _ _ _ _ _ _ yt (pv 3) (@zb _ _ _ _))) (@yw _))));have b8 : PSs (cxOf CX0 P w K mg base ["names", "cell", "top", "place", "bad", "way", "other"] "_law_no_names" (zf zm) f cdv A outer s H E).nox ((zi zm).drop 8) _ := (@tq _ _ _ _ _ @s8 rfl rfl);have s7 : PS ((cxOf CX0 P w K mg base ["names", "cell", "top", "place", "bad", "way", "other"] "_law_no_names" (zf zm) f cdv A outer s H E).nox) ((zi zm).getD 7 (.Pass ⟨0, 0, 0, 0⟩)) _ := (@yf _ _ _ _ _ _ _ _ (@ye _ _ _ _ _ _ _ _ y3 (pv 5) (@zb _ _ _ _) (ya _)) (@zk _ _ _ (@zr _ _ _ _ (@z6 _ _ _ _ _ _ _ yo (@yb _ _ _ _ (za (@vk _ _ _) (za (@yh _ _ _ _) (za (@ky _ _) (za (@zb _ _ _ _) (@zc _)))))) (@zg _ _ _ _ _ _ _ _ z4 (@zg _ _ _ _ _ _ _ _ yc (pv 1) (@zb _ _ _ _)) (@zb _ _ _ _)) (fun _ _ => rfl)))) (@z5 _));have b7 : PSs (cxOf CX0 P w K mg base ["names", "cell", "top", "place", "bad", "way", "other"] "_law_no_names" (zf zm) f cdv A outer s H E).nox ((zi zm).drop 7) _ := (@yd _ _ _ _ _ _ @s7 rfl @b8);have s6 : PS ((cxOf CX0 P w K mg base ["names", "cell", "top", "place", "bad", "way", "other"] "_law_no_names" (zf zm) f cdv A outer s H E).nox) ((zi zm).getD 6 (.Pass ⟨0, 0, 0, 0⟩)) _ := (@yf _ _ _ _ _ _ _ _ (@ye _ _ _ _ _ _ _ _ y3 (pv 5) (@zb _ _ _ _) (ya _)) (@zk _ _ _ (@zr _ _ _ _ (y4 xj rfl B.tuple xb (za (pv 0) (@zc _))))) (@z5 _));have b6 : PSs (cxOf CX0 P w K mg base ["names", "cell", "top", "place", "bad", "way", "other"] "_law_no_names" (zf zm) f cdv A outer s H E).nox ((zi zm).drop 6) _ := (@yd _ _ _ _ _ _ @s6 rfl @b7);have s5 : PS ((cxOf CX0 P w K mg base ["names", "cell", "top", "place", "bad", "way", "other"] "_law_no_names" (zf zm) f cdv A outer s H E).nox) ((zi zm).getD 5 (.Pass ⟨0, 0, 0, 0⟩)) _ := (@yf _ _ _ _ _ _ _ _ (@ye _ _ _ _ _ _ _ _ y3 (pv 5) (@zb _ _ _ _) (ya _)) (@zu _ _ _ _ _ (@zy _ _ 6 _ _ _ _ sc_law_no_names.nd (by rfl) (by exact Or.inl rfl) (@zg _ _ _ _ _ _ _ _ z4 (@zg _ _ _ _ _ _ _ _ yc (pv 1) (@zb _ _ _ _)) (@zg _ _ _ _ _ _ _ _ yt (zo zz rfl B.len yp (za (pv 0) (@zc _))) (@zb _ _ _ _))) (by rfl) (by first | exact Or.inl rfl | exact Or.inr rfl)) (@zk _ _ _ (@zr _ _ _ _ (@zg _ _ _ _ _ _ _ _ xf (@zg _ _ _ _ _ _ _ _ xf (@ym _ _ _ _ _ _ _ _ _ _ yy (pv 0) (@yw _) (@yv _ _ _ (pv 6))) (@yb _ _ _ _ (za (@z6 _ _ _ _ _ _ _ yo (pv 0) (pv 3) (fun _ _ => rfl)) (@zc _)))) (@ym _ _ _ _ _ _ _ _ _ _ yy (pv 0) (@yv _ _ _ (pv 6)) (@yw _)))))) (@z5 _));have b5 : PSs (cxOf CX0 P w K mg base ["names", "cell", "top", "place", "bad", "way", "other"] "_law_no_names" (zf zm) f cdv A outer s H E).nox ((zi zm).drop 5) _ := (@yd _ _ _ _ _ _ @s5 rfl @b6);have s4 : PS ((cxOf CX0 P w K mg base ["names", "cell", "top", "place", "bad", "way", "other"] "_law_no_names" (zf zm) f cdv A outer s H E).nox) ((zi zm).getD 4 (.Pass ⟨0, 0, 0, 0⟩)) _ := (@yf _ _ _ _ _ _ _ _ (@ye _ _ _ _ _ _ _ _ y3 (pv 5) (@zb _ _ _ _) (ya _)) (@zk _ _ _ (@zr _ _ _ _ (yn ["k"] ["names", "cell", "top", "place", "bad", "way", "other"] rfl (x0 rfl B.range (za (@zg _ _ _ _ _ _ _ _ yt (pv 2) (@zb _ _ _ _)) (@zc _))) (fun _ => (z7 (i := 0) (show (["k", "names", "cell", "top", "place", "bad", "way", "other"] : List Str).Nodup by decide +kernel) rfl (Or.inl rfl))) (fun _ => (@yi _)) (fun _ => (@z6 _ _ _ _ _ _ _ t9 (@yh _ _ _ _) (pv 0) (fun _ _ => rfl))) rfl (by decide +kernel) rfl rfl))) (@z5 _));have b4 : PSs (cxOf CX0 P w K mg base ["names", "cell", "top", "place", "bad", "way", "other"] "_law_no_names" (zf zm) f cdv A outer s H E).nox ((zi zm).drop 4) _ := (@yd _ _ _ _ _ _ @s4 rfl @b5);have s3 : PS ((cxOf CX0 P w K mg base ["names", "cell", "top", "place", "bad", "way", "other"] "_law_no_names" (zf zm) f cdv A outer s H E).nox) ((zi zm).getD 3 (.Pass ⟨0, 0, 0, 0⟩)) _ := (@yf _ _ _ _ _ _ _ _ (@ye _ _ _ _ _ _ _ _ y3 (pv 5) (@zb _ _ _ _) (ya _)) (@zk _ _ _ (@zr _ _ _ _ (@yb _ _ _ _ (@zc _)))) (@z5 _));have b3 : PSs (cxOf CX0 P w K mg base ["names", "cell", "top", "place", "bad", "way", "other"] "_law_no_names" (zf zm) f cdv A outer s H E).nox ((zi zm).drop 3) _ := (@yd _ _ _ _ _ _ @s3 rfl @b4);have s2 : PS ((cxOf CX0 P w K mg base ["names", "cell", "top", "place", "bad", "way", "other"] "_law_no_names" (zf zm) f cdv A outer s H E).nox) ((zi zm).getD 2 (.Pass ⟨0, 0, 0, 0⟩)) _ := (@zy _ _ 5 _ _ _ _ sc_law_no_names.nd (by rfl) (by exact Or.inl rfl) (@zg _ _ _ _ _ _ _ _ z4 (pv 1) (@zb _ _ _ _)) (by rfl) (by first | exact Or.inl rfl | exact Or.inr rfl));have b2 : PSs (cxOf CX0 P w K mg base ["names", "cell", "top", "place", "bad", "way", "other"] "_law_no_names" (zf zm) f cdv A outer s H E).nox ((zi zm).drop 2) _ := (@yd _ _ _ _ _ _ @s2 rfl @b3);have s1 : PS ((cxOf CX0 P w K mg base ["names", "cell", "top", "place", "bad", "way", "other"] "_law_no_names" (zf zm) f cdv A outer s H E).nox) ((zi zm).getD 1 (.Pass ⟨0, 0, 0, 0⟩)) _ := (@zy _ _ 4 _ _ _ _ sc_law_no_names.nd (by rfl) (by exact Or.inl rfl) (@z6 _ _ _ _ _ _ _ yo (@yb _ _ _ _ (@za _ _ _ _ _ (@yh _ _ _ _) (@za _ _ _ _ _ (@yh _ _ _ _) (@za _ _ _ _ _ (@yh _ _ _ _) (@za _ _ _ _ _ (@yh _ _ _ _) (@za _ _ _ _ _ (@yh _ _ _ _) (@za _ _ _ _ _ (@yh _ _ _ _) (@za _ _ _ _ _ (@vk _ _ _) (@za _ _ _ _ _ (@zb _ _ _ _) (@za _ _ _ _ _ (@yb _ _ _ _ (@za _ _ _ _ _ (@yh _ _ _ _) (@zc _) (zh nofun))) (@za _ _ _ _ _ (@y9 _ _ _ _ _ (@za _ _ _ _ _ (@yh _ _ _ _) (@zc _) (zh nofun))) (@za _ _ _ _ _ (@xm _ _ _ _) (@zc _) (zh nofun)) (zh nofun)) (zh nofun)) (zh nofun)) (zh nofun)) (zh nofun)) (zh nofun)) (zh nofun)) (zh nofun)) (zh nofun)) (zh nofun))) (@zg _ _ _ _ _ _ _ _ z4 (@zg _ _ _ _ _ _ _ _ yc (pv 1) (@zb _ _ _ _)) (@zb _ _ _ _)) (fun _ _ => rfl)) (by rfl) (by first | exact Or.inl rfl | exact Or.inr rfl));have b1 : PSs (cxOf CX0 P w K mg base ["names", "cell", "top", "place", "bad", "way", "other"] "_law_no_names" (zf zm) f cdv A outer s H E).nox ((zi zm).drop 1) _ := (@yd _ _ _ _ _ _ @s1 rfl @b2);have s0 : PS ((cxOf CX0 P w K mg base ["names", "cell", "top", "place", "bad", "way", "other"] "_law_no_names" (zf zm) f cdv A outer s H E).nox) ((zi zm).getD 0 (.Pass ⟨0, 0, 0, 0⟩)) _ := (@zy _ _ 3 _ _ _ _ sc_law_no_names.nd (by rfl) (by exact Or.inl rfl) (@zg _ _ _ _ _ _ _ _ z4 (@zg _ _ _ _ _ _ _ _ yc (pv 1) (@zb _ _ _ _)) (zo zz rfl B.len yp (za (pv 0) (@zc _)))) (by rfl) (by first | exact Or.inl rfl | exact Or.inr rfl));have b0 : PSs (cxOf CX0 P w K mg base ["names", "cell", "top", "place", "bad", "way", "other"] "_law_no_names" (zf zm) f cdv A outer s H E).nox ((zi zm).drop 0) _ := (@yd _ _ _ _ _ _ @s0 rfl @b1);have b_ := @tu _ _ _ @b0;refine ⟨_, @b_, ?_⟩;clear b_ b0 b1 b2 b3 b4 b5 b6 b7 b8 s0 s1 s2 s3 s4 s5 s6 s7 s8;rw [show start ["names", "cell", "top", "place", "bad", "way", "other"] [V.ref l, V.int c, V.int 8] = [some (V.ref l), some (V.int c), some (V.int 8), none, none, none, none] from rfl];refine hide3 fun T hT => ?_
    simp only [zp, zq, ↓reduceIte];refine ⟨⟨by decide, by decide⟩, _, .inl (.of hl), by rw [Za]; omega, by decide, fun p hp => ⟨by decide, fun p1 hp1 => ⟨by decide, fun p2 hp2 => ⟨⟨by decide, by decide⟩, by decide, ?_⟩⟩⟩⟩;have s0 : Same H (upd H p (.lst [V.str (Str.ofString "a")])) := Same.upd (Same.refl _) hp;have c0 : upd H p (.lst [V.str (Str.ofString "a")]) p = some (.lst [V.str (Str.ofString "a")]) := ze;generalize upd H p (.lst [V.str (Str.ofString "a")]) = A0 at *;have s1 : Same A0 (upd A0 p1 (.tup [V.str (Str.ofString "a")])) := Same.upd (Same.refl _) hp1;have c1 : upd A0 p1 (.tup [V.str (Str.ofString "a")]) p1 = some (.tup [V.str (Str.ofString "a")]) := ze;generalize upd A0 p1 (.tup [V.str (Str.ofString "a")]) = A1 at *;have s2 : Same A1 (upd A1 p2 (.lst [V.str (Str.ofString ""), V.str (Str.ofString "A"), V.str (Str.ofString "abcdefghi"), V.str (Str.ofString "a b"), V.str (Str.ofString "a1"), V.str (Str.ofString "a\n"), V.non, V.int 5, V.ref p, V.ref p1, V.bl true])) := Same.upd (Same.refl _) hp2;have c2 : upd A1 p2 (.lst [V.str (Str.ofString ""), V.str (Str.ofString "A"), V.str (Str.ofString "abcdefghi"), V.str (Str.ofString "a b"), V.str (Str.ofString "a1"), V.str (Str.ofString "a\n"), V.non, V.int 5, V.ref p, V.ref p1, V.bl true]) p2 = some (.lst (bads p p1)) := ze;generalize upd A1 p2 (.lst [V.str (Str.ofString ""), V.str (Str.ofString "A"), V.str (Str.ofString "abcdefghi"), V.str (Str.ofString "a b"), V.str (Str.ofString "a1"), V.str (Str.ofString "a\n"), V.non, V.int 5, V.ref p, V.ref p1, V.bl true]) = A2 at *;have S := s0.trans (s1.trans s2);obtain ⟨v, hv, tv, nv⟩ := aa (H := A2) (c := c / 128) ((s1.trans s2) _ _ c0) (s2 _ _ c1);refine ⟨_, .of c2, v, hv, by decide, ?_⟩;have hl2 := S _ _ hl;have q2 : ∀ H' v, Same A2 H' -> NamesA K H' v 8 false -> Q v H' := fun H' v z => q H' v (S.trans z)
    clear hp hp1 hp2 s0 s1 s2 c0 c1 c2 hv S q hl;generalize A2 = H at *;rw [hT];clear hT T;simp only [zp, zq, ↓reduceIte];rw [Za];have hpl := yl (c / 16) (show (0 : Int) < zs.length by omega);obtain ⟨pn, hpn⟩ : ∃ pn : Nat, c / 16 % (zs.length : Int) = pn := ⟨(c / 16 % (zs.length : Int)).toNat, by omega⟩;rw [hpn] at hpl ⊢;have hpz : pn < zs.length := by omega
    have ez : (zs.map V.str)[pn]? = some (V.str zs[pn]) := by rw [Ze, Zb hpz]; rfl
    have ths := wo (H := H) hG;refine ⟨rfl, ite2 (fun _ => ⟨by decide, fun p3 hp3 => q2 _ _ (Same.upd (Same.refl _) hp3) (ve ze (by decide) (fun y hy => nomatch hy) (.inl (by decide)))⟩) fun _ => ⟨rfl, ite2 (fun _ => ⟨by decide, by decide, fun d => ?_⟩) fun _ => ⟨rfl, ite2 (fun _ => ?_) fun _ => ⟨rfl, ite2 (fun _ => ?_) fun _ => ⟨rfl, ite2 (fun _ => ?_) fun _ => ?_⟩⟩⟩⟩⟩
    . refine wp (PvAb H) ⟨rfl, rfl⟩ ?_ ?_ ?_
      . rintro i ys H' hi ⟨rfl, rfl⟩
        rw [Za, Za, ZI];exact Zd hi (by decide)
      . rintro i ys H' hi ⟨rfl, rfl⟩
        have hi9 : i < 9 := hi;simp only [zp, zq, ↓reduceIte];refine ⟨by decide +kernel, 97 + i, zj (by have := md hi9; simpa using this), rfl, ?_⟩;rw [ZQ, Zn, Zn];rfl
      . rintro ys H' ⟨rfl, rfl⟩ p hp
        have hg : ∀ z ∈ (List.range 9).map abcN, y2 z := fun z hz => by
          obtain ⟨k, hk, rfl⟩ := Zp.mp hz;exact ux (by have := ZM.mp hk; omega)
        exact q2 _ _ (Same.upd (Same.refl _) hp) (ve ze (by rw [Za, Za, ZI]; decide) (wo hg) (.inr (.inl (by rw [Za, Za, ZI]; decide))))
    . have ho := yl (c / 2048) (show (0 : Int) < (zs.length : Int) + 1 by omega)
      obtain ⟨k, hk⟩ : ∃ k : Nat, c / 2048 % ((zs.length : Int) + 1) = k := ⟨(c / 2048 % ((zs.length : Int) + 1)).toNat, by omega⟩;have hkz : k <= (zs.map V.str).length := by rw [Za]; omega
      refine ⟨⟨by decide, by decide⟩, _, .inl (.of hl2), by omega, _, .of hl2, fun p hp => ?_⟩;rw [Za, hk, ww hkz];have s3 : Same H (upd H p (.lst ((zs.map V.str).take k))) := Same.upd (Same.refl _) hp;have c3 : upd H p (.lst ((zs.map V.str).take k)) p = some (.lst ((zs.map V.str).take k)) := ze;generalize upd H p (.lst ((zs.map V.str).take k)) = H3 at *;refine ⟨_, .of (s3 _ _ hl2), _, zj ez, by decide, fun p1 hp1 => ?_⟩;have s4 : Same H3 (upd H3 p1 (.lst [V.str zs[pn]])) := Same.upd (Same.refl _) hp1;have c4 : upd H3 p1 (.lst [V.str zs[pn]]) p1 = some (.lst [V.str zs[pn]]) := ze;generalize upd H3 p1 (.lst [V.str zs[pn]]) = H4 at *;refine vb ((s3.trans s4) _ _ hl2) (s4 _ _ c3) c4 (j := k) rfl hkz (by rw [Zj, Za]; omega) (by rw [Za]; omega) fun H' p5 S5 h5 => q2 _ _ (s3.trans (s4.trans S5)) (ve h5 ?_ (fun y hy => ?_) (.inr (.inr (.inr (ic (Zi ez))))))
      . simp only [Zo, Zj, ZN, Za, ZR, Ys]
        omega
      . have hm : y ∈ zs.map V.str := by
          rcases ZF.mp hy with z | z
          . rcases ZF.mp z with z | z
            . exact Yj z
            . rw [ZB.mp z]; exact Zi ez
          . exact Yk z
        exact wo hG y hm
    . exact ⟨_, .of hl2, fun p hp => q2 _ _ (Same.upd (Same.refl _) hp) (.inl ⟨rfl, _, .tup ze, kitL.2.2.2.2.2.1⟩)⟩
    . refine fun p hp => ⟨by decide, fun p1 hp1 => ⟨⟨by decide, by decide⟩, by decide, _, .of ze, ?_⟩⟩
      have s3 : Same H (upd H p (.dK [])) := Same.upd (Same.refl _) hp;have c3 : upd H p (.dK []) p = some (.dK []) := ze;generalize upd H p (.dK []) = H3 at *;have s4 : Same H3 (upd H3 p1 (.lst [V.non, V.str (Str.ofString "ab"), V.ref p, V.int 3])) := Same.upd (Same.refl _) hp1;generalize upd H3 p1 (.lst [V.non, V.str (Str.ofString "ab"), V.ref p, V.int 3]) = H4 at *;have hidx : c / 16 % 4 = 0 \/ c / 16 % 4 = 1 \/ c / 16 % 4 = 2 \/ c / 16 % 4 = 3 := by omega
      rcases hidx with e | e | e | e <;> rw [e]
      . exact ⟨_, zj (j := 0) rfl, q2 _ _ (s3.trans s4) (.inl ⟨rfl, _, .non, kitL.2.1⟩)⟩
      . exact ⟨_, zj (j := 1) rfl, q2 _ _ (s3.trans s4) (.inl ⟨rfl, _, .str _, kitL.1⟩)⟩
      . exact ⟨_, zj (j := 2) rfl, q2 _ _ (s3.trans s4) (.inl ⟨rfl, _, .dK (s4 _ _ c3), kitL.2.2.2.2.2.2⟩)⟩
      . exact ⟨_, zj (j := 3) rfl, q2 _ _ (s3.trans s4) (.inl ⟨rfl, _, .int _, kitL.2.2.2.1⟩)⟩
    . have hkz : pn <= (zs.map V.str).length := by rw [Za]; omega
      refine ⟨_, .of hl2, fun p hp => ⟨by decide, ?_⟩⟩;rw [ww hkz];have s3 : Same H (upd H p (.lst ((zs.map V.str).take pn))) := Same.upd (Same.refl _) hp;have c3 : upd H p (.lst ((zs.map V.str).take pn)) p = some (.lst ((zs.map V.str).take pn)) := ze;generalize upd H p (.lst ((zs.map V.str).take pn)) = H3 at *;intro p1 hp1;have s4 : Same H3 (upd H3 p1 (.lst [v])) := Same.upd (Same.refl _) hp1;have c4 : upd H3 p1 (.lst [v]) p1 = some (.lst [v]) := ze;generalize upd H3 p1 (.lst [v]) = H4 at *;refine vb ((s3.trans s4) _ _ hl2) (s4 _ _ c3) c4 (j := pn + 1) (by omega) (by rw [Za]; omega) (by rw [Zj, Za]; omega) (by rw [Za]; omega) fun H' p5 S5 h5 => q2 _ _ (s3.trans (s4.trans S5)) (ve h5 ?_ (fun y hy => ?_) (.inr (.inr (.inl ⟨v, by simp, nv⟩))))
      . simp only [Zo, Zj, ZN, Za, ZR, Ys]
        omega
      . rcases ZF.mp hy with z | z
        . rcases ZF.mp z with z | z
          . exact wo hG y (Yj z)
          . rw [ZB.mp z]
            exact tv.mono (s3.trans (s4.trans S5))
        . exact wo hG y (Yk z)
end
theorem me {R : V -> Bool -> Prop} : ∀ {xs : List V}, (∀ y ∈ xs, ∃ c, R y c) -> ∃ cs : List Bool, cs.length = xs.length /\ (∀ (i : Nat) (y : V) (c : Bool), xs[i]? = some y -> cs[i]? = some c -> R y c) /\ ((∃ y ∈ xs, R y false) -> ∃ cs : List Bool, cs.length = xs.length /\ (∀ (i : Nat) (y : V) (c : Bool), xs[i]? = some y -> cs[i]? = some c -> R y c) /\ cs.all id = false)
  | [], _ => ⟨[], rfl, fun i y c e => by simp at e, fun ⟨y, hy, _⟩ => nomatch hy⟩
  | x :: xs, h => by
    obtain ⟨cs, l1, p1, f1⟩ := me (xs := xs) fun y hy => h y (Zv _ hy)
    obtain ⟨c0, h0⟩ := h x Zz
    have cons : ∀ (c : Bool) (cs : List Bool), R x c -> cs.length = xs.length -> (∀ (i : Nat) (y : V) (c : Bool), xs[i]? = some y -> cs[i]? = some c -> R y c) -> (c :: cs).length = (x :: xs).length /\ ∀ (i : Nat) (y : V) (d : Bool), (x :: xs)[i]? = some y -> (c :: cs)[i]? = some d -> R y d := fun c cs r l p => ⟨by simp [l], fun i y d e1 e2 => by
      cases i with
      | zero =>
        simp at e1 e2;rw [<- e1, <- e2];exact r
      | succ i => exact p i y d (by simpa using e1) (by simpa using e2)⟩
    obtain ⟨a1, a2⟩ := cons c0 cs h0 l1 p1;refine ⟨c0 :: cs, a1, a2, fun ⟨y, hy, hf⟩ => ?_⟩
    rcases ZJ.mp hy with e | hy'
    . rw [e] at hf
      obtain ⟨a3, a4⟩ := cons false cs hf l1 p1;exact ⟨_, a3, a4, rfl⟩
    . obtain ⟨ds, l2, p2, e2⟩ := f1 ⟨y, hy', hf⟩
      obtain ⟨a3, a4⟩ := cons c0 ds h0 l2 p2;exact ⟨_, a3, a4, by rw [Yp, e2, Bool.and_false]⟩
theorem sw {K : Fg} {H : Hp} {l : Addr} {xs : List V} {h n : Nat} (hl : H l = some (.lst xs)) (h20 : xs.length <= 20) (each : ∀ y ∈ xs, ∃ c, RowA K H y n c) (bad : xs.length ≠ h \/ ∃ y ∈ xs, RowA K H y n false) : WorthsA K H (.ref l) h n false := by
  obtain ⟨cs, l1, p1, f1⟩ := me (R := fun y c => RowA K H y n c) each
  rcases bad with z | z
  . exact .inr ⟨l, xs, cs, rfl, hl, h20, l1, p1, by rw [decide_eq_false z]; rfl⟩
  . obtain ⟨ds, l2, p2, e2⟩ := f1 z
    exact .inr ⟨l, xs, ds, rfl, hl, h20, l2, p2, by rw [e2, Bool.and_false]⟩
theorem oh {K : Fg} {H : Hp} {l : Addr} {xs : List V} {n : Nat} (hl : H l = some (.lst xs)) (h20 : xs.length <= 20) (hth : ∀ y ∈ xs, Thing H y) (hb : xs.length ≠ n \/ ∃ y ∈ xs, vj y = false) : RowA K H (.ref l) n false := by
  refine .inr ⟨l, xs, rfl, hl, h20, hth, ?_⟩
  rcases hb with h | ⟨y, hy, h⟩
  . rw [decide_eq_false h]; rfl
  . have : xs.all vj = false := by
      rw [List.all_eq_false];exact ⟨y, hy, by rw [h]; decide⟩
    rw [this, Bool.and_false]
structure RowsAt (H : Hp) (gs : List Addr) (rows : List (List Int)) (n : Nat) : Prop where
  len : gs.length = rows.length
  row : ∀ (i : Nat) (r : Addr) (ns : List Int), gs[i]? = some r -> rows[i]? = some ns -> H r = some (.lst (ns.map V.int))
  good : ∀ r ∈ rows, r.length = n /\ ∀ i ∈ r, u5 i
theorem RowsAt.mono {H H' : Hp} {gs : List Addr} {rows : List (List Int)} {n : Nat} (S : Same H H') (h : RowsAt H gs rows n) : RowsAt H' gs rows n := ⟨h.len, fun i r ns e1 e2 => S _ _ (h.row i r ns e1 e2), h.good⟩
theorem RowsAt.each {K : Fg} {H : Hp} {gs : List Addr} {rows : List (List Int)} {n : Nat} (hn : n <= 8) (h : RowsAt H gs rows n) {y : V} (hy : y ∈ gs.map V.ref) : RowA K H y n true := by
  obtain ⟨r, hr, rfl⟩ := Zp.mp hy;obtain ⟨i, hi⟩ := List.getElem?_of_mem hr;have li := (Zc.mp hi).1;have lt : i < rows.length := by rw [<- h.len]; exact li
  have g := h.good rows[i] (Zl lt);exact mi (h.row i r rows[i] hi (Zb lt)) g.1 (by omega) g.2
def somes (c : Int) (p p1 : Addr) : List V := [V.bl true, V.non, V.str (Str.ofString "1"), V.int (10 ^ Int.toNat 60 + c % 10 ^ Int.toNat 60), V.int (0 - 10 ^ Int.toNat 60 - c % 10 ^ Int.toNat 60), V.ref p, V.ref p1, V.bl false]
theorem fz {i : Int} (h : (10 : Int) ^ 60 <= i \/ i <= -(10 : Int) ^ 60) : vj (.int i) = false := by
  show decide _ = false
  apply decide_eq_false
  have : (0 : Int) < 10 ^ 60 := by decide
  generalize (10 : Int) ^ 60 = T at *
  split <;> omega
theorem bb {H : Hp} {p p1 : Addr} {xs ys : List V} {c k : Int} (h : H p = some (.lst xs)) (h1 : H p1 = some (.tup ys)) : ∃ v, atI (somes c p p1) (k % 8) = some v /\ Thing H v /\ vj v = false := by
  have hidx : k % 8 = 0 \/ k % 8 = 1 \/ k % 8 = 2 \/ k % 8 = 3 \/ k % 8 = 4 \/ k % 8 = 5 \/ k % 8 = 6 \/ k % 8 = 7 := by omega
  have e60 : (10 : Int) ^ Int.toNat 60 = 10 ^ 60 := rfl;have hm := yl c (show (0 : Int) < 10 ^ 60 by decide)
  rcases hidx with e | e | e | e | e | e | e | e <;> rw [e]
  . exact ⟨_, zj (j := 0) rfl, .bl _, rfl⟩
  . exact ⟨_, zj (j := 1) rfl, .non, rfl⟩
  . exact ⟨_, zj (j := 2) rfl, .str _ (by decide +kernel), rfl⟩
  . refine ⟨_, zj (j := 3) rfl, .int _, fz (.inl ?_)⟩
    rw [e60];generalize (10 : Int) ^ 60 = T at *;omega
  . refine ⟨_, zj (j := 4) rfl, .int _, fz (.inr ?_)⟩
    rw [e60];generalize (10 : Int) ^ 60 = T at *;omega
  . exact ⟨_, zj (j := 5) rfl, .lst h, rfl⟩
  . exact ⟨_, zj (j := 6) rfl, .tup h1, rfl⟩
  . exact ⟨_, zj (j := 7) rfl, .bl _, rfl⟩
theorem rl {H : Hp} {ns : List Int} : ∀ y ∈ ns.map V.int, Thing H y := fun y hy => by
  obtain ⟨z, hz, rfl⟩ := Zp.mp hy;exact .int z
theorem mem3 {α : Type} {xs : List α} {i j : Nat} {v y : α} (h : y ∈ xs.take i ++ [v] ++ xs.drop j) : y ∈ xs \/ y = v := by
  rcases ZF.mp h with z | z
  . rcases ZF.mp z with z | z
    . exact .inl (Yj z)
    . exact .inr (ZB.mp z)
  . exact .inl (Yk z)
theorem mem2 {α : Type} {xs : List α} {i j : Nat} {y : α} (h : y ∈ xs.take i ++ xs.drop j) : y ∈ xs := by
  rcases ZF.mp h with z | z
  . exact Yj z
  . exact Yk z
theorem len3 {α : Type} {xs : List α} {i j : Nat} {v : α} (hi : i <= xs.length) (hj : j <= xs.length) : (xs.take i ++ [v] ++ xs.drop j).length = i + 1 + (xs.length - j) := by
  simp only [Zo, Zj, ZN, ZR, Ys];omega
theorem len2 {α : Type} {xs : List α} {i j : Nat} (hi : i <= xs.length) (hj : j <= xs.length) : (xs.take i ++ xs.drop j).length = i + (xs.length - j) := by
  simp only [Zo, Zj, ZN];omega
def ny (K : Fg) : Sp := fun vs H Q _ => ∃ (g : Addr) (gs : List Addr) (rows : List (List Int)) (n : Nat) (c : Int), vs = [.ref g, .int c] /\ H g = some (.lst (gs.map V.ref)) /\ RowsAt H gs rows n /\ 1 <= rows.length /\ rows.length <= 8 /\ 1 <= n /\ n <= 8 /\ ∀ H' v, Same H H' -> WorthsA K H' v rows.length n false -> Q v H'
section
variable {P : Program} {w : World} {K : Fg} {mg : Str -> Option Value} {base : Heap} {a : Ad}
theorem ug (B : Bt mg) (D : zt K mg "_law_no_worths" zl ["worths", "cell"]) : FnAt P w K mg base "_law_no_worths" 1 ["worths", "cell"] (ny K) := by
  refine FnAt.of D sc_law_no_worths (fun vs H Q E h => ?_) (fun f cdv A outer s H vs Q E hr h => ?_)
  . obtain ⟨g, gs, rows, n, c, rfl, _⟩ := h
    rfl
  . obtain ⟨g, gs, rows, n, c, rfl, hg, R, r1, r8, n1, n8, q⟩ := h
    have s8 : PS ((cxOf CX0 P w K mg base ["worths", "cell", "place", "row", "at", "some", "way"] "_law_no_worths" (zf zl) f cdv A outer s H E).nox) ((zi zl).getD 8 (.Pass ⟨0, 0, 0, 0⟩)) _ := (@zr _ _ _ _ (@zg _ _ _ _ _ _ _ _ xf (@zg _ _ _ _ _ _ _ _ xf (@ym _ _ _ _ _ _ _ _ _ _ yy (pv 0) (@yw _) (@yv _ _ _ (pv 2))) (@yb _ _ _ _ (za (pv 3) (@zc _)))) (@ym _ _ _ _ _ _ _ _ _ _ yy (pv 0) (@yv _ _ _ (@zg _ _ _ _ _ _ _ _ yt (pv 2) (@zb _ _ _ _))) (@yw _))));have b8 : PSs (cxOf CX0 P w K mg base ["worths", "cell", "place", "row", "at", "some", "way"] "_law_no_worths" (zf zl) f cdv A outer s H E).nox ((zi zl).drop 8) _ := (@tq _ _ _ _ _ @s8 rfl rfl);have s7 : PS ((cxOf CX0 P w K mg base ["worths", "cell", "place", "row", "at", "some", "way"] "_law_no_worths" (zf zl) f cdv A outer s H E).nox) ((zi zl).getD 7 (.Pass ⟨0, 0, 0, 0⟩)) _ := (@yf _ _ _ _ _ _ _ _ (@ye _ _ _ _ _ _ _ _ y3 (pv 6) (@zb _ _ _ _) (ya _)) (@zk _ _ _ (@zy _ _ 3 _ _ _ _ sc_law_no_worths.nd (by rfl) (by exact Or.inl rfl) (@zg _ _ _ _ _ _ _ _ xf (@ym _ _ _ _ _ _ _ _ _ _ yy (pv 3) (@yw _) (@yv _ _ _ (pv 4))) (@ym _ _ _ _ _ _ _ _ _ _ yy (pv 3) (@yv _ _ _ (@zg _ _ _ _ _ _ _ _ yt (pv 4) (@zb _ _ _ _))) (@yw _))) (by rfl) (by first | exact Or.inl rfl | exact Or.inr rfl))) (@zk _ _ _ (@yf _ _ _ _ _ _ _ _ (@ye _ _ _ _ _ _ _ _ y3 (pv 6) (@zb _ _ _ _) (ya _)) (@zk _ _ _ (@zy _ _ 3 _ _ _ _ sc_law_no_worths.nd (by rfl) (by exact Or.inl rfl) (@zg _ _ _ _ _ _ _ _ xf (@zg _ _ _ _ _ _ _ _ xf (@ym _ _ _ _ _ _ _ _ _ _ yy (pv 3) (@yw _) (@yv _ _ _ (pv 4))) (@yb _ _ _ _ (za (@zb _ _ _ _) (@zc _)))) (@ym _ _ _ _ _ _ _ _ _ _ yy (pv 3) (@yv _ _ _ (pv 4)) (@yw _))) (by rfl) (by first | exact Or.inl rfl | exact Or.inr rfl))) (@zk _ _ _ (@yf _ _ _ _ _ _ _ _ (@ye _ _ _ _ _ _ _ _ y3 (pv 6) (@zb _ _ _ _) (ya _)) (@zk _ _ _ (@zy _ _ 3 _ _ _ _ sc_law_no_worths.nd (by rfl) (by exact Or.inl rfl) (y4 xj rfl B.tuple xb (za (pv 3) (@zc _))) (by rfl) (by first | exact Or.inl rfl | exact Or.inr rfl))) (@zk _ _ _ (@zy _ _ 3 _ _ _ _ sc_law_no_worths.nd (by rfl) (by exact Or.inl rfl) (@zg _ _ _ _ _ _ _ _ xf (@zg _ _ _ _ _ _ _ _ xf (@ym _ _ _ _ _ _ _ _ _ _ yy (pv 3) (@yw _) (@yv _ _ _ (pv 4))) (@yb _ _ _ _ (za (@z6 _ _ _ _ _ _ _ yo (pv 5) (@zg _ _ _ _ _ _ _ _ z4 (@zg _ _ _ _ _ _ _ _ yc (pv 1) (@zb _ _ _ _)) (@zb _ _ _ _)) (fun _ _ => rfl)) (@zc _)))) (@ym _ _ _ _ _ _ _ _ _ _ yy (pv 3) (@yv _ _ _ (@zg _ _ _ _ _ _ _ _ yt (pv 4) (@zb _ _ _ _))) (@yw _))) (by rfl) (by first | exact Or.inl rfl | exact Or.inr rfl))))))));have b7 : PSs (cxOf CX0 P w K mg base ["worths", "cell", "place", "row", "at", "some", "way"] "_law_no_worths" (zf zl) f cdv A outer s H E).nox ((zi zl).drop 7) _ := (@yd _ _ _ _ _ _ @s7 rfl @b8);have s6 : PS ((cxOf CX0 P w K mg base ["worths", "cell", "place", "row", "at", "some", "way"] "_law_no_worths" (zf zl) f cdv A outer s H E).nox) ((zi zl).getD 6 (.Pass ⟨0, 0, 0, 0⟩)) _ := (@yf _ _ _ _ _ _ _ _ (@ye _ _ _ _ _ _ _ _ y3 (pv 6) (@zb _ _ _ _) (ya _)) (@zk _ _ _ (@zr _ _ _ _ (@zg _ _ _ _ _ _ _ _ xf (@zg _ _ _ _ _ _ _ _ xf (@ym _ _ _ _ _ _ _ _ _ _ yy (pv 0) (@yw _) (@yv _ _ _ (pv 2))) (@yb _ _ _ _ (za (y4 t6 rfl B.list wf (za (pv 3) (@zc _))) (@zc _)))) (@ym _ _ _ _ _ _ _ _ _ _ yy (pv 0) (@yv _ _ _ (pv 2)) (@yw _))))) (@z5 _));have b6 : PSs (cxOf CX0 P w K mg base ["worths", "cell", "place", "row", "at", "some", "way"] "_law_no_worths" (zf zl) f cdv A outer s H E).nox ((zi zl).drop 6) _ := (@yd _ _ _ _ _ _ @s6 rfl @b7);have s5 : PS ((cxOf CX0 P w K mg base ["worths", "cell", "place", "row", "at", "some", "way"] "_law_no_worths" (zf zl) f cdv A outer s H E).nox) ((zi zl).getD 5 (.Pass ⟨0, 0, 0, 0⟩)) _ := (@yf _ _ _ _ _ _ _ _ (@ye _ _ _ _ _ _ _ _ y3 (pv 6) (@zb _ _ _ _) (ya _)) (@zk _ _ _ (@zr _ _ _ _ (@zg _ _ _ _ _ _ _ _ xf (@ym _ _ _ _ _ _ _ _ _ _ yy (pv 0) (@yw _) (@yv _ _ _ (pv 2))) (@ym _ _ _ _ _ _ _ _ _ _ yy (pv 0) (@yv _ _ _ (@zg _ _ _ _ _ _ _ _ yt (pv 2) (@zb _ _ _ _))) (@yw _))))) (@z5 _));have b5 : PSs (cxOf CX0 P w K mg base ["worths", "cell", "place", "row", "at", "some", "way"] "_law_no_worths" (zf zl) f cdv A outer s H E).nox ((zi zl).drop 5) _ := (@yd _ _ _ _ _ _ @s5 rfl @b6);have s4 : PS ((cxOf CX0 P w K mg base ["worths", "cell", "place", "row", "at", "some", "way"] "_law_no_worths" (zf zl) f cdv A outer s H E).nox) ((zi zl).getD 4 (.Pass ⟨0, 0, 0, 0⟩)) _ := (@zy _ _ 6 _ _ _ _ sc_law_no_worths.nd (by rfl) (by exact Or.inl rfl) (@zg _ _ _ _ _ _ _ _ z4 (pv 1) (@zb _ _ _ _)) (by rfl) (by first | exact Or.inl rfl | exact Or.inr rfl));have b4 : PSs (cxOf CX0 P w K mg base ["worths", "cell", "place", "row", "at", "some", "way"] "_law_no_worths" (zf zl) f cdv A outer s H E).nox ((zi zl).drop 4) _ := (@yd _ _ _ _ _ _ @s4 rfl @b5);have s3 : PS ((cxOf CX0 P w K mg base ["worths", "cell", "place", "row", "at", "some", "way"] "_law_no_worths" (zf zl) f cdv A outer s H E).nox) ((zi zl).getD 3 (.Pass ⟨0, 0, 0, 0⟩)) _ := (@zy _ _ 5 _ _ _ _ sc_law_no_worths.nd rfl (Or.inl rfl) (@yb _ _ _ _ (@za _ _ _ _ _ (@xm _ _ _ _) (@za _ _ _ _ _ (@vk _ _ _) (@za _ _ _ _ _ (@yh _ _ _ _) (@za _ _ _ _ _ (@zg _ _ _ _ _ _ _ _ yt (@zg _ _ _ _ _ _ _ _ vc (@zb _ _ _ _) (@zb _ _ _ _)) (@zg _ _ _ _ _ _ _ _ z4 (pv 1) (@zg _ _ _ _ _ _ _ _ vc (@zb _ _ _ _) (@zb _ _ _ _)))) (@za _ _ _ _ _ (@zg _ _ _ _ _ _ _ _ ue (@zg _ _ _ _ _ _ _ _ ue (@zb _ _ _ _) (@zg _ _ _ _ _ _ _ _ vc (@zb _ _ _ _) (@zb _ _ _ _))) (@zg _ _ _ _ _ _ _ _ z4 (pv 1) (@zg _ _ _ _ _ _ _ _ vc (@zb _ _ _ _) (@zb _ _ _ _)))) (@za _ _ _ _ _ (@yb _ _ _ _ (@za _ _ _ _ _ (@zb _ _ _ _) (@zc _) (zh nofun))) (@za _ _ _ _ _ (@y9 _ _ _ _ _ (@za _ _ _ _ _ (@zb _ _ _ _) (@zc _) (zh nofun))) (@za _ _ _ _ _ (@xm _ _ _ _) (@zc _) (zh nofun)) (zh nofun)) (zh nofun)) (zh nofun)) (zh nofun)) (zh nofun)) (zh nofun)) (zh nofun))) rfl (Or.inl rfl));have b3 : PSs (cxOf CX0 P w K mg base ["worths", "cell", "place", "row", "at", "some", "way"] "_law_no_worths" (zf zl) f cdv A outer s H E).nox ((zi zl).drop 3) _ := (@yd _ _ _ _ _ _ @s3 rfl @b4);have s2 : PS ((cxOf CX0 P w K mg base ["worths", "cell", "place", "row", "at", "some", "way"] "_law_no_worths" (zf zl) f cdv A outer s H E).nox) ((zi zl).getD 2 (.Pass ⟨0, 0, 0, 0⟩)) _ := (@zy _ _ 4 _ _ _ _ sc_law_no_worths.nd (by rfl) (by exact Or.inl rfl) (@zg _ _ _ _ _ _ _ _ z4 (@zg _ _ _ _ _ _ _ _ yc (pv 1) (@zb _ _ _ _)) (zo zz rfl B.len yp (za (pv 3) (@zc _)))) (by rfl) (by first | exact Or.inl rfl | exact Or.inr rfl));have b2 : PSs (cxOf CX0 P w K mg base ["worths", "cell", "place", "row", "at", "some", "way"] "_law_no_worths" (zf zl) f cdv A outer s H E).nox ((zi zl).drop 2) _ := (@yd _ _ _ _ _ _ @s2 rfl @b3);have s1 : PS ((cxOf CX0 P w K mg base ["worths", "cell", "place", "row", "at", "some", "way"] "_law_no_worths" (zf zl) f cdv A outer s H E).nox) ((zi zl).getD 1 (.Pass ⟨0, 0, 0, 0⟩)) _ := (@zy _ _ 3 _ _ _ _ sc_law_no_worths.nd (by rfl) (by exact Or.inl rfl) (@z6 _ _ _ _ _ _ _ yo (pv 0) (pv 2) (fun _ _ => rfl)) (by rfl) (by first | exact Or.inl rfl | exact Or.inr rfl));have b1 : PSs (cxOf CX0 P w K mg base ["worths", "cell", "place", "row", "at", "some", "way"] "_law_no_worths" (zf zl) f cdv A outer s H E).nox ((zi zl).drop 1) _ := (@yd _ _ _ _ _ _ @s1 rfl @b2);have s0 : PS ((cxOf CX0 P w K mg base ["worths", "cell", "place", "row", "at", "some", "way"] "_law_no_worths" (zf zl) f cdv A outer s H E).nox) ((zi zl).getD 0 (.Pass ⟨0, 0, 0, 0⟩)) _ := (@zy _ _ 2 _ _ _ _ sc_law_no_worths.nd (by rfl) (by exact Or.inl rfl) (@zg _ _ _ _ _ _ _ _ z4 (@zg _ _ _ _ _ _ _ _ yc (pv 1) (@zb _ _ _ _)) (zo zz rfl B.len yp (za (pv 0) (@zc _)))) (by rfl) (by first | exact Or.inl rfl | exact Or.inr rfl));have b0 : PSs (cxOf CX0 P w K mg base ["worths", "cell", "place", "row", "at", "some", "way"] "_law_no_worths" (zf zl) f cdv A outer s H E).nox ((zi zl).drop 0) _ := (@yd _ _ _ _ _ _ @s0 rfl @b1);have b_ := @tu _ _ _ @b0;refine ⟨_, @b_, ?_⟩;rw [show start ["worths", "cell", "place", "row", "at", "some", "way"] [V.ref g, V.int c] = [some (V.ref g), some (V.int c), none, none, none, none, none] from rfl];clear b_ b0 b1 b2 b3 b4 b5 b6 b7 b8 s0 s1 s2 s3 s4 s5 s6 s7 s8;refine hide4 fun T hT => ?_
    simp only [zp, zq, ↓reduceIte];have hpl := yl (c / 16) (show (0 : Int) < rows.length by omega);obtain ⟨pn, hpn⟩ : ∃ pn : Nat, c / 16 % (rows.length : Int) = pn := ⟨(c / 16 % (rows.length : Int)).toNat, by omega⟩;rw [hpn] at hpl;have hpr : pn < rows.length := by omega
    have lg : gs.length = rows.length := R.len;obtain ⟨r, er⟩ : ∃ r, gs[pn]? = some r := ⟨gs[pn]'(by omega), Zb _⟩;have hr0 := R.row pn r _ er (Zb hpr);have gr := R.good _ (Zl hpr);generalize rows[pn] = ns at hr0 gr;have hat := yl (c / 128) (show (0 : Int) < n by omega);obtain ⟨an, han⟩ : ∃ an : Nat, c / 128 % (n : Int) = an := ⟨(c / 128 % (n : Int)).toNat, by omega⟩;rw [han] at hat;have ln := gr.1;have lgr : (gs.map V.ref).length = rows.length := by rw [Za, lg]
    refine ⟨⟨by decide, by decide⟩, _, .inl (.of hg), by omega, _, .of hg, V.ref r, ?_, ⟨by decide, by decide⟩, r, rfl, _, .inl (.of hr0), by rw [Za]; omega, ⟨by decide, by decide, by decide⟩, ⟨by decide, by decide, by decide⟩, by decide, ⟨by decide, by decide, by decide⟩, ⟨by decide, by decide, by decide⟩, by decide, by decide, fun p hp => ⟨by decide, fun p1 hp1 => ⟨by decide, fun p2 hp2 => ?_⟩⟩⟩
    . rw [lgr, hpn]
      exact zj (by rw [Ze, er]; rfl)
    rw [lgr, hpn, Za, ln, han];have s0 : Same H (upd H p (.lst [V.int 1])) := Same.upd (Same.refl _) hp;have c0 : upd H p (.lst [V.int 1]) p = some (.lst [V.int 1]) := ze;generalize upd H p (.lst [V.int 1]) = A0 at *;have s1 : Same A0 (upd A0 p1 (.tup [V.int 2])) := Same.upd (Same.refl _) hp1;have c1 : upd A0 p1 (.tup [V.int 2]) p1 = some (.tup [V.int 2]) := ze;generalize upd A0 p1 (.tup [V.int 2]) = A1 at *;have s2 : Same A1 (upd A1 p2 (.lst [V.bl true, V.non, V.str (Str.ofString "1"), V.int (10 ^ Int.toNat 60 + c % 10 ^ Int.toNat 60), V.int (0 - 10 ^ Int.toNat 60 - c % 10 ^ Int.toNat 60), V.ref p, V.ref p1, V.bl false])) := Same.upd (Same.refl _) hp2;have c2 : upd A1 p2 (.lst [V.bl true, V.non, V.str (Str.ofString "1"), V.int (10 ^ Int.toNat 60 + c % 10 ^ Int.toNat 60), V.int (0 - 10 ^ Int.toNat 60 - c % 10 ^ Int.toNat 60), V.ref p, V.ref p1, V.bl false]) p2 = some (.lst (somes c p p1)) := ze;generalize upd A1 p2 (.lst [V.bl true, V.non, V.str (Str.ofString "1"), V.int (10 ^ Int.toNat 60 + c % 10 ^ Int.toNat 60), V.int (0 - 10 ^ Int.toNat 60 - c % 10 ^ Int.toNat 60), V.ref p, V.ref p1, V.bl false]) = A2 at *;have S := s0.trans (s1.trans s2);obtain ⟨v, hv, tv, nv⟩ := bb (H := A2) (c := c) (k := c / 1024) ((s1.trans s2) _ _ c0) (s2 _ _ c1);have hg2 := S _ _ hg;have R2 := R.mono S;have hr2 := S _ _ hr0;have q2 : ∀ H' v, Same A2 H' -> WorthsA K H' v rows.length n false -> Q v H' := fun H' v z => q H' v (S.trans z)
    clear hp hp1 hp2 s0 s1 s2 c0 c1 S q hg R hr0;generalize A2 = H at *;rw [hT];clear hT T;refine hide4 fun T hT => ?_
    simp only [zp, zq, ↓reduceIte];have lnm : (ns.map V.int).length = n := by rw [Za]; exact ln
    have ea : ∀ {H' : Hp}, Same H H' -> ∀ {y : V}, y ∈ gs.map V.ref -> ∃ cc, RowA K H' y n cc := fun S y hy => ⟨true, (R2.mono S).each n8 hy⟩
    have fin : ∀ (H' : Hp) (u : V) (o6 : Option V), Same H H' -> RowA K H' u n false -> T { nx := fun x H' => Q V.non H', rt := Q } [some (V.ref g), some (V.int c), some (V.int pn), some u, some (V.int an), some (V.ref p2), o6] H' := by
      intro H' u o6 S' hu;rw [hT];simp only [zp, zq, ↓reduceIte];refine cat3 (S' _ _ hg2) (i := pn) (j := pn + 1) rfl (by omega) (by omega) (by omega) (by omega) fun H5 p5 S5 h5 => q2 _ _ (S'.trans S5) (sw h5 (by rw [len3 (by omega) (by omega)]; omega) (fun y hy => ?_) (.inr ⟨u, by simp, hu.mono S5⟩))
      rcases mem3 hy with z | rfl
      . exact ea (S'.trans S5) z
      . exact ⟨false, hu.mono S5⟩
    refine ⟨by decide, rfl, ite2 (fun _ => ?_) fun _ => ⟨rfl, ite2 (fun _ => ?_) fun _ => ⟨rfl, ite2 (fun _ => ?_) fun _ => ⟨rfl, ite2 (fun _ => ?_) fun _ => ⟨rfl, ite2 (fun _ => ?_) fun _ => ?_⟩⟩⟩⟩⟩
    . exact cat2 hg2 (i := pn) (j := pn + 1) rfl (by omega) (by omega) (by omega) (by omega) fun H5 p5 S5 h5 => q2 _ _ S5 (sw h5 (by rw [len2 (by omega) (by omega)]; omega) (fun y hy => ea S5 (mem2 hy)) (.inl (by rw [len2 (by omega) (by omega)]; omega)))
    . refine ⟨_, .of hg2, fun p hp => ?_⟩
      rw [ww (by omega)];have s3 : Same H (upd H p (.lst ((gs.map V.ref).take pn))) := Same.upd (Same.refl _) hp;have c3 : upd H p (.lst ((gs.map V.ref).take pn)) p = some (.lst ((gs.map V.ref).take pn)) := ze;generalize upd H p (.lst ((gs.map V.ref).take pn)) = H3 at *;refine ⟨_, .inl (.of (s3 _ _ hr2)), fun l hl => ⟨by decide, fun p1 hp1 => ?_⟩⟩;have s4 : Same H3 (upd H3 l (.lst (ns.map V.int))) := Same.upd (Same.refl _) hl;have c4 : upd H3 l (.lst (ns.map V.int)) l = some (.lst (ns.map V.int)) := ze;generalize upd H3 l (.lst (ns.map V.int)) = H4 at *;have s5 : Same H4 (upd H4 p1 (.lst [V.ref l])) := Same.upd (Same.refl _) hp1;have c5 : upd H4 p1 (.lst [V.ref l]) p1 = some (.lst [V.ref l]) := ze;generalize upd H4 p1 (.lst [V.ref l]) = H5 at *;have S5 := s3.trans (s4.trans s5);refine vb (S5 _ _ hg2) ((s4.trans s5) _ _ c3) c5 (j := pn) rfl (by omega) (by rw [Zj]; omega) (by omega) fun H6 p6 S6 h6 => q2 _ _ (S5.trans S6) (sw h6 (by rw [len3 (by omega) (by omega)]; omega) (fun y hy => ?_) (.inl (by rw [len3 (by omega) (by omega)]; omega)))
      rcases mem3 hy with z | rfl
      . exact ea (S5.trans S6) z
      . exact ⟨true, mi ((s5.trans S6) _ _ c4) ln (by omega) gr.2⟩
    . exact cat2 (R := fun x H' => T { nx := fun x H' => Q V.non H', rt := Q } [some (V.ref g), some (V.int c), some (V.int pn), some x, some (V.int an), some (V.ref p2), some (V.int (c % 8))] H') hr2 (i := an) (j := an + 1) rfl (by omega) (by omega) (by omega) (by omega) fun H5 p5 S5 h5 => fin _ _ _ S5 (oh h5 (by rw [len2 (by omega) (by omega)]; omega) (fun y hy => rl y (mem2 hy)) (.inl (by rw [len2 (by omega) (by omega)]; omega)))
    . refine cat3 (R := fun x H' => T { nx := fun x H' => Q V.non H', rt := Q } [some (V.ref g), some (V.int c), some (V.int pn), some x, some (V.int an), some (V.ref p2), some (V.int (c % 8))] H') hr2 (i := an) (j := an) rfl (by omega) rfl (by omega) (by omega) fun H5 p5 S5 h5 => fin _ _ _ S5 (oh h5 (by rw [len3 (by omega) (by omega)]; omega) (fun y hy => ?_) (.inl (by rw [len3 (by omega) (by omega)]; omega)))
      rcases mem3 hy with z | rfl
      . exact rl y z
      . exact .int _
    . exact ⟨_, .of hr2, fun p hp => fin _ _ _ (Same.upd (Same.refl _) hp) (.inl ⟨rfl, _, .tup ze, kitL.2.2.2.2.2.1⟩)⟩
    . refine ⟨_, .of hr2, fun p hp => ⟨⟨by decide, by decide⟩, by decide, ?_⟩⟩
      rw [ww (by omega)];have s3 : Same H (upd H p (.lst ((ns.map V.int).take an))) := Same.upd (Same.refl _) hp;have c3 : upd H p (.lst ((ns.map V.int).take an)) p = some (.lst ((ns.map V.int).take an)) := ze;generalize upd H p (.lst ((ns.map V.int).take an)) = H3 at *;refine ⟨_, .of (s3 _ _ c2), v, hv, by decide, fun p1 hp1 => ?_⟩;have s5 : Same H3 (upd H3 p1 (.lst [v])) := Same.upd (Same.refl _) hp1;have c5 : upd H3 p1 (.lst [v]) p1 = some (.lst [v]) := ze;generalize upd H3 p1 (.lst [v]) = H5 at *;have S5 := s3.trans s5;refine vb (R := fun x H' => T { nx := fun x H' => Q V.non H', rt := Q } [some (V.ref g), some (V.int c), some (V.int pn), some x, some (V.int an), some (V.ref p2), some (V.int (c % 8))] H') (S5 _ _ hr2) (s5 _ _ c3) c5 (j := an + 1) (by omega) (by omega) (by rw [Zj]; omega) (by omega) fun H6 p6 S6 h6 => fin _ _ _ (S5.trans S6) (oh h6 (by rw [len3 (by omega) (by omega)]; omega) (fun y hy => ?_) (.inr ⟨v, by simp, nv⟩))
      rcases mem3 hy with z | rfl
      . exact rl y z
      . exact tv.mono (S5.trans S6)
end
theorem av {K : Fg} {H : Hp} {l : Addr} {xs : List V} (h : H l = some (.lst xs)) : NoT K H (.ref l) := ⟨_, .lst h, kitT.2.2.2.2.1⟩
theorem a8 {K : Fg} {H : Hp} : NoT K H .non := ⟨_, .non, kitT.2.1⟩
theorem a7 {K : Fg} {H : Hp} {z : Str} : NoT K H (.str z) := ⟨_, .str z, kitT.1⟩
theorem im {K : Fg} {H : Hp} {l : Addr} {xs : List V} (h : H l = some (.tup xs)) : NoL K H (.ref l) := ⟨_, .tup h, kitL.2.2.2.2.2.1⟩
theorem ay {K : Fg} {H : Hp} {l : Addr} {xs : List (Key × V)} (h : H l = some (.dK xs)) : NoL K H (.ref l) := ⟨_, .dK h, kitL.2.2.2.2.2.2⟩
theorem iq {K : Fg} {H : Hp} : NoL K H .non := ⟨_, .non, kitL.2.1⟩
theorem aw {K : Fg} {H : Hp} {z : Str} : NoL K H (.str z) := ⟨_, .str z, kitL.1⟩
theorem HandAt.rowsA {H : Hp} {x : HX} {d : HD} {n : Nat} (h : HandAt H x d) (g : tj d n) : RowsAt H x.gs d.worths n := ⟨h.len, h.row, g.cols⟩
theorem gx {K : Fg} {H : Hp} {t : Addr} {u v w : V} {n : Nat} {b2 : Bool} (h : H t = some (.tup [u, v, w])) (hu : Thing H u) (hn : xa u = false) (hv : NamesA K H v 8 b2) : HandA K H (.ref t) n false :=
  .inr (.inr ⟨t, u, v, w, b2, rfl, h, hu, hv, fun _ => rfl, fun z => by rw [hn] at z; cases z⟩)
theorem pk {K : Fg} {H : Hp} {t : Addr} {u v w : V} {n : Nat} (h : H t = some (.tup [u, v, w])) (hu : Thing H u) (hv : NamesA K H v 8 false) : HandA K H (.ref t) n false :=
  .inr (.inr ⟨t, u, v, w, false, rfl, h, hu, hv, fun _ => rfl, fun z => by rw [Bool.and_false] at z; cases z⟩)
theorem qo {K : Fg} {H : Hp} {t l : Addr} {u w : V} {n : Nat} {xs : List V} (h : H t = some (.tup [u, .ref l, w])) (hu : Thing H u) (hl : H l = some (.lst xs)) (hv : NamesA K H (.ref l) 8 true) (hw : WorthsA K H w xs.length n false) : HandA K H (.ref t) n false :=
  .inr (.inr ⟨t, u, _, w, true, rfl, h, hu, hv, fun _ => rfl, fun _ => ⟨l, xs, rfl, hl, hw⟩⟩)
def nbads (p : Addr) : List V := [V.str (Str.ofString ""), V.str (Str.ofString "Ab"), V.str (Str.ofString "abcdefghi"), V.non, V.int 7, V.ref p]
theorem ci {H : Hp} {p : Addr} {ys : List V} {c : Int} (h : H p = some (.tup ys)) : ∃ v, atI (nbads p) (c % 6) = some v /\ Thing H v /\ xa v = false := by
  have hidx : c % 6 = 0 \/ c % 6 = 1 \/ c % 6 = 2 \/ c % 6 = 3 \/ c % 6 = 4 \/ c % 6 = 5 := by omega
  rcases hidx with e | e | e | e | e | e <;> rw [e]
  . exact ⟨_, zj (j := 0) rfl, .str _ (by decide +kernel), by decide +kernel⟩
  . exact ⟨_, zj (j := 1) rfl, .str _ (by decide +kernel), by decide +kernel⟩
  . exact ⟨_, zj (j := 2) rfl, .str _ (by decide +kernel), by decide +kernel⟩
  . exact ⟨_, zj (j := 3) rfl, .non, rfl⟩
  . exact ⟨_, zj (j := 4) rfl, .int _, rfl⟩
  . exact ⟨_, zj (j := 5) rfl, .tup h, rfl⟩
def k9 (K : Fg) : Sp := fun vs H Q _ => ∃ (x : HX) (d : HD) (n : Nat) (c : Int), vs = [.ref x.t, .int c] /\ HandAt H x d /\ tj d n /\ 1 <= n /\ n <= 8 /\ ∀ H' v, Same H H' -> HandA K H' v n false -> Q v H'
section
variable {P : Program} {w : World} {K : Fg} {mg : Str -> Option Value} {base : Heap} {a : Ad}
theorem u4 (B : Bt mg) (we : FnAt P w K mg base "_law_no_names" 1 ["names", "cell", "top"] (qu K)) (ug : FnAt P w K mg base "_law_no_worths" 1 ["worths", "cell"] (ny K)) (D : zt K mg "_law_no_hand" zv ["hand", "cell"]) : FnAt P w K mg base "_law_no_hand" 2 ["hand", "cell"] (k9 K) := by
  refine FnAt.of D sc_law_no_hand (fun vs H Q E h => ?_) (fun f cdv A outer s H vs Q E hr h => ?_)
  . obtain ⟨x, d, n, c, rfl, _⟩ := h
    rfl
  . obtain ⟨x, d, n, c, rfl, A1, g, n1, n8, q⟩ := h
    have s6 : PS ((cxOf CX0 P w K mg base ["hand", "cell", "way"] "_law_no_hand" (zf zv) f cdv A outer s H E).nox) ((zi zv).getD 6 (.Pass ⟨0, 0, 0, 0⟩)) _ := (@zr _ _ _ _ (@y9 _ _ _ _ _ (za (@z6 _ _ _ _ _ _ _ yx (pv 0) (@zb _ _ _ _) (fun _ _ => rfl)) (za (zw we (hr.mono (by decide)) rfl (za (@z6 _ _ _ _ _ _ _ yx (pv 0) (@zb _ _ _ _) (fun _ _ => rfl)) (za (@zg _ _ _ _ _ _ _ _ yc (pv 1) (@zb _ _ _ _)) (za (@zb _ _ _ _) (@zc _))))) (za (@z6 _ _ _ _ _ _ _ yx (pv 0) (@zb _ _ _ _) (fun _ _ => rfl)) (@zc _))))));have b6 : PSs (cxOf CX0 P w K mg base ["hand", "cell", "way"] "_law_no_hand" (zf zv) f cdv A outer s H E).nox ((zi zv).drop 6) _ := (@tq _ _ _ _ _ @s6 rfl rfl);have s5 : PS ((cxOf CX0 P w K mg base ["hand", "cell", "way"] "_law_no_hand" (zf zv) f cdv A outer s H E).nox) ((zi zv).getD 5 (.Pass ⟨0, 0, 0, 0⟩)) _ := (@yf _ _ _ _ _ _ _ _ (@ye _ _ _ _ _ _ _ _ ow (pv 2) (@zb _ _ _ _) (ya _)) (@zk _ _ _ (@zr _ _ _ _ (@y9 _ _ _ _ _ (za (@z6 _ _ _ _ _ _ _ yx (pv 0) (@zb _ _ _ _) (fun _ _ => rfl)) (za (@z6 _ _ _ _ _ _ _ yx (pv 0) (@zb _ _ _ _) (fun _ _ => rfl)) (za (zw ug (hr.mono (by decide)) rfl (za (@z6 _ _ _ _ _ _ _ yx (pv 0) (@zb _ _ _ _) (fun _ _ => rfl)) (za (@zg _ _ _ _ _ _ _ _ yc (pv 1) (@zb _ _ _ _)) (@zc _)))) (@zc _))))))) (@z5 _));have b5 : PSs (cxOf CX0 P w K mg base ["hand", "cell", "way"] "_law_no_hand" (zf zv) f cdv A outer s H E).nox ((zi zv).drop 5) _ := (@yd _ _ _ _ _ _ @s5 rfl @b6);have s4 : PS ((cxOf CX0 P w K mg base ["hand", "cell", "way"] "_law_no_hand" (zf zv) f cdv A outer s H E).nox) ((zi zv).getD 4 (.Pass ⟨0, 0, 0, 0⟩)) _ := (@yf _ _ _ _ _ _ _ _ (@ye _ _ _ _ _ _ _ _ y3 (pv 2) (@zb _ _ _ _) (ya _)) (@zk _ _ _ (@zr _ _ _ _ (@y9 _ _ _ _ _ (za (@z6 _ _ _ _ _ _ _ yx (pv 0) (@zb _ _ _ _) (fun _ _ => rfl)) (za (@z6 _ _ _ _ _ _ _ yx (pv 0) (@zb _ _ _ _) (fun _ _ => rfl)) (za (@z6 _ _ _ _ _ _ _ yo (@yb _ _ _ _ (za (@vk _ _ _) (za (y4 xj rfl B.tuple xb (za (@z6 _ _ _ _ _ _ _ yx (pv 0) (@zb _ _ _ _) (fun _ _ => rfl)) (@zc _))) (za (@ky _ _) (@zc _))))) (@zg _ _ _ _ _ _ _ _ z4 (@zg _ _ _ _ _ _ _ _ yc (pv 1) (@zb _ _ _ _)) (@zb _ _ _ _)) (fun _ _ => rfl)) (@zc _))))))) (@z5 _));have b4 : PSs (cxOf CX0 P w K mg base ["hand", "cell", "way"] "_law_no_hand" (zf zv) f cdv A outer s H E).nox ((zi zv).drop 4) _ := (@yd _ _ _ _ _ _ @s4 rfl @b5);have s3 : PS ((cxOf CX0 P w K mg base ["hand", "cell", "way"] "_law_no_hand" (zf zv) f cdv A outer s H E).nox) ((zi zv).getD 3 (.Pass ⟨0, 0, 0, 0⟩)) _ := (@yf _ _ _ _ _ _ _ _ (@ye _ _ _ _ _ _ _ _ y3 (pv 2) (@zb _ _ _ _) (ya _)) (@zk _ _ _ (@zr _ _ _ _ (@y9 _ _ _ _ _ (za (@z6 _ _ _ _ _ _ _ yo (@yb _ _ _ _ (@za _ _ _ _ _ (@yh _ _ _ _) (@za _ _ _ _ _ (@yh _ _ _ _) (@za _ _ _ _ _ (@yh _ _ _ _) (@za _ _ _ _ _ (@vk _ _ _) (@za _ _ _ _ _ (@zb _ _ _ _) (@za _ _ _ _ _ (@y9 _ _ _ _ _ (@za _ _ _ _ _ (@yh _ _ _ _) (@zc _) (zh nofun))) (@zc _) (zh nofun)) (zh nofun)) (zh nofun)) (zh nofun)) (zh nofun)) (zh nofun))) (@zg _ _ _ _ _ _ _ _ z4 (@zg _ _ _ _ _ _ _ _ yc (pv 1) (@zb _ _ _ _)) (@zb _ _ _ _)) (fun _ _ => rfl)) (za (@z6 _ _ _ _ _ _ _ yx (pv 0) (@zb _ _ _ _) (fun _ _ => rfl)) (za (@z6 _ _ _ _ _ _ _ yx (pv 0) (@zb _ _ _ _) (fun _ _ => rfl)) (@zc _))))))) (@z5 _));have b3 : PSs (cxOf CX0 P w K mg base ["hand", "cell", "way"] "_law_no_hand" (zf zv) f cdv A outer s H E).nox ((zi zv).drop 3) _ := (@yd _ _ _ _ _ _ @s3 rfl @b4);have s2 : PS ((cxOf CX0 P w K mg base ["hand", "cell", "way"] "_law_no_hand" (zf zv) f cdv A outer s H E).nox) ((zi zv).getD 2 (.Pass ⟨0, 0, 0, 0⟩)) _ := (@yf _ _ _ _ _ _ _ _ (@ye _ _ _ _ _ _ _ _ y3 (pv 2) (@zb _ _ _ _) (ya _)) (@zk _ _ _ (@zr _ _ _ _ (@z6 _ _ _ _ _ _ _ yo (@yb _ _ _ _ (za (@ym _ _ _ _ _ _ _ _ _ _ br (pv 0) (@yw _) (@yv _ _ _ (@zb _ _ _ _))) (za (@zg _ _ _ _ _ _ _ _ bf (pv 0) (@y9 _ _ _ _ _ (za (@zb _ _ _ _) (@zc _)))) (za (@vk _ _ _) (za (@yh _ _ _ _) (@zc _)))))) (@zg _ _ _ _ _ _ _ _ z4 (@zg _ _ _ _ _ _ _ _ yc (pv 1) (@zb _ _ _ _)) (@zb _ _ _ _)) (fun _ _ => rfl)))) (@z5 _));have b2 : PSs (cxOf CX0 P w K mg base ["hand", "cell", "way"] "_law_no_hand" (zf zv) f cdv A outer s H E).nox ((zi zv).drop 2) _ := (@yd _ _ _ _ _ _ @s2 rfl @b3);have s1 : PS ((cxOf CX0 P w K mg base ["hand", "cell", "way"] "_law_no_hand" (zf zv) f cdv A outer s H E).nox) ((zi zv).getD 1 (.Pass ⟨0, 0, 0, 0⟩)) _ := (@yf _ _ _ _ _ _ _ _ (@ye _ _ _ _ _ _ _ _ y3 (pv 2) (@zb _ _ _ _) (ya _)) (@zk _ _ _ (@zr _ _ _ _ (y4 t6 rfl B.list wf (za (pv 0) (@zc _))))) (@z5 _));have b1 : PSs (cxOf CX0 P w K mg base ["hand", "cell", "way"] "_law_no_hand" (zf zv) f cdv A outer s H E).nox ((zi zv).drop 1) _ := (@yd _ _ _ _ _ _ @s1 rfl @b2);have s0 : PS ((cxOf CX0 P w K mg base ["hand", "cell", "way"] "_law_no_hand" (zf zv) f cdv A outer s H E).nox) ((zi zv).getD 0 (.Pass ⟨0, 0, 0, 0⟩)) _ := (@zy _ _ 2 _ _ _ _ sc_law_no_hand.nd (by rfl) (by exact Or.inl rfl) (@zg _ _ _ _ _ _ _ _ z4 (pv 1) (@zb _ _ _ _)) (by rfl) (by first | exact Or.inl rfl | exact Or.inr rfl));have b0 : PSs (cxOf CX0 P w K mg base ["hand", "cell", "way"] "_law_no_hand" (zf zv) f cdv A outer s H E).nox ((zi zv).drop 0) _ := (@yd _ _ _ _ _ _ @s0 rfl @b1);have b_ := @tu _ _ _ @b0;refine ⟨_, @b_, ?_⟩;rw [show start ["hand", "cell", "way"] [V.ref x.t, V.int c] = [some (V.ref x.t), some (V.int c), none] from rfl];clear b_ b0 b1 b2 b3 b4 b5 b6 s0 s1 s2 s3 s4 s5 s6;simp only [zp, zq, ↓reduceIte];have nm : ∀ {H' : Hp}, Thing H' (V.str d.name) := .str _ (Zd g.name.2.1 (by decide));have wk : ∀ {H' : Hp}, Same H H' -> NamesA K H' (.ref x.w) 8 true := fun S => qj (S _ _ A1.words) g.words.1 g.words.2 (Zm _) g.wordsG g.wordsD
    have lw : d.worths.length = (d.words.map V.str).length := by rw [Za]; exact g.rows
    have w8 := g.words;have wr := g.rows;refine ⟨by decide, rfl, ite2 (fun _ => ?_) fun _ => ⟨rfl, ite2 (fun _ => ?_) fun _ => ⟨rfl, ite2 (fun _ => ?_) fun _ => ⟨rfl, ite2 (fun _ => ?_) fun _ => ite2 (fun _ => ?_) fun _ => ?_⟩⟩⟩⟩
    . exact ⟨_, .inr (.of A1.tup), fun l hl => q _ _ (Same.upd (Same.refl _) hl) (.inl ⟨rfl, av ze⟩)⟩
    . refine ⟨_, A1.tup, fun H1 p S1 hp => ⟨by decide, fun p1 hp1 => ?_⟩⟩
      have s2 : Same H1 (upd H1 p1 (.tup [V.int 0])) := Same.upd (Same.refl _) hp1;have c2 : upd H1 p1 (.tup [V.int 0]) p1 = some (.tup [V.int 0]) := ze;generalize upd H1 p1 (.tup [V.int 0]) = H2 at *;refine ⟨_, (S1.trans s2) _ _ A1.tup, _, c2, (show 3 + 1 <= sizeLine by decide), fun H3 p3 S3 hp3 => ⟨by decide, fun p4 hp4 => ⟨⟨by decide, by decide⟩, by decide, _, .of ze, ?_⟩⟩⟩;have s4 : Same H3 (upd H3 p4 (.lst [V.ref p, V.ref p3, V.non, V.str (Str.ofString "ab")])) := Same.upd (Same.refl _) hp4;generalize upd H3 p4 (.lst [V.ref p, V.ref p3, V.non, V.str (Str.ofString "ab")]) = H4 at *;have S4 := S1.trans (s2.trans (S3.trans s4));have hp' := (s2.trans (S3.trans s4)) _ _ hp;rw [show (2 : Int) = ((2 : Nat) : Int) from rfl, ww (by show 2 <= 3; decide)] at hp';have hidx : c / 8 % 4 = 0 \/ c / 8 % 4 = 1 \/ c / 8 % 4 = 2 \/ c / 8 % 4 = 3 := by omega
      rcases hidx with e | e | e | e <;> rw [e]
      . exact ⟨_, zj (j := 0) rfl, q _ _ S4 (.inr (.inl ⟨rfl, p, _, rfl, hp', by show 2 ≠ 3; decide⟩))⟩
      . exact ⟨_, zj (j := 1) rfl, q _ _ S4 (.inr (.inl ⟨rfl, p3, _, rfl, s4 _ _ hp3, by show 4 ≠ 3; decide⟩))⟩
      . exact ⟨_, zj (j := 2) rfl, q _ _ S4 (.inl ⟨rfl, a8⟩)⟩
      . exact ⟨_, zj (j := 3) rfl, q _ _ S4 (.inl ⟨rfl, a7⟩)⟩
    . refine ⟨by decide, fun p hp => ⟨by decide, fun p1 hp1 => ⟨⟨by decide, by decide⟩, by decide, ?_⟩⟩⟩
      have s1 : Same H (upd H p (.tup [V.str (Str.ofString "a")])) := Same.upd (Same.refl _) hp;have c1 : upd H p (.tup [V.str (Str.ofString "a")]) p = some (.tup [V.str (Str.ofString "a")]) := ze;generalize upd H p (.tup [V.str (Str.ofString "a")]) = H1 at *;have s2 : Same H1 (upd H1 p1 (.lst [V.str (Str.ofString ""), V.str (Str.ofString "Ab"), V.str (Str.ofString "abcdefghi"), V.non, V.int 7, V.ref p])) := Same.upd (Same.refl _) hp1;have c2 : upd H1 p1 (.lst [V.str (Str.ofString ""), V.str (Str.ofString "Ab"), V.str (Str.ofString "abcdefghi"), V.non, V.int 7, V.ref p]) p1 = some (.lst (nbads p)) := ze;generalize upd H1 p1 (.lst [V.str (Str.ofString ""), V.str (Str.ofString "Ab"), V.str (Str.ofString "abcdefghi"), V.non, V.int 7, V.ref p]) = H2 at *;obtain ⟨v, hv, tv, nv⟩ := ci (c := c / 8) (s2 _ _ c1);have S2 := s1.trans s2;have t2 := S2 _ _ A1.tup;exact ⟨_, .of c2, v, hv, _, .of t2, _, zj (j := 1) rfl, _, .of t2, _, zj (j := 2) rfl, by decide, fun p2 hp2 => q _ _ (S2.trans (Same.upd (Same.refl _) hp2)) (gx ze (tv.mono (Same.upd (Same.refl _) hp2)) nv (wk (S2.trans (Same.upd (Same.refl _) hp2))))⟩
    . refine ⟨_, .of A1.tup, _, zj (j := 0) rfl, _, .of A1.tup, _, zj (j := 1) rfl, _, .of A1.tup, _, zj (j := 2) rfl, x.g, rfl, _, .of A1.grid, fun l hl p hp => ⟨by decide, fun p1 hp1 => ⟨⟨by decide, by decide⟩, by decide, _, .of ze, ?_⟩⟩⟩
      have s1 : Same H (upd H l (.tup (x.gs.map V.ref))) := Same.upd (Same.refl _) hl;have c1 : upd H l (.tup (x.gs.map V.ref)) l = some (.tup (x.gs.map V.ref)) := ze;generalize upd H l (.tup (x.gs.map V.ref)) = H1 at *;have s2 : Same H1 (upd H1 p (.dK [])) := Same.upd (Same.refl _) hp;have c2 : upd H1 p (.dK []) p = some (.dK []) := ze;generalize upd H1 p (.dK []) = H2 at *;have s3 : Same H2 (upd H2 p1 (.lst [V.non, V.ref l, V.ref p])) := Same.upd (Same.refl _) hp1;generalize upd H2 p1 (.lst [V.non, V.ref l, V.ref p]) = H3 at *;have S3 := s1.trans (s2.trans s3)
      have fin : ∀ v, NoL K H3 v -> 1 + 1 + 1 <= sizeLine /\ ∀ p2, H3 p2 = none -> Q (V.ref p2) (upd H3 p2 (.tup [V.str d.name, V.ref x.w, v])) := fun v hv => ⟨by decide, fun p2 hp2 => by
        have s4 : Same H3 (upd H3 p2 (.tup [V.str d.name, V.ref x.w, v])) := Same.upd (Same.refl _) hp2
        exact q _ _ (S3.trans s4) (qo ze nm ((S3.trans s4) _ _ A1.words) (wk (S3.trans s4)) (.inl ⟨rfl, hv.mono s4⟩))⟩
      have hidx : c / 8 % 3 = 0 \/ c / 8 % 3 = 1 \/ c / 8 % 3 = 2 := by omega
      rcases hidx with e | e | e <;> rw [e]
      . exact ⟨_, zj (j := 0) rfl, fin _ iq⟩
      . exact ⟨_, zj (j := 1) rfl, fin _ (im ((s2.trans s3) _ _ c1))⟩
      . exact ⟨_, zj (j := 2) rfl, fin _ (ay (s3 _ _ c2))⟩
    . refine ⟨_, .of A1.tup, _, zj (j := 0) rfl, _, .of A1.tup, _, zj (j := 1) rfl, _, .of A1.tup, _, zj (j := 2) rfl, ⟨by decide, by decide⟩, x.g, x.gs, d.worths, n, _, rfl, A1.grid, A1.rowsA g, by omega, by omega, n1, n8, fun H1 v S1 hW => ⟨by decide, fun p hp => ?_⟩⟩
      have s2 : Same H1 (upd H1 p (.tup [V.str d.name, V.ref x.w, v])) := Same.upd (Same.refl _) hp;exact q _ _ (S1.trans s2) (qo ze nm ((S1.trans s2) _ _ A1.words) (wk (S1.trans s2)) (by rw [<- lw]; exact hW.mono s2))
    . refine ⟨_, .of A1.tup, _, zj (j := 0) rfl, _, .of A1.tup, _, zj (j := 1) rfl, ⟨by decide, by decide⟩, x.w, d.words, _, rfl, A1.words, w8.1, w8.2, g.wordsG, fun H1 v S1 hN => ⟨_, .of (S1 _ _ A1.tup), _, zj (j := 2) rfl, by decide, fun p hp => ?_⟩⟩
      have s2 : Same H1 (upd H1 p (.tup [V.str d.name, v, V.ref x.g])) := Same.upd (Same.refl _) hp;exact q _ _ (S1.trans s2) (pk ze nm (hN.mono s2))
end
theorem oy {K : Fg} {H : Hp} {o l : Addr} {outs : List Str} {ys : List V} (ho : H o = some (.lst (outs.map V.str))) (hO : 1 <= outs.length /\ outs.length <= 8 /\ (∀ z ∈ outs, y2 z) /\ outs.Nodup) (hl : H l = some (.lst ys)) (h20 : ys.length <= 20) (each : ∀ y ∈ ys, ∃ c, HandA K H y outs.length c) (bad : ∃ y ∈ ys, HandA K H y outs.length false) : uz K H (.ref o) (.ref l) false := by
  obtain ⟨cs, l1, p1, f1⟩ := me (R := fun y c => HandA K H y outs.length c) each;obtain ⟨ds, l2, p2, e2⟩ := f1 bad;exact .inr ⟨o, outs, rfl, ho, hO, .inr (.inl ⟨rfl, l, ys, ds, rfl, hl, h20, l2, p2, e2⟩)⟩
theorem rm {K : Fg} {H : Hp} {o l : Addr} {outs : List Str} {xs : List HX} {ds : List HD} (ho : H o = some (.lst (outs.map V.str))) (hO : 1 <= outs.length /\ outs.length <= 8 /\ (∀ z ∈ outs, y2 z) /\ outs.Nodup) (hh : HandsL H l xs ds) (h8 : ds.length <= 8) (g : ∀ d ∈ ds, tj d outs.length) (bad : 4 < ds.length \/ ¬ (ds.map HD.name).Nodup \/ 256 < (ds.map fun d => d.words.length).prod) : uz K H (.ref o) (.ref l) false := by
  refine .inr ⟨o, outs, rfl, ho, hO, .inr (.inr ⟨l, xs, ds, rfl, hh, h8, g, ?_⟩)⟩
  rcases bad with h | h | h
  . rw [decide_eq_false (by omega : ¬ ds.length <= 4), Bool.and_false]
    rfl
  . rw [decide_eq_false h, Bool.and_false]
    rfl
  . rw [decide_eq_false (by omega : ¬ (ds.map fun d => d.words.length).prod <= 256), Bool.and_false]
def zd (n : Nat) (z : Str) (ws : List Str) : HD := ⟨z, ws, List.replicate ws.length (List.replicate n 0)⟩
theorem ml {n : Nat} {z : Str} {ws : List Str} (hz : y2 z) (hw : 1 <= ws.length /\ ws.length <= 8) (hg : ∀ y ∈ ws, y2 y) (hd : ws.Nodup) : tj (zd n z ws) n := ⟨hz, hw, hg, hd, by show (List.replicate _ _).length = _; rw [ZG]; rfl, fun r hr => by
    have e := ZL hr;rw [e];refine ⟨ZG, fun i hi => ?_⟩;rw [ZL hi]
    exact boundV_iff.mp (by decide +kernel)⟩
theorem gy {H : Hp} {n : Nat} {z : Str} {ws : List Str} {t w g : Addr} {gs : List Addr} (ht : H t = some (.tup [.str z, .ref w, .ref g])) (hw : H w = some (.lst (ws.map V.str))) (hg : H g = some (.lst (gs.map V.ref))) (hl : gs.length = ws.length) (hr : ∀ r ∈ gs, H r = some (.lst (List.replicate n (V.int 0)))) : HandAt H ⟨t, w, g, gs⟩ (zd n z ws) := ⟨ht, hw, hg, by show gs.length = (List.replicate _ _).length; rw [ZG]; exact hl, fun i r ns e1 e2 => by
    rw [ZL (Zi e2), List.map_replicate]
    exact hr r (Zi e1)⟩
theorem g9 {K : Fg} {H : Hp} {o : Addr} {outs : List Str} {σ : L2.St} {k : Nat} {g : TG} {tt : TT} {te : TE} {Fin : List V -> Hp -> Prop} (ho : H o = some (.lst (outs.map V.str))) (h8 : outs.length <= 8) (hs : ∀ x H' (R : V -> Hp -> Prop) (R2 : Hp -> Prop), R (.int 0) H' -> g x (List.replicate k none ++ σ) H' fun σ2 H2 => σ2.drop k = σ /\ tt σ2 H2 fun b H3 => if b = true then te σ2 H3 R else R2 H3) (fin : Fin (List.replicate outs.length (V.int 0)) H) : rp (Itl K o) σ k g tt te H Fin := by
  refine yq (xs := outs.map V.str) (fun i ys H' => ys = List.replicate i (V.int 0) /\ H' = H) ⟨rfl, rfl⟩ ?_ ?_ ?_
  . rintro i ys H' hi ⟨rfl, rfl⟩
    rw [Za] at hi;exact ⟨by rw [ZG]; exact Zd (show i <= 8 by omega) (by decide), .of ho⟩
  . rintro i x ys H' hx ⟨rfl, rfl⟩
    exact hs x H' (fun v H4 => List.replicate i (V.int 0) ++ [v] = List.replicate (i + 1) (V.int 0) /\ H4 = H') _ ⟨by rw [List.replicate_succ'], rfl⟩
  . rintro ys H' ⟨rfl, rfl⟩
    rw [Za];exact fin
theorem j6 {α : Type} {xs : List α} {k i : Nat} {x y : α} (hk : k <= xs.length) (h : (xs.take k ++ [x] ++ xs.drop k)[i]? = some y) : (i < k /\ xs[i]? = some y) \/ (i = k /\ y = x) \/ (k < i /\ xs[i - 1]? = some y) := by
  have lt : (xs.take k).length = k := by rw [Zj]; omega
  by_cases h1 : i < k
  . rw [Yw, Zg (by omega), List.getElem?_take_of_lt h1] at h
    exact .inl ⟨h1, h⟩
  . by_cases h2 : i = k
    . rw [Zg (by rw [Zo, lt]; simp; omega), Zf (by omega), lt, h2, Nat.sub_self] at h
      simp at h;exact .inr (.inl ⟨h2, h.symm⟩)
    . rw [Zf (by rw [Zo, lt]; simp; omega), Zo, lt, List.getElem?_drop] at h
      refine .inr (.inr ⟨by omega, ?_⟩);rw [<- h]
      congr 1
      simp;omega
theorem HandsL.ins {H : Hp} {b l : Addr} {xs : List HX} {ds : List HD} {k : Nat} {x : HX} {d : HD} (h : HandsL H b xs ds) (hk : k <= ds.length) (A : HandAt H x d) (hl : H l = some (.lst ((xs.map fun x => V.ref x.t).take k ++ [V.ref x.t] ++ (xs.map fun x => V.ref x.t).drop k))) : HandsL H l (xs.take k ++ [x] ++ xs.drop k) (ds.take k ++ [d] ++ ds.drop k) := by
  have hl2 := h.len;refine ⟨by rw [hl, Zn, Zn, List.map_take, List.map_drop]; rfl, ?_, fun i y e hy he => ?_⟩
  . simp [Zj, ZN, hl2]
  . rcases j6 (by omega) hy with ⟨a1, a2⟩ | ⟨a1, a2⟩ | ⟨a1, a2⟩ <;> rcases j6 hk he with ⟨b1, b2⟩ | ⟨b1, b2⟩ | ⟨b1, b2⟩ <;> first | omega | exact h.hand _ _ _ a2 b2 | (rw [a2, b2]; exact A)
def PvHz (H : Hp) (ds : List HD) (i : Nat) (ys : List V) (H' : Hp) : Prop := Same H H' /\ ∃ xs : List HX, xs.length = i /\ ys = xs.map (fun x => V.ref x.t) /\ ∀ (j : Nat) (x : HX) (d : HD), xs[j]? = some x -> ds[j]? = some d -> HandAt H' x d
theorem PvHz.step {H H1 H2 : Hp} {ds : List HD} {i : Nat} {ys : List V} {x : HX} {d : HD} (h : PvHz H ds i ys H1) (S : Same H1 H2) (e : ds[i]? = some d) (A : HandAt H2 x d) : PvHz H ds (i + 1) (ys ++ [V.ref x.t]) H2 := by
  obtain ⟨S1, xs, hl, rfl, hx⟩ := h;refine ⟨S1.trans S, xs ++ [x], by simp [hl], by rw [Zn]; rfl, fun j y d' e1 e2 => ?_⟩
  by_cases hj : j < i
  . rw [Zg (by omega)] at e1
    exact (hx j y d' e1 e2).mono S
  . have hji : j = i := by
      have := (Zc.mp e1).1;rw [Zo, hl, ZW] at this;omega
    subst hji;rw [Zf (by omega), hl, Nat.sub_self] at e1;rw [e] at e2;cases e1;cases e2;exact A
theorem PvHz.mono {H H1 H2 : Hp} {ds : List HD} {i : Nat} {ys : List V} (h : PvHz H ds i ys H1) (S : Same H1 H2) : PvHz H ds i ys H2 := by
  obtain ⟨S1, xs, hl, e, hx⟩ := h;exact ⟨S1.trans S, xs, hl, e, fun j x d e1 e2 => (hx j x d e1 e2).mono S⟩
theorem PvHz.fin {H H1 : Hp} {ds : List HD} {ys : List V} {l : Addr} (h : PvHz H ds ds.length ys H1) (hl : H1 l = some (.lst ys)) : ∃ xs, HandsL H1 l xs ds := by
  obtain ⟨S1, xs, hx, rfl, hh⟩ := h;exact ⟨xs, hl, hx, hh⟩
def erp (H : Hp) (p : Addr) : Hp := fun a => if a = p then none else H a
theorem rh {H : Hp} {p a : Addr} (h : a ≠ p) : erp H p a = H a := if_neg h
theorem df {H : Hp} {p : Addr} : erp H p p = none := if_pos rfl
theorem someS {as : List Str} {i : Nat} {y : V} (h : (as.map V.str)[i]? = some y) : ∃ r, as[i]? = some r /\ y = .str r := by
  rw [Ze] at h
  cases e : as[i]? with
  | none => rw [e] at h; cases h
  | some r => rw [e] at h; cases h; exact ⟨r, rfl, rfl⟩
def abcde : List Str := [Str.ofString "a", Str.ofString "b", Str.ofString "c", Str.ofString "d", Str.ofString "e"]
theorem i9 : ∀ z ∈ abcde, y2 z := by
  have : ∀ z ∈ abcde, v7 z = true := by decide +kernel
  exact fun z hz => nameB_iff.mp (this z hz)
theorem cj {H : Hp} {c : Int} {p p1 p2 p3 p4 : Addr} (hp : H p = none) (hp1 : upd H p (.lst [V.int 5, V.int 4, V.int 4, V.int 4]) p1 = none) (hp2 : upd (upd H p (.lst [V.int 5, V.int 4, V.int 4, V.int 4])) p1 (.lst [V.int 4, V.int 4, V.int 4, V.int 5]) p2 = none) (hp3 : upd (upd (upd H p (.lst [V.int 5, V.int 4, V.int 4, V.int 4])) p1 (.lst [V.int 4, V.int 4, V.int 4, V.int 5])) p2 (.lst [V.int 8, V.int 8, V.int 5, V.int 1]) p3 = none) (hp4 : upd (upd (upd (upd H p (.lst [V.int 5, V.int 4, V.int 4, V.int 4])) p1 (.lst [V.int 4, V.int 4, V.int 4, V.int 5])) p2 (.lst [V.int 8, V.int 8, V.int 5, V.int 1])) p3 (.lst [V.int 7, V.int 1, V.int 5, V.int 8]) p4 = none) :
    ∃ (szs : List Nat) (r : Addr), atI [V.ref p, V.ref p1, V.ref p2, V.ref p3] (c % 4) = some (V.ref r) /\ upd (upd (upd (upd (upd H p (.lst [V.int 5, V.int 4, V.int 4, V.int 4])) p1 (.lst [V.int 4, V.int 4, V.int 4, V.int 5])) p2 (.lst [V.int 8, V.int 8, V.int 5, V.int 1])) p3 (.lst [V.int 7, V.int 1, V.int 5, V.int 8])) p4 (.lst [V.ref p, V.ref p1, V.ref p2, V.ref p3]) r = some (.lst (szs.map fun s => V.int (s : Nat))) /\ Same H (upd (upd (upd (upd (upd H p (.lst [V.int 5, V.int 4, V.int 4, V.int 4])) p1 (.lst [V.int 4, V.int 4, V.int 4, V.int 5])) p2 (.lst [V.int 8, V.int 8, V.int 5, V.int 1])) p3 (.lst [V.int 7, V.int 1, V.int 5, V.int 8])) p4 (.lst [V.ref p, V.ref p1, V.ref p2, V.ref p3])) /\ szs.length = 4 /\ (∀ s ∈ szs, 1 <= s /\ s <= 8) /\ 256 < szs.prod := by
  have s1 : Same H (upd H p (.lst [V.int 5, V.int 4, V.int 4, V.int 4])) := Same.upd (Same.refl _) hp;have c1 : upd H p (.lst [V.int 5, V.int 4, V.int 4, V.int 4]) p = some (.lst [V.int 5, V.int 4, V.int 4, V.int 4]) := ze;generalize upd H p (.lst [V.int 5, V.int 4, V.int 4, V.int 4]) = H1 at *;have s2 : Same H1 (upd H1 p1 (.lst [V.int 4, V.int 4, V.int 4, V.int 5])) := Same.upd (Same.refl _) hp1;have c2 : upd H1 p1 (.lst [V.int 4, V.int 4, V.int 4, V.int 5]) p1 = some (.lst [V.int 4, V.int 4, V.int 4, V.int 5]) := ze;generalize upd H1 p1 (.lst [V.int 4, V.int 4, V.int 4, V.int 5]) = H2 at *;have s3 : Same H2 (upd H2 p2 (.lst [V.int 8, V.int 8, V.int 5, V.int 1])) := Same.upd (Same.refl _) hp2;have c3 : upd H2 p2 (.lst [V.int 8, V.int 8, V.int 5, V.int 1]) p2 = some (.lst [V.int 8, V.int 8, V.int 5, V.int 1]) := ze;generalize upd H2 p2 (.lst [V.int 8, V.int 8, V.int 5, V.int 1]) = H3 at *;have s4 : Same H3 (upd H3 p3 (.lst [V.int 7, V.int 1, V.int 5, V.int 8])) := Same.upd (Same.refl _) hp3;have c4 : upd H3 p3 (.lst [V.int 7, V.int 1, V.int 5, V.int 8]) p3 = some (.lst [V.int 7, V.int 1, V.int 5, V.int 8]) := ze;generalize upd H3 p3 (.lst [V.int 7, V.int 1, V.int 5, V.int 8]) = H4 at *;have s5 : Same H4 (upd H4 p4 (.lst [V.ref p, V.ref p1, V.ref p2, V.ref p3])) := Same.upd (Same.refl _) hp4;generalize upd H4 p4 (.lst [V.ref p, V.ref p1, V.ref p2, V.ref p3]) = H5 at *;have S := s1.trans (s2.trans (s3.trans (s4.trans s5)));have hidx : c % 4 = 0 \/ c % 4 = 1 \/ c % 4 = 2 \/ c % 4 = 3 := by omega
  rcases hidx with e | e | e | e <;> rw [e]
  . exact ⟨[5, 4, 4, 4], p, zj (j := 0) rfl, (s2.trans (s3.trans (s4.trans s5))) _ _ c1, S, rfl, by decide, by decide⟩
  . exact ⟨[4, 4, 4, 5], p1, zj (j := 1) rfl, (s3.trans (s4.trans s5)) _ _ c2, S, rfl, by decide, by decide⟩
  . exact ⟨[8, 8, 5, 1], p2, zj (j := 2) rfl, (s4.trans s5) _ _ c3, S, rfl, by decide, by decide⟩
  . exact ⟨[7, 1, 5, 8], p3, zj (j := 3) rfl, s5 _ _ c4, S, rfl, by decide, by decide⟩
def u9 (j : Nat) : Str := chr1 (112 + j)
def nn (n : Nat) (szs : List Nat) : List HD := (List.range 4).map fun j => zd n (u9 j) ((List.range (szs.getD j 0)).map abcN)
def PvSz (st : L2.St) (H : Hp) (m : Addr) (ds : List HD) (i : Nat) (σ : L2.St) (H' : Hp) : Prop := Same H H' /\ (∃ (ys : List V) (xs : List HX), H' m = some (.lst ys) /\ ys = xs.map (fun x => V.ref x.t) /\ xs.length = i /\ ∃ Hb : Hp, Hb m = none /\ Same Hb H' /\ ∀ (j : Nat) (x : HX) (d : HD), xs[j]? = some x -> ds[j]? = some d -> HandAt Hb x d) /\ ∃ v1 v2 v3 : Option V, σ = st ++ [v1, v2, v3]
theorem ac {H : Hp} {m : Addr} {o : HO} : Same (erp H m) (upd H m o) := fun a o' h => by
  by_cases e : a = m
  . rw [e, df] at h; cases h
  . rw [z0 e]; rw [rh e] at h; exact h
theorem ba {Hb H : Hp} {m : Addr} (h0 : Hb m = none) (S : Same Hb H) : Same Hb (erp H m) := fun a o h => by
  by_cases e : a = m
  . rw [e, h0] at h; cases h
  . rw [rh e]; exact S _ _ h
theorem cy {i : Nat} (h : i < 8) : (Str.ofString "abcdefgh").cps.toList[i]? = some (97 + i) := by
  have : ∀ i < 8, (Str.ofString "abcdefgh").cps.toList[i]? = some (97 + i) := by decide +kernel
  exact this i h
theorem bc {i : Nat} (h : i < 4) : (Str.ofString "pqrs").cps.toList[i]? = some (112 + i) := by
  have : ∀ i < 4, (Str.ofString "pqrs").cps.toList[i]? = some (112 + i) := by decide +kernel
  exact this i h
theorem fe {j : Nat} (h : j < 4) : y2 (u9 j) := by
  have : ∀ j < 4, v7 (u9 j) = true := by decide +kernel
  exact nameB_iff.mp (this j h)
theorem gf (n : Nat) : ((List.range n).map abcN).Nodup := by
  refine ZX.mpr (List.Pairwise.imp (fun {a b} ne e => ne ?_) List.nodup_range);have h : (chr1 (97 + a)).cps.toList = (chr1 (97 + b)).cps.toList := congrArg (fun z : Str => z.cps.toList) e;have h2 : [97 + a] = [97 + b] := h;have := (List.cons.inj h2).1;omega
def PvZr (H : Hp) (m : Addr) (n : Nat) (i : Nat) (ys : List V) (H' : Hp) : Prop := Same H H' /\ ∃ gs : List Addr, ys = gs.map V.ref /\ gs.length = i /\ ∀ r ∈ gs, r ≠ m /\ H' r = some (.lst (List.replicate n (V.int 0)))
def mx (K : Fg) : Sp := fun vs H Q _ => ∃ (b o : Addr) (outs : List Str) (xs : List HX) (ds : List HD) (c : Int), vs = [.ref b, .ref o, .int c] /\ H o = some (.lst (outs.map V.str)) /\ HandsL H b xs ds /\ GoodHouse outs ds /\ ∀ H' v, Same H H' -> uz K H' (.ref o) v false -> Q v H'
def PvL4 (H : Hp) (i : Nat) (ys : List V) (H' : Hp) : Prop := Same H H' /\ ys.length = i
section
variable {P : Program} {w : World} {K : Fg} {mg : Str -> Option Value} {base : Heap} {a : Ad}
theorem ul (B : Bt mg) (u4 : FnAt P w K mg base "_law_no_hand" 2 ["hand", "cell"] (k9 K)) (D : zt K mg "_law_no_hands" zn ["hands", "outcomes", "cell"]) : FnAt P w K mg base "_law_no_hands" 3 ["hands", "outcomes", "cell"] (mx K) := by
  refine FnAt.of D sc_law_no_hands (fun vs H Q E h => ?_) (fun f cdv A outer s H vs Q E hr h => ?_)
  . obtain ⟨b, o, outs, xs, ds, c, rfl, _⟩ := h
    rfl
  . obtain ⟨b, o, outs, xs, ds, c, rfl, ho, hh, G, q⟩ := h
    have s7 : PS ((cxOf CX0 P w K mg base ["hands", "outcomes", "cell", "place", "way", "other", "sizes", "made", "j", "words", "worths"] "_law_no_hands" (zf zn) f cdv A outer s H E).nox) ((zi zn).getD 7 (.Pass ⟨0, 0, 0, 0⟩)) _ := (@zr _ _ _ _ (@zg _ _ _ _ _ _ _ _ xf (@zg _ _ _ _ _ _ _ _ xf (@ym _ _ _ _ _ _ _ _ _ _ yy (pv 0) (@yw _) (@yv _ _ _ (pv 3))) (@yb _ _ _ _ (za (zw u4 (hr.mono (by decide)) rfl (za (@z6 _ _ _ _ _ _ _ yo (pv 0) (pv 3) (fun _ _ => rfl)) (za (@zg _ _ _ _ _ _ _ _ yc (pv 2) (@zb _ _ _ _)) (@zc _)))) (@zc _)))) (@ym _ _ _ _ _ _ _ _ _ _ yy (pv 0) (@yv _ _ _ (@zg _ _ _ _ _ _ _ _ yt (pv 3) (@zb _ _ _ _))) (@yw _))));have b7 : PSs (cxOf CX0 P w K mg base ["hands", "outcomes", "cell", "place", "way", "other", "sizes", "made", "j", "words", "worths"] "_law_no_hands" (zf zn) f cdv A outer s H E).nox ((zi zn).drop 7) _ := (@tq _ _ _ _ _ @s7 rfl rfl);have s6 : PS ((cxOf CX0 P w K mg base ["hands", "outcomes", "cell", "place", "way", "other", "sizes", "made", "j", "words", "worths"] "_law_no_hands" (zf zn) f cdv A outer s H E).nox) ((zi zn).getD 6 (.Pass ⟨0, 0, 0, 0⟩)) _ := (@yf _ _ _ _ _ _ _ _ (@ye _ _ _ _ _ _ _ _ y3 (pv 4) (@zb _ _ _ _) (ya _)) (@zu _ _ _ _ _ (mm (i := 9) ["k"] ["hands", "outcomes", "cell", "place", "way", "other", "sizes", "made", "j", "words", "worths"] sc_law_no_hands.nd rfl rfl rfl (x0 rfl B.range (za (@zb _ _ _ _) (@zc _))) (fun _ => (z7 (i := 0) (show (["k", "hands", "outcomes", "cell", "place", "way", "other", "sizes", "made", "j", "words", "worths"] : List Str).Nodup by decide +kernel) rfl (Or.inl rfl))) (fun _ => (@yi _)) (fun _ => (@z6 _ _ _ _ _ _ _ t9 (@yh _ _ _ _) (pv 0) (fun _ _ => rfl))) rfl (by decide +kernel) rfl rfl rfl) (@zu _ _ _ _ _ (mm (i := 10) ["word"] ["hands", "outcomes", "cell", "place", "way", "other", "sizes", "made", "j", "words", "worths"] sc_law_no_hands.nd rfl rfl rfl (@yu _ _ _ _ (pv 9)) (fun _ => (z7 (i := 0) (show (["word", "hands", "outcomes", "cell", "place", "way", "other", "sizes", "made", "j", "words", "worths"] : List Str).Nodup by decide +kernel) rfl (Or.inl rfl))) (fun _ => (@yi _)) (fun _ => (y4 t6 rfl B.list wf (za (@z6 _ _ _ _ _ _ _ yo (@z6 _ _ _ _ _ _ _ yx (@z6 _ _ _ _ _ _ _ yo (pv 1) (pv 4) (fun _ _ => rfl)) (@zb _ _ _ _) (fun _ _ => rfl)) (@zb _ _ _ _) (fun _ _ => rfl)) (@zc _)))) rfl (by decide +kernel) rfl rfl rfl) (@zk _ _ _ (@zr _ _ _ _ (@zg _ _ _ _ _ _ _ _ xf (@zg _ _ _ _ _ _ _ _ xf (@ym _ _ _ _ _ _ _ _ _ _ yy (pv 0) (@yw _) (@yv _ _ _ (pv 3))) (@yb _ _ _ _ (@za _ _ _ _ _ (@y9 _ _ _ _ _ (@za _ _ _ _ _ (@z6 _ _ _ _ _ _ _ yx (@z6 _ _ _ _ _ _ _ yo (pv 0) (pv 3) (fun _ _ => rfl)) (@zb _ _ _ _) (fun _ _ => rfl)) (@za _ _ _ _ _ (pv 9) (@za _ _ _ _ _ (pv 10) (@zc _) (zh nofun)) (zh nofun)) (zh nofun))) (@zc _) (zh nofun)))) (@ym _ _ _ _ _ _ _ _ _ _ yy (pv 0) (@yv _ _ _ (@zg _ _ _ _ _ _ _ _ yt (pv 3) (@zb _ _ _ _))) (@yw _))))))) (@z5 _));have b6 : PSs (cxOf CX0 P w K mg base ["hands", "outcomes", "cell", "place", "way", "other", "sizes", "made", "j", "words", "worths"] "_law_no_hands" (zf zn) f cdv A outer s H E).nox ((zi zn).drop 6) _ := (@yd _ _ _ _ _ _ @s6 rfl @b7);have s5 : PS ((cxOf CX0 P w K mg base ["hands", "outcomes", "cell", "place", "way", "other", "sizes", "made", "j", "words", "worths"] "_law_no_hands" (zf zn) f cdv A outer s H E).nox) ((zi zn).getD 5 (.Pass ⟨0, 0, 0, 0⟩)) _ := (@yf _ _ _ _ _ _ _ _ (@ye _ _ _ _ _ _ _ _ y3 (pv 4) (@zb _ _ _ _) (ya _)) (@zu _ _ _ _ _ (@zy _ _ 6 _ _ _ _ sc_law_no_hands.nd (by rfl) (by exact Or.inl rfl) (@z6 _ _ _ _ _ _ _ yo (@yb _ _ _ _ (@za _ _ _ _ _ (@yb _ _ _ _ (@za _ _ _ _ _ (@zb _ _ _ _) (@za _ _ _ _ _ (@zb _ _ _ _) (@za _ _ _ _ _ (@zb _ _ _ _) (@za _ _ _ _ _ (@zb _ _ _ _) (@zc _) (zh nofun)) (zh nofun)) (zh nofun)) (zh nofun))) (@za _ _ _ _ _ (@yb _ _ _ _ (@za _ _ _ _ _ (@zb _ _ _ _) (@za _ _ _ _ _ (@zb _ _ _ _) (@za _ _ _ _ _ (@zb _ _ _ _) (@za _ _ _ _ _ (@zb _ _ _ _) (@zc _) (zh nofun)) (zh nofun)) (zh nofun)) (zh nofun))) (@za _ _ _ _ _ (@yb _ _ _ _ (@za _ _ _ _ _ (@zb _ _ _ _) (@za _ _ _ _ _ (@zb _ _ _ _) (@za _ _ _ _ _ (@zb _ _ _ _) (@za _ _ _ _ _ (@zb _ _ _ _) (@zc _) (zh nofun)) (zh nofun)) (zh nofun)) (zh nofun))) (@za _ _ _ _ _ (@yb _ _ _ _ (@za _ _ _ _ _ (@zb _ _ _ _) (@za _ _ _ _ _ (@zb _ _ _ _) (@za _ _ _ _ _ (@zb _ _ _ _) (@za _ _ _ _ _ (@zb _ _ _ _) (@zc _) (zh nofun)) (zh nofun)) (zh nofun)) (zh nofun))) (@zc _) (zh nofun)) (zh nofun)) (zh nofun)) (zh nofun))) (@zg _ _ _ _ _ _ _ _ z4 (@zg _ _ _ _ _ _ _ _ yc (pv 2) (@zb _ _ _ _)) (@zb _ _ _ _)) (fun _ _ => rfl)) (by rfl) (by first | exact Or.inl rfl | exact Or.inr rfl)) (@zu _ _ _ _ _ (@zy _ _ 7 _ _ _ _ sc_law_no_hands.nd (by rfl) (by exact Or.inl rfl) (@yb _ _ _ _ (@zc _)) (by rfl) (by first | exact Or.inl rfl | exact Or.inr rfl)) (@zu _ _ _ _ _ (qq PassesOwn.never rfl (x0 rfl B.range (za (@zb _ _ _ _) (@zc _))) (z7 (i := 8) sc_law_no_hands.nd rfl (Or.inl rfl)) (@zu _ _ _ _ _ (mm (i := 9) ["k"] ["hands", "outcomes", "cell", "place", "way", "other", "sizes", "made", "j", "words", "worths"] sc_law_no_hands.nd rfl rfl rfl (x0 rfl B.range (za (@z6 _ _ _ _ _ _ _ yo (pv 6) (pv 8) (fun _ _ => rfl)) (@zc _))) (fun _ => (z7 (i := 0) (show (["k", "hands", "outcomes", "cell", "place", "way", "other", "sizes", "made", "j", "words", "worths"] : List Str).Nodup by decide +kernel) rfl (Or.inl rfl))) (fun _ => (@yi _)) (fun _ => (@z6 _ _ _ _ _ _ _ t9 (@yh _ _ _ _) (pv 0) (fun _ _ => rfl))) rfl (by decide +kernel) rfl rfl rfl) (@zk _ _ _ (qv (l9 PySem.F.plainAttrs_list PySem.F.slot_list_append PySem.F.type_list_append sh (pv 7) (@za _ _ _ _ _ (@y9 _ _ _ _ _ (@za _ _ _ _ _ (@z6 _ _ _ _ _ _ _ t9 (@yh _ _ _ _) (pv 8) (fun _ _ => rfl)) (@za _ _ _ _ _ (pv 9) (@za _ _ _ _ _ (yn ["word"] ["hands", "outcomes", "cell", "place", "way", "other", "sizes", "made", "j", "words", "worths"] rfl (@yu _ _ _ _ (pv 9)) (fun _ => (z7 (i := 0) (show (["word", "hands", "outcomes", "cell", "place", "way", "other", "sizes", "made", "j", "words", "worths"] : List Str).Nodup by decide +kernel) rfl (Or.inl rfl))) (fun _ => (@yi _)) (fun _ => (yn ["one"] ["word", "hands", "outcomes", "cell", "place", "way", "other", "sizes", "made", "j", "words", "worths"] rfl (@yu _ _ _ _ (pv 2)) (fun _ => (z7 (i := 0) (show (["one", "word", "hands", "outcomes", "cell", "place", "way", "other", "sizes", "made", "j", "words", "worths"] : List Str).Nodup by decide +kernel) rfl (Or.inl rfl))) (fun _ => (@yi _)) (fun _ => (@zb _ _ _ _)) rfl (by decide +kernel) rfl rfl)) rfl (by decide +kernel) rfl rfl) (@zc _) (zh nofun)) (zh nofun)) (zh nofun))) (@zc _) (zh nofun))))))) (@zk _ _ _ (@zr _ _ _ _ (pv 7)))))) (@z5 _));have b5 : PSs (cxOf CX0 P w K mg base ["hands", "outcomes", "cell", "place", "way", "other", "sizes", "made", "j", "words", "worths"] "_law_no_hands" (zf zn) f cdv A outer s H E).nox ((zi zn).drop 5) _ := (@yd _ _ _ _ _ _ @s5 rfl @b6);have s4 : PS ((cxOf CX0 P w K mg base ["hands", "outcomes", "cell", "place", "way", "other", "sizes", "made", "j", "words", "worths"] "_law_no_hands" (zf zn) f cdv A outer s H E).nox) ((zi zn).getD 4 (.Pass ⟨0, 0, 0, 0⟩)) _ := (@yf _ _ _ _ _ _ _ _ (@ye _ _ _ _ _ _ _ _ y3 (pv 4) (@zb _ _ _ _) (ya _)) (@zk _ _ _ (@zr _ _ _ _ (yn ["name"] ["hands", "outcomes", "cell", "place", "way", "other", "sizes", "made", "j", "words", "worths"] rfl (@yu _ _ _ _ (@yb _ _ _ _ (@za _ _ _ _ _ (@yh _ _ _ _) (@za _ _ _ _ _ (@yh _ _ _ _) (@za _ _ _ _ _ (@yh _ _ _ _) (@za _ _ _ _ _ (@yh _ _ _ _) (@za _ _ _ _ _ (@yh _ _ _ _) (@zc _) (zh nofun)) (zh nofun)) (zh nofun)) (zh nofun)) (zh nofun)))) (fun _ => (z7 (i := 0) (show (["name", "hands", "outcomes", "cell", "place", "way", "other", "sizes", "made", "j", "words", "worths"] : List Str).Nodup by decide +kernel) rfl (Or.inl rfl))) (fun _ => (@yi _)) (fun _ => (@y9 _ _ _ _ _ (@za _ _ _ _ _ (pv 0) (@za _ _ _ _ _ (@yb _ _ _ _ (@za _ _ _ _ _ (@yh _ _ _ _) (@zc _) (zh nofun))) (@za _ _ _ _ _ (@yb _ _ _ _ (@za _ _ _ _ _ (yn ["one"] ["name", "hands", "outcomes", "cell", "place", "way", "other", "sizes", "made", "j", "words", "worths"] rfl (@yu _ _ _ _ (pv 2)) (fun _ => (z7 (i := 0) (show (["one", "name", "hands", "outcomes", "cell", "place", "way", "other", "sizes", "made", "j", "words", "worths"] : List Str).Nodup by decide +kernel) rfl (Or.inl rfl))) (fun _ => (@yi _)) (fun _ => (@zb _ _ _ _)) rfl (by decide +kernel) rfl rfl) (@zc _) (zh nofun))) (@zc _) (zh nofun)) (zh nofun)) (zh nofun)))) rfl (by decide +kernel) rfl rfl))) (@z5 _));have b4 : PSs (cxOf CX0 P w K mg base ["hands", "outcomes", "cell", "place", "way", "other", "sizes", "made", "j", "words", "worths"] "_law_no_hands" (zf zn) f cdv A outer s H E).nox ((zi zn).drop 4) _ := (@yd _ _ _ _ _ _ @s4 rfl @b5);have s3 : PS ((cxOf CX0 P w K mg base ["hands", "outcomes", "cell", "place", "way", "other", "sizes", "made", "j", "words", "worths"] "_law_no_hands" (zf zn) f cdv A outer s H E).nox) ((zi zn).getD 3 (.Pass ⟨0, 0, 0, 0⟩)) _ := (@yf _ _ _ _ _ _ _ _ (@ye _ _ _ _ _ _ _ _ y3 (pv 4) (@zb _ _ _ _) (ya _)) (@zu _ _ _ _ _ (@zy _ _ 5 _ _ _ _ sc_law_no_hands.nd (by rfl) (by exact Or.inl rfl) (@zg _ _ _ _ _ _ _ _ z4 (@zg _ _ _ _ _ _ _ _ yc (pv 2) (@zb _ _ _ _)) (@zg _ _ _ _ _ _ _ _ yt (zo zz rfl B.len yp (za (pv 0) (@zc _))) (@zb _ _ _ _))) (by rfl) (by first | exact Or.inl rfl | exact Or.inr rfl)) (@zk _ _ _ (@zr _ _ _ _ (@zg _ _ _ _ _ _ _ _ xf (@zg _ _ _ _ _ _ _ _ xf (@ym _ _ _ _ _ _ _ _ _ _ yy (pv 0) (@yw _) (@yv _ _ _ (pv 5))) (@yb _ _ _ _ (@za _ _ _ _ _ (@y9 _ _ _ _ _ (@za _ _ _ _ _ (@z6 _ _ _ _ _ _ _ yx (@z6 _ _ _ _ _ _ _ yo (pv 0) (pv 3) (fun _ _ => rfl)) (@zb _ _ _ _) (fun _ _ => rfl)) (@za _ _ _ _ _ (@yb _ _ _ _ (@za _ _ _ _ _ (@yh _ _ _ _) (@zc _) (zh nofun))) (@za _ _ _ _ _ (@yb _ _ _ _ (@za _ _ _ _ _ (yn ["one"] ["hands", "outcomes", "cell", "place", "way", "other", "sizes", "made", "j", "words", "worths"] rfl (@yu _ _ _ _ (pv 1)) (fun _ => (z7 (i := 0) (show (["one", "hands", "outcomes", "cell", "place", "way", "other", "sizes", "made", "j", "words", "worths"] : List Str).Nodup by decide +kernel) rfl (Or.inl rfl))) (fun _ => (@yi _)) (fun _ => (@zb _ _ _ _)) rfl (by decide +kernel) rfl rfl) (@zc _) (zh nofun))) (@zc _) (zh nofun)) (zh nofun)) (zh nofun))) (@zc _) (zh nofun)))) (@ym _ _ _ _ _ _ _ _ _ _ yy (pv 0) (@yv _ _ _ (pv 5)) (@yw _)))))) (@z5 _));have b3 : PSs (cxOf CX0 P w K mg base ["hands", "outcomes", "cell", "place", "way", "other", "sizes", "made", "j", "words", "worths"] "_law_no_hands" (zf zn) f cdv A outer s H E).nox ((zi zn).drop 3) _ := (@yd _ _ _ _ _ _ @s3 rfl @b4);have s2 : PS ((cxOf CX0 P w K mg base ["hands", "outcomes", "cell", "place", "way", "other", "sizes", "made", "j", "words", "worths"] "_law_no_hands" (zf zn) f cdv A outer s H E).nox) ((zi zn).getD 2 (.Pass ⟨0, 0, 0, 0⟩)) _ := (@yf _ _ _ _ _ _ _ _ (@ye _ _ _ _ _ _ _ _ y3 (pv 4) (@zb _ _ _ _) (ya _)) (@zk _ _ _ (@zr _ _ _ _ (@z6 _ _ _ _ _ _ _ yo (@yb _ _ _ _ (@za _ _ _ _ _ (@yb _ _ _ _ (@zc _)) (@za _ _ _ _ _ (@vk _ _ _) (@za _ _ _ _ _ (y4 xj rfl B.tuple xb (@za _ _ _ _ _ (pv 0) (@zc _) (zh nofun))) (@za _ _ _ _ _ (@yh _ _ _ _) (@zc _) (zh nofun)) (zh nofun)) (zh nofun)) (zh nofun))) (@zg _ _ _ _ _ _ _ _ z4 (@zg _ _ _ _ _ _ _ _ yc (pv 2) (@zb _ _ _ _)) (@zb _ _ _ _)) (fun _ _ => rfl)))) (@z5 _));have b2 : PSs (cxOf CX0 P w K mg base ["hands", "outcomes", "cell", "place", "way", "other", "sizes", "made", "j", "words", "worths"] "_law_no_hands" (zf zn) f cdv A outer s H E).nox ((zi zn).drop 2) _ := (@yd _ _ _ _ _ _ @s2 rfl @b3);have s1 : PS ((cxOf CX0 P w K mg base ["hands", "outcomes", "cell", "place", "way", "other", "sizes", "made", "j", "words", "worths"] "_law_no_hands" (zf zn) f cdv A outer s H E).nox) ((zi zn).getD 1 (.Pass ⟨0, 0, 0, 0⟩)) _ := (@zy _ _ 4 _ _ _ _ sc_law_no_hands.nd (by rfl) (by exact Or.inl rfl) (@zg _ _ _ _ _ _ _ _ z4 (pv 2) (@zb _ _ _ _)) (by rfl) (by first | exact Or.inl rfl | exact Or.inr rfl));have b1 : PSs (cxOf CX0 P w K mg base ["hands", "outcomes", "cell", "place", "way", "other", "sizes", "made", "j", "words", "worths"] "_law_no_hands" (zf zn) f cdv A outer s H E).nox ((zi zn).drop 1) _ := (@yd _ _ _ _ _ _ @s1 rfl @b2);have s0 : PS ((cxOf CX0 P w K mg base ["hands", "outcomes", "cell", "place", "way", "other", "sizes", "made", "j", "words", "worths"] "_law_no_hands" (zf zn) f cdv A outer s H E).nox) ((zi zn).getD 0 (.Pass ⟨0, 0, 0, 0⟩)) _ := (@zy _ _ 3 _ _ _ _ sc_law_no_hands.nd (by rfl) (by exact Or.inr rfl) (@zg _ _ _ _ _ _ _ _ z4 (@zg _ _ _ _ _ _ _ _ yc (pv 2) (@zb _ _ _ _)) (zo zz rfl B.len yp (za (pv 0) (@zc _)))) (by rfl) (by first | exact Or.inl rfl | exact Or.inr rfl));have b0 : PSs (cxOf CX0 P w K mg base ["hands", "outcomes", "cell", "place", "way", "other", "sizes", "made", "j", "words", "worths"] "_law_no_hands" (zf zn) f cdv A outer s H E).nox ((zi zn).drop 0) _ := (@yd _ _ _ _ _ _ @s0 rfl @b1);have b_ := @tu _ _ _ @b0;refine ⟨_, @b_, ?_⟩;rw [show start ["hands", "outcomes", "cell", "place", "way", "other", "sizes", "made", "j", "words", "worths"] [V.ref b, V.ref o, V.int c] = [some (V.ref b), some (V.ref o), some (V.int c), none, none, none, none, none, none, none, none] from rfl];clear b_ b0 b1 b2 b3 b4 b5 b6 b7 s0 s1 s2 s3 s4 s5 s6 s7;refine hide3 fun T hT => ?_
    simp only [zp, zq, ↓reduceIte];have h4 := G.hands;have lx : (xs.map fun x => V.ref x.t).length = ds.length := by rw [Za, hh.len]
    have hpl := yl (c / 8) (show (0 : Int) < ds.length by omega);obtain ⟨pn, hpn⟩ : ∃ pn : Nat, c / 8 % (ds.length : Int) = pn := ⟨(c / 8 % (ds.length : Int)).toNat, by omega⟩;refine ⟨⟨by decide, by decide⟩, _, .inl (.of hh.at'), by omega, by decide, rfl, ite2 (fun _ => ?_) fun _ => ?_⟩
    . refine ⟨by decide, fun p hp => ?_⟩
      have s1 : Same H (upd H p (.lst [])) := Same.upd (Same.refl _) hp;have c1 : upd H p (.lst []) p = some (.lst []) := ze;generalize upd H p (.lst []) = H1 at *;refine ⟨_, .of (s1 _ _ hh.at'), fun l hl => ⟨by decide, fun p1 hp1 => ⟨⟨by decide, by decide⟩, by decide, _, .of ze, ?_⟩⟩⟩;have s2 : Same H1 (upd H1 l (.tup (xs.map fun x => V.ref x.t))) := Same.upd (Same.refl _) hl;have c2 : upd H1 l (.tup (xs.map fun x => V.ref x.t)) l = some (.tup (xs.map fun x => V.ref x.t)) := ze;generalize upd H1 l (.tup (xs.map fun x => V.ref x.t)) = H2 at *;have s3 : Same H2 (upd H2 p1 (.lst [V.ref p, V.non, V.ref l, V.str (Str.ofString "ab")])) := Same.upd (Same.refl _) hp1;generalize upd H2 p1 (.lst [V.ref p, V.non, V.ref l, V.str (Str.ofString "ab")]) = H3 at *;have S3 := s1.trans (s2.trans s3)
      have mk : ∀ v, (NoL K H3 v \/ v = .ref p) -> uz K H3 (.ref o) v false := fun v hv => by
        refine .inr ⟨o, outs, rfl, S3 _ _ ho, ⟨G.outs1.1, G.outs1.2, G.outsG, G.outsD⟩, ?_⟩
        rcases hv with hv | rfl
        . exact .inl ⟨rfl, hv⟩
        . exact .inr (.inr ⟨p, [], [], rfl, ⟨(s2.trans s3) _ _ c1, rfl, fun i x d e => by simp at e⟩, by decide, (fun d hd => nomatch hd), rfl⟩)
      have hidx : c / 64 % 4 = 0 \/ c / 64 % 4 = 1 \/ c / 64 % 4 = 2 \/ c / 64 % 4 = 3 := by omega
      rcases hidx with e | e | e | e <;> rw [e]
      . exact ⟨_, zj (j := 0) rfl, q _ _ S3 (mk _ (.inr rfl))⟩
      . exact ⟨_, zj (j := 1) rfl, q _ _ S3 (mk _ (.inl iq))⟩
      . exact ⟨_, zj (j := 2) rfl, q _ _ S3 (mk _ (.inl (im (s3 _ _ c2))))⟩
      . exact ⟨_, zj (j := 3) rfl, q _ _ S3 (mk _ (.inl aw))⟩
    rw [lx, hpn];rw [hpn] at hpl;have hpd : pn < ds.length := by omega
    have ed : ds[pn]? = some ds[pn] := Zb hpd;have hmd := Zl hpd;generalize ds[pn] = d at ed hmd;obtain ⟨x, hx⟩ : ∃ x, xs[pn]? = some x := ⟨xs[pn]'(by rw [hh.len]; exact hpd), Zb _⟩;have hO : 1 <= outs.length /\ outs.length <= 8 /\ (∀ z ∈ outs, y2 z) /\ outs.Nodup := ⟨G.outs1.1, G.outs1.2, G.outsG, G.outsD⟩
    have each : ∀ {H' : Hp}, Same H H' -> ∀ {y : V}, y ∈ (xs.map fun x => V.ref x.t) -> ∃ cc, HandA K H' y outs.length cc := fun S y hy => by
      obtain ⟨z, hz, rfl⟩ := Zp.mp hy;obtain ⟨i, hi⟩ := List.getElem?_of_mem hz;have li : i < ds.length := by have := (Zc.mp hi).1; have := hh.len; omega
      exact ⟨true, jb ((hh.hand i z ds[i] hi (Zb li)).mono S) (G.hand (Zl li)) (by omega)⟩
    rw [hT];clear hT T;simp only [zp, zq, ↓reduceIte];refine ⟨rfl, ite2 (fun _ => ?_) fun _ => ⟨rfl, ite2 (fun _ => ?_) fun _ => ⟨rfl, ite2 (fun _ => ?_) fun _ => ⟨rfl, ite2 (fun _ => ?_) fun _ => ?_⟩⟩⟩⟩
    . have hoth := yl (c / 512) (show (0 : Int) < (ds.length : Int) + 1 by omega)
      obtain ⟨kn, hkn⟩ : ∃ kn : Nat, c / 512 % ((ds.length : Int) + 1) = kn := ⟨(c / 512 % ((ds.length : Int) + 1)).toNat, by omega⟩;refine ⟨⟨by decide, by decide⟩, _, .inl (.of hh.at'), by omega, ?_⟩;rw [lx, hkn];rw [hkn] at hoth;refine ⟨_, .of hh.at', fun p hp => ?_⟩;rw [ww (by omega)];have s3 : Same H (upd H p (.lst ((xs.map fun x => V.ref x.t).take kn))) := Same.upd (Same.refl _) hp;have c3 : upd H p (.lst ((xs.map fun x => V.ref x.t).take kn)) p = some (.lst ((xs.map fun x => V.ref x.t).take kn)) := ze;generalize upd H p (.lst ((xs.map fun x => V.ref x.t).take kn)) = H3 at *;refine ⟨_, .of (s3 _ _ hh.at'), V.ref x.t, zj (by rw [Ze, hx]; rfl), x.t, rfl, _, .of (s3 _ _ (hh.hand pn x d hx ed).tup), _, zj (j := 0) rfl, by decide, fun p2 hp2 => ?_⟩;have s4 : Same H3 (upd H3 p2 (.lst [V.str (Str.ofString "x")])) := Same.upd (Same.refl _) hp2;have c4 : upd H3 p2 (.lst [V.str (Str.ofString "x")]) p2 = some (.lst ([Str.ofString "x"].map V.str)) := ze;generalize upd H3 p2 (.lst [V.str (Str.ofString "x")]) = H4 at *;have ho4 := (s3.trans s4) _ _ ho;refine ⟨⟨_, .of ho4⟩, fun dd => g9 ho4 hO.2.1 (fun x H' R R2 h => ⟨rfl, h⟩) fun l hl => ⟨by decide, fun p3 hp3 => ⟨by decide, fun p4 hp4 => ⟨by decide, fun p5 hp5 => ?_⟩⟩⟩⟩;have s5 : Same H4 (upd H4 l (.lst (List.replicate outs.length (V.int 0)))) := Same.upd (Same.refl _) hl;have c5 : upd H4 l (.lst (List.replicate outs.length (V.int 0))) l = some (.lst (List.replicate outs.length (V.int 0))) := ze;generalize upd H4 l (.lst (List.replicate outs.length (V.int 0))) = H5 at *;have s6 : Same H5 (upd H5 p3 (.lst [V.ref l])) := Same.upd (Same.refl _) hp3;have c6 : upd H5 p3 (.lst [V.ref l]) p3 = some (.lst ([l].map V.ref)) := ze;generalize upd H5 p3 (.lst [V.ref l]) = H6 at *;have s7 : Same H6 (upd H6 p4 (.tup [V.str d.name, V.ref p2, V.ref p3])) := Same.upd (Same.refl _) hp4;have c7 : upd H6 p4 (.tup [V.str d.name, V.ref p2, V.ref p3]) p4 = some (.tup [V.str d.name, V.ref p2, V.ref p3]) := ze;generalize upd H6 p4 (.tup [V.str d.name, V.ref p2, V.ref p3]) = H7 at *;have s8 : Same H7 (upd H7 p5 (.lst [V.ref p4])) := Same.upd (Same.refl _) hp5;have c8 : upd H7 p5 (.lst [V.ref p4]) p5 = some (.lst [V.ref p4]) := ze;generalize upd H7 p5 (.lst [V.ref p4]) = H8 at *;have S8 := s3.trans (s4.trans (s5.trans (s6.trans (s7.trans s8))));refine vb (S8 _ _ hh.at') ((s4.trans (s5.trans (s6.trans (s7.trans s8)))) _ _ c3) c8 (j := kn) rfl (by omega) (by rw [Zj]; omega) (by omega) fun H9 p9 S9 h9 => ?_
      have A9 : HandAt H9 ⟨p4, p2, p3, [l]⟩ (zd outs.length d.name [Str.ofString "x"]) := gy ((s8.trans S9) _ _ c7) ((s5.trans (s6.trans (s7.trans (s8.trans S9)))) _ _ c4) ((s7.trans (s8.trans S9)) _ _ c6) rfl fun r hr => by
        rw [ZB.mp hr];exact (s6.trans (s7.trans (s8.trans S9))) _ _ c5
      refine q _ _ (S8.trans S9) (rm ((S8.trans S9) _ _ ho) hO ((hh.mono (S8.trans S9)).ins (by omega) A9 h9) (by rw [len3 (by omega) (by omega)]; omega) (fun e he => ?_) (.inr (.inl ?_)))
      . rcases mem3 he with z | rfl
        . exact G.hand z
        . exact ml (G.hand hmd).name (by decide) (by rintro y (hy : y ∈ [Str.ofString "x"]); rw [ZB.mp hy]; exact nameB_iff.mp (by decide +kernel)) (by simp)
      . rw [Zn, Zn, List.map_take, List.map_drop]
        exact ic (Zp.mpr ⟨d, hmd, rfl⟩)
    . refine ⟨by decide, fun p hp => ?_⟩
      have s1 : Same H (upd H p (.lst [V.str (Str.ofString "a"), V.str (Str.ofString "b"), V.str (Str.ofString "c"), V.str (Str.ofString "d"), V.str (Str.ofString "e")])) := Same.upd (Same.refl _) hp;have c1 : upd H p (.lst [V.str (Str.ofString "a"), V.str (Str.ofString "b"), V.str (Str.ofString "c"), V.str (Str.ofString "d"), V.str (Str.ofString "e")]) p = some (.lst (abcde.map V.str)) := ze;generalize upd H p (.lst [V.str (Str.ofString "a"), V.str (Str.ofString "b"), V.str (Str.ofString "c"), V.str (Str.ofString "d"), V.str (Str.ofString "e")]) = H1 at *;refine ⟨⟨_, .of c1⟩, fun dd => ?_⟩;refine yq (xs := abcde.map V.str) (PvHz H1 (abcde.map fun z => zd outs.length z [Str.ofString "x"])) ⟨Same.refl _, [], rfl, rfl, fun j x d e => by simp at e⟩ ?_ ?_ ?_
      . rintro i ys H' hi ⟨S2, zs, lz, rfl, _⟩
        rw [Za] at hi;exact ⟨by rw [Za, lz]; exact Zd hi (by decide), .of (S2 _ _ c1)⟩
      . rintro i x ys H' hx PH
        obtain ⟨z, hz, rfl⟩ := someS hx;have S2 := PH.1;simp only [zp, zq, ↓reduceIte];refine ⟨by decide, fun p2 hp2 => ?_⟩;have s4 : Same H' (upd H' p2 (.lst [V.str (Str.ofString "x")])) := Same.upd (Same.refl _) hp2;have c4 : upd H' p2 (.lst [V.str (Str.ofString "x")]) p2 = some (.lst ([Str.ofString "x"].map V.str)) := ze;generalize upd H' p2 (.lst [V.str (Str.ofString "x")]) = H4 at *;have ho4 := (s1.trans (S2.trans s4)) _ _ ho;refine ⟨⟨_, .of ho4⟩, fun dd => g9 ho4 hO.2.1 (fun x H' R R2 h => ⟨rfl, h⟩) fun l hl => ⟨by decide, fun p3 hp3 => ⟨by decide, fun p4 hp4 => ?_⟩⟩⟩;have s5 : Same H4 (upd H4 l (.lst (List.replicate outs.length (V.int 0)))) := Same.upd (Same.refl _) hl;have c5 : upd H4 l (.lst (List.replicate outs.length (V.int 0))) l = some (.lst (List.replicate outs.length (V.int 0))) := ze;generalize upd H4 l (.lst (List.replicate outs.length (V.int 0))) = H5 at *;have s6 : Same H5 (upd H5 p3 (.lst [V.ref l])) := Same.upd (Same.refl _) hp3;have c6 : upd H5 p3 (.lst [V.ref l]) p3 = some (.lst ([l].map V.ref)) := ze;generalize upd H5 p3 (.lst [V.ref l]) = H6 at *;have s7 : Same H6 (upd H6 p4 (.tup [V.str z, V.ref p2, V.ref p3])) := Same.upd (Same.refl _) hp4;have c7 : upd H6 p4 (.tup [V.str z, V.ref p2, V.ref p3]) p4 = some (.tup [V.str z, V.ref p2, V.ref p3]) := ze;generalize upd H6 p4 (.tup [V.str z, V.ref p2, V.ref p3]) = H7 at *
        exact PH.step (x := ⟨p4, p2, p3, [l]⟩) (d := zd outs.length z [Str.ofString "x"]) (s4.trans (s5.trans (s6.trans s7))) (by rw [Ze, hz]; rfl) (gy c7 ((s5.trans (s6.trans s7)) _ _ c4) (s7 _ _ c6) rfl fun r hr => by
          rw [ZB.mp hr]
          exact (s6.trans s7) _ _ c5)
      . rintro ys H' PH l hl
        have s4 : Same H' (upd H' l (.lst ys)) := Same.upd (Same.refl _) hl;have c4 : upd H' l (.lst ys) l = some (.lst ys) := ze;generalize upd H' l (.lst ys) = H4 at *;have S4 := s1.trans (PH.1.trans s4);obtain ⟨zs, hz⟩ := PvHz.fin (H1 := H4) (ds := abcde.map fun z => zd outs.length z [Str.ofString "x"]) (PH.mono s4) c4
        exact q _ _ S4 (rm (S4 _ _ ho) hO hz (by show 5 <= 8; decide) (fun e he => by
          obtain ⟨z, hz, rfl⟩ := Zp.mp he
          exact ml (i9 z hz) (by decide) (by rintro y (hy : y ∈ [Str.ofString "x"]); rw [ZB.mp hy]; exact nameB_iff.mp (by decide +kernel)) (by simp)) (.inl (by show 4 < 5; decide)))
    . refine ⟨by decide, fun p hp => ⟨by decide, fun p1 hp1 => ⟨by decide, fun p2 hp2 => ⟨by decide, fun p3 hp3 => ⟨by decide, fun p4 hp4 => ⟨⟨by decide, by decide⟩, by decide, _, .of ze, ?_⟩⟩⟩⟩⟩⟩
      obtain ⟨szs, r, hr, hat, S5, sl, sb, sp⟩ := cj (c := c / 64) hp hp1 hp2 hp3 hp4;refine ⟨_, hr, by decide, fun m hm => ⟨by decide, by decide, ?_⟩⟩;generalize upd (upd (upd (upd (upd H p (.lst [V.int 5, V.int 4, V.int 4, V.int 4])) p1 (.lst [V.int 4, V.int 4, V.int 4, V.int 5])) p2 (.lst [V.int 8, V.int 8, V.int 5, V.int 1])) p3 (.lst [V.int 7, V.int 1, V.int 5, V.int 8])) p4 (.lst [V.ref p, V.ref p1, V.ref p2, V.ref p3]) = H5 at *;clear hp hp1 hp2 hp3 hp4;have s6 : Same H5 (upd H5 m (.lst [])) := Same.upd (Same.refl _) hm;have c6 : upd H5 m (.lst []) m = some (.lst []) := ze;generalize upd H5 m (.lst []) = H6 at *;have hat6 := s6 _ _ hat;refine mt (PvSz [some (V.ref b), some (V.ref o), some (V.int c), some (V.int pn), some (V.int (c % 8)), none, some (V.ref r), some (V.ref m)] H5 m (nn outs.length szs)) ⟨s6, ⟨_, [], c6, rfl, rfl, H5, hm, s6, fun j x d e => by simp at e⟩, _, _, _, rfl⟩ ?_ ?_
      . rintro i σ H7 hi ⟨S7, ⟨ys, zs, hm7, rfl, lz, Hb, hb, Sb, hz⟩, v1, v2, v3, rfl⟩
        have hi4 : i < 4 := hi;have il : i < szs.length := by omega
        obtain ⟨n, hn⟩ : ∃ n, szs[i]? = some n := ⟨szs[i], Zb il⟩;have nb := sb n (Zi hn);have hat7 := S7 _ _ hat;simp only [zp, zq, ↓reduceIte, Yi, Yb];refine ⟨_, .of hat7, V.int n, zj (by rw [Ze, hn]; rfl), _, rfl, by omega, by omega, fun dd => ?_⟩;rw [Zw];refine wp (PvAb H7) ⟨rfl, rfl⟩ ?_ ?_ ?_
        . rintro k ys H' hk ⟨rfl, rfl⟩
          rw [Za, Za, ZI];exact Zd (show k <= 8 by omega) (by decide)
        . rintro k ys H' hk ⟨rfl, rfl⟩
          have hk8 : k < 8 := by omega
          simp only [zp, zq, ↓reduceIte];refine ⟨by decide +kernel, 97 + k, zj (by have := cy hk8; simpa using this), rfl, ?_⟩;rw [ZQ, Zn, Zn];rfl
        . rintro ys H' ⟨rfl, rfl⟩ l hl
          have hg : ∀ z ∈ (List.range n).map abcN, y2 z := fun z hz => by
            obtain ⟨k, hk, rfl⟩ := Zp.mp hz;exact ux (by have := ZM.mp hk; omega)
          have lm : l ≠ m := fun e => by rw [e, hm7] at hl; cases hl
          have s8 : Same H' (upd H' l (.lst (((List.range n).map abcN).map V.str))) := Same.upd (Same.refl _) hl;have c8 : upd H' l (.lst (((List.range n).map abcN).map V.str)) l = some (.lst (((List.range n).map abcN).map V.str)) := ze;generalize upd H' l (.lst (((List.range n).map abcN).map V.str)) = H8 at *;refine ⟨.inl ⟨rfl, _, .of (s8 _ _ hm7)⟩, by decide +kernel, 112 + i, zj (bc hi4), ⟨_, .of c8⟩, fun dd => ?_⟩;refine yq (xs := ((List.range n).map abcN).map V.str) (PvZr H8 m outs.length) ⟨Same.refl _, [], rfl, rfl, fun r hr => nomatch hr⟩ ?_ ?_ ?_
          . rintro k ys H9 hk ⟨S9, gs, rfl, lg, _⟩
            rw [Za, Za, ZI] at hk;exact ⟨by rw [Za, lg]; exact Zd (show k <= 8 by omega) (by decide), .of (S9 _ _ c8)⟩
          . rintro k x ys H9 hx ⟨S9, gs, rfl, lg, hgs⟩
            simp only [zp, zq, ↓reduceIte];have ho9 := (S5.trans (S7.trans (s8.trans S9))) _ _ ho;refine ⟨⟨_, .of ho9⟩, fun dd => g9 ho9 hO.2.1 (fun x H' R R2 h => ⟨rfl, h⟩) fun l1 hl1 => ?_⟩;have l1m : l1 ≠ m := fun e => by rw [e, (s8.trans S9) _ _ hm7] at hl1; cases hl1
            have s10 : Same H9 (upd H9 l1 (.lst (List.replicate outs.length (V.int 0)))) := Same.upd (Same.refl _) hl1;refine ⟨S9.trans s10, gs ++ [l1], by rw [Zn]; rfl, by rw [Zo, lg]; rfl, fun r hr => ?_⟩
            rcases ZF.mp hr with h | h
            . exact ⟨(hgs r h).1, s10 _ _ (hgs r h).2⟩
            . rw [ZB.mp h]
              exact ⟨l1m, ze⟩
          . rintro ys H9 ⟨S9, gs, rfl, lg, hgs⟩ l1 hl1
            rw [Za, Za, ZI] at lg;have l1m : l1 ≠ m := fun e => by rw [e, (s8.trans S9) _ _ hm7] at hl1; cases hl1
            have s10 : Same H9 (upd H9 l1 (.lst (gs.map V.ref))) := Same.upd (Same.refl _) hl1;have c10 : upd H9 l1 (.lst (gs.map V.ref)) l1 = some (.lst (gs.map V.ref)) := ze;generalize upd H9 l1 (.lst (gs.map V.ref)) = H10 at *;refine ⟨by decide, fun t ht => ?_⟩;have tm : t ≠ m := fun e => by rw [e, (s8.trans (S9.trans s10)) _ _ hm7] at ht; cases ht
            have s11 : Same H10 (upd H10 t (.tup [V.str (u9 i), V.ref l, V.ref l1])) := Same.upd (Same.refl _) ht;have c11 : upd H10 t (.tup [V.str (u9 i), V.ref l, V.ref l1]) t = some (.tup [V.str (u9 i), V.ref l, V.ref l1]) := ze;refine ⟨_, (s8.trans (S9.trans (s10.trans s11))) _ _ hm7, by rw [Za, lz]; exact Zh (show i < 5 by omega) (by decide), ?_⟩;rw [show (⟨#[112 + i]⟩ : Str) = u9 i from rfl];generalize upd H10 t (.tup [V.str (u9 i), V.ref l, V.ref l1]) = H11 at *;have S11 := s8.trans (S9.trans (s10.trans s11));refine ⟨Same.upd (S7.trans S11) hm, ⟨_, zs ++ [⟨t, l, l1, gs⟩], ze, by rw [Zn]; rfl, by rw [Zo, lz]; rfl, erp H11 m, df, ac, fun j x d e1 e2 => ?_⟩, _, _, _, rfl⟩
            by_cases hj : j < i
            . rw [Zg (by omega)] at e1
              exact (hz j x d e1 e2).mono (ba hb (Sb.trans S11))
            . have hji : j = i := by
                have := (Zc.mp e1).1;rw [Zo, lz, ZW] at this;omega
              subst hji;rw [Zf (by omega), lz, Nat.sub_self] at e1;cases e1;rw [nn, Ze, List.getElem?_range hi4] at e2;cases e2;have e3 : szs.getD j 0 = n := by rw [Zk, hn]; rfl
              show HandAt _ _ (zd _ (u9 j) ((List.range (szs.getD j 0)).map abcN))
              rw [e3]
              refine gy (by rw [rh tm]; exact c11) (by rw [rh lm]; exact (S9.trans (s10.trans s11)) _ _ c8) (by rw [rh l1m]; exact s11 _ _ c10) (by rw [lg, Za, ZI]) fun r hr => by
                rw [rh (hgs r hr).1];exact (s10.trans s11) _ _ (hgs r hr).2
      . rintro σ H7 ⟨S7, ⟨ys, zs, hm7, rfl, lz, Hb, hb, Sb, hz⟩, v1, v2, v3, rfl⟩
        simp only [zp, zq, ↓reduceIte, Yi, Yb];refine q _ _ (S5.trans S7) (rm ((S5.trans S7) _ _ ho) hO (xs := zs) (ds := nn outs.length szs) ⟨hm7, lz, fun j x d e1 e2 => (hz j x d e1 e2).mono Sb⟩ (by show 4 <= 8; decide) (fun e he => ?_) (.inr (.inr ?_)))
        . obtain ⟨j, hj, rfl⟩ := Zp.mp he
          have hj4 := ZM.mp hj;have nb := sb (szs.getD j 0) (by rw [Zk, Zb (by omega : j < szs.length)]; exact Zl _);refine ml (fe hj4) (by rw [Za, ZI]; exact nb) (fun z hz => ?_) (gf _);obtain ⟨k, hk, rfl⟩ := Zp.mp hz;exact ux (by have := ZM.mp hk; omega)
        . match szs, sl, sp with
          | [n1, n2, n3, n4], _, sp =>
            refine Nat.lt_of_lt_of_eq sp ?_;simp [nn, zd, ZQ]
    . refine ⟨by decide, by decide, fun dd => ?_⟩
      refine wp (PvAb H) ⟨rfl, rfl⟩ ?_ ?_ ?_
      . rintro i ys H' hi ⟨rfl, rfl⟩
        rw [Za, Za, ZI];exact Zd hi (by decide)
      . rintro i ys H' hi ⟨rfl, rfl⟩
        have hi9 : i < 9 := hi;simp only [zp, zq, ↓reduceIte];refine ⟨by decide +kernel, 97 + i, zj (by have := md hi9; simpa using this), rfl, ?_⟩;rw [ZQ, Zn, Zn];rfl
      . rintro ys H' ⟨rfl, rfl⟩ l hl
        have hg : ∀ z ∈ (List.range 9).map abcN, y2 z := fun z hz => by
          obtain ⟨k, hk, rfl⟩ := Zp.mp hz;exact ux (by have := ZM.mp hk; omega)
        have s1 : Same H' (upd H' l (.lst (((List.range (Int.toNat 9)).map abcN).map V.str))) := Same.upd (Same.refl _) hl;have c1 : upd H' l (.lst (((List.range (Int.toNat 9)).map abcN).map V.str)) l = some (.lst (((List.range 9).map abcN).map V.str)) := ze;generalize upd H' l (.lst (((List.range (Int.toNat 9)).map abcN).map V.str)) = H1 at *;have A1 := (hh.hand pn x d hx ed).mono s1;have g := G.hand hmd;have gw := g.words;have gr := g.rows;have h0 : 0 < d.worths.length := by omega
        obtain ⟨r, er⟩ : ∃ r, x.gs[0]? = some r := ⟨x.gs[0]'(by rw [A1.len]; exact h0), Zb _⟩;refine ⟨⟨_, .of c1⟩, fun dd => ?_⟩;refine yq (xs := ((List.range 9).map abcN).map V.str) (PvL4 H1) ⟨Same.refl _, rfl⟩ ?_ ?_ ?_
        . rintro k zs H2 hk ⟨S2, lz⟩
          rw [Za, Za, ZI] at hk;exact ⟨by rw [lz]; exact Zd hk (by decide), .of (S2 _ _ c1)⟩
        . rintro k z zs H2 hz ⟨S2, lz⟩
          have A2 := A1.mono S2;simp only [zp, zq, ↓reduceIte];exact ⟨_, .of (S2 _ _ (s1 _ _ hh.at')), V.ref x.t, zj (by rw [Ze, hx]; rfl), x.t, rfl, _, .of A2.tup, _, zj (j := 2) rfl, x.g, rfl, _, .of A2.grid, V.ref r, zj (j := 0) (by rw [Ze, er]; rfl), r, rfl, _, .inl (.of (A2.row 0 r _ er (Zb h0))), fun l2 hl2 => ⟨S2.trans (Same.upd (Same.refl _) hl2), by rw [Zo, lz]; rfl⟩⟩
        . rintro zs H2 ⟨S2, lz⟩ l1 hl1
          have s3 : Same H2 (upd H2 l1 (.lst zs)) := Same.upd (Same.refl _) hl1;generalize upd H2 l1 (.lst zs) = H3 at *;have S3 := s1.trans (S2.trans s3);refine ⟨_, .of (S3 _ _ hh.at'), fun p hp => ?_⟩;rw [ww (by omega)];have s4 : Same H3 (upd H3 p (.lst ((xs.map fun x => V.ref x.t).take pn))) := Same.upd (Same.refl _) hp;have c4 : upd H3 p (.lst ((xs.map fun x => V.ref x.t).take pn)) p = some (.lst ((xs.map fun x => V.ref x.t).take pn)) := ze;generalize upd H3 p (.lst ((xs.map fun x => V.ref x.t).take pn)) = H4 at *;have S4 := S3.trans s4;refine ⟨_, .of (S4 _ _ hh.at'), V.ref x.t, zj (by rw [Ze, hx]; rfl), x.t, rfl, _, .of (S4 _ _ (hh.hand pn x d hx ed).tup), _, zj (j := 0) rfl, by decide, fun p2 hp2 => ⟨by decide, fun p3 hp3 => ?_⟩⟩;have s5 : Same H4 (upd H4 p2 (.tup [V.str d.name, V.ref l, V.ref l1])) := Same.upd (Same.refl _) hp2;have c5 : upd H4 p2 (.tup [V.str d.name, V.ref l, V.ref l1]) p2 = some (.tup [V.str d.name, V.ref l, V.ref l1]) := ze;generalize upd H4 p2 (.tup [V.str d.name, V.ref l, V.ref l1]) = H5 at *;have s6 : Same H5 (upd H5 p3 (.lst [V.ref p2])) := Same.upd (Same.refl _) hp3;have c6 : upd H5 p3 (.lst [V.ref p2]) p3 = some (.lst [V.ref p2]) := ze;generalize upd H5 p3 (.lst [V.ref p2]) = H6 at *;have S6 := S4.trans (s5.trans s6);have bad : ∀ {H7 : Hp}, Same H6 H7 -> HandA K H7 (.ref p2) outs.length false := fun S7 => pk ((s6.trans S7) _ _ c5) (.str _ (Zd g.name.2.1 (by decide))) (ve ((S2.trans (s3.trans (s4.trans (s5.trans (s6.trans S7))))) _ _ c1) (by rw [Za, Za, ZI]; decide) (wo hg) (.inr (.inl (by rw [Za, Za, ZI]; decide))))
          refine vb (S6 _ _ hh.at') ((s5.trans s6) _ _ c4) c6 (j := pn + 1) (by omega) (by omega) (by rw [Zj]; omega) (by omega) fun H7 p7 S7 h7 => q _ _ (S6.trans S7) (oy ((S6.trans S7) _ _ ho) hO h7 (by rw [len3 (by omega) (by omega)]; omega) (fun y hy => ?_) ⟨.ref p2, by simp, bad S7⟩)
          rcases mem3 hy with z | rfl
          . exact each (S6.trans S7) z
          . exact ⟨false, bad S7⟩
    . refine ⟨_, .of hh.at', fun p hp => ?_⟩
      rw [ww (by omega)];have s3 : Same H (upd H p (.lst ((xs.map fun x => V.ref x.t).take pn))) := Same.upd (Same.refl _) hp;have c3 : upd H p (.lst ((xs.map fun x => V.ref x.t).take pn)) p = some (.lst ((xs.map fun x => V.ref x.t).take pn)) := ze;generalize upd H p (.lst ((xs.map fun x => V.ref x.t).take pn)) = H3 at *;refine ⟨_, .of (s3 _ _ hh.at'), V.ref x.t, zj (by rw [Ze, hx]; rfl), ⟨by decide, by decide⟩, x, d, outs.length, _, rfl, (hh.hand pn x d hx ed).mono s3, G.hand hmd, hO.1, hO.2.1, fun H4 v S4 hv => ⟨by decide, fun p1 hp1 => ?_⟩⟩;have s5 : Same H4 (upd H4 p1 (.lst [v])) := Same.upd (Same.refl _) hp1;have c5 : upd H4 p1 (.lst [v]) p1 = some (.lst [v]) := ze;generalize upd H4 p1 (.lst [v]) = H5 at *;have S5 := s3.trans (S4.trans s5);refine vb (S5 _ _ hh.at') ((S4.trans s5) _ _ c3) c5 (j := pn + 1) (by omega) (by omega) (by rw [Zj]; omega) (by omega) fun H6 p6 S6 h6 => q _ _ (S5.trans S6) (oy ((S5.trans S6) _ _ ho) hO h6 (by rw [len3 (by omega) (by omega)]; omega) (fun y hy => ?_) ⟨v, by simp, hv.mono (s5.trans S6)⟩)
      rcases mem3 hy with z | rfl
      . exact each (S5.trans S6) z
      . exact ⟨false, hv.mono (s5.trans S6)⟩
end
def el (K : Fg) : Sp := fun vs H Q _ => ∃ (b : Addr) (outs : List Str) (xs : List HX) (ds : List HD), vs = [.ref b] /\ HandsL H b xs ds /\ GoodHouse outs ds /\ ∀ H' p l v, Same H H' -> H' p = some (.tup [.ref l, v]) -> NamesA K H' (.ref l) 8 false -> Q (.ref p) H'
def PvN9 (st : L2.St) (H : Hp) (p : Addr) (i : Nat) (σ : L2.St) (H' : Hp) : Prop := Same H H' /\ (∃ ys : List V, H' p = some (.lst ys) /\ ys.length = i) /\ ∃ v1 v2 v3 : Option V, σ = st ++ [v1, v2, v3]
def PvR9 (H : Hp) (i : Nat) (ys : List V) (H' : Hp) : Prop := Same H H' /\ ys.length = i
section
variable {P : Program} {w : World} {K : Fg} {mg : Str -> Option Value} {base : Heap} {a : Ad}
theorem qb (B : Bt mg) (D : zt K mg "_law_nine" yr ["hands"]) : FnAt P w K mg base "_law_nine" 1 ["hands"] (el K) := by
  refine FnAt.of D sc_law_nine (fun vs H Q E h => ?_) (fun f cdv A outer s H vs Q E hr h => ?_)
  . obtain ⟨b, outs, xs, ds, rfl, _⟩ := h
    rfl
  . obtain ⟨b, outs, xs, ds, rfl, hh, G, q⟩ := h
    have s2 : PS ((cxOf CX0 P w K mg base ["hands", "made", "name", "words", "worths"] "_law_nine" (zf yr) f cdv A outer s H E).nox) ((zi yr).getD 2 (.Pass ⟨0, 0, 0, 0⟩)) _ := (@zr _ _ _ _ (@y9 _ _ _ _ _ (za (yn ["k"] ["hands", "made", "name", "words", "worths"] rfl (x0 rfl B.range (za (@zb _ _ _ _) (@zc _))) (fun _ => (z7 (i := 0) (show (["k", "hands", "made", "name", "words", "worths"] : List Str).Nodup by decide +kernel) rfl (Or.inl rfl))) (fun _ => (@yi _)) (fun _ => (@z6 _ _ _ _ _ _ _ t9 (@yh _ _ _ _) (pv 0) (fun _ _ => rfl))) rfl (by decide +kernel) rfl rfl) (za (pv 1) (@zc _)))));have b2 : PSs (cxOf CX0 P w K mg base ["hands", "made", "name", "words", "worths"] "_law_nine" (zf yr) f cdv A outer s H E).nox ((zi yr).drop 2) _ := (@tq _ _ _ _ _ @s2 rfl rfl);have s1 : PS ((cxOf CX0 P w K mg base ["hands", "made", "name", "words", "worths"] "_law_nine" (zf yr) f cdv A outer s H E).nox) ((zi yr).getD 1 (.Pass ⟨0, 0, 0, 0⟩)) _ := (qq PassesOwn.never rfl (@yu _ _ _ _ (pv 0)) (jq rfl (vz (z7 (i := 2) sc_law_nine.nd rfl (Or.inl rfl)) (vz (z7 (i := 3) sc_law_nine.nd rfl (Or.inl rfl)) (vz (z7 (i := 4) sc_law_nine.nd rfl (Or.inl rfl)) (@mn _))))) (@zk _ _ _ (qv (l9 PySem.F.plainAttrs_list PySem.F.slot_list_append PySem.F.type_list_append sh (pv 1) (@za _ _ _ _ _ (@y9 _ _ _ _ _ (@za _ _ _ _ _ (pv 2) (@za _ _ _ _ _ (pv 3) (@za _ _ _ _ _ (yn ["row"] ["hands", "made", "name", "words", "worths"] rfl (@yu _ _ _ _ (pv 4)) (fun _ => (z7 (i := 0) (show (["row", "hands", "made", "name", "words", "worths"] : List Str).Nodup by decide +kernel) rfl (Or.inl rfl))) (fun _ => (@yi _)) (fun _ => (@zg _ _ _ _ _ _ _ _ op_rep (@yb _ _ _ _ (@za _ _ _ _ _ (@z6 _ _ _ _ _ _ _ yo (pv 0) (@zb _ _ _ _) (fun _ _ => rfl)) (@zc _) (zh nofun))) (@zb _ _ _ _))) rfl (by decide +kernel) rfl rfl) (@zc _) (zh nofun)) (zh nofun)) (zh nofun))) (@zc _) (zh nofun))))));have b1 : PSs (cxOf CX0 P w K mg base ["hands", "made", "name", "words", "worths"] "_law_nine" (zf yr) f cdv A outer s H E).nox ((zi yr).drop 1) _ := (@yd _ _ _ _ _ _ @s1 rfl @b2);have s0 : PS ((cxOf CX0 P w K mg base ["hands", "made", "name", "words", "worths"] "_law_nine" (zf yr) f cdv A outer s H E).nox) ((zi yr).getD 0 (.Pass ⟨0, 0, 0, 0⟩)) _ := (@zy _ _ 1 _ _ _ _ sc_law_nine.nd (by rfl) (by exact Or.inl rfl) (@yb _ _ _ _ (@zc _)) (by rfl) (by first | exact Or.inl rfl | exact Or.inr rfl));have b0 : PSs (cxOf CX0 P w K mg base ["hands", "made", "name", "words", "worths"] "_law_nine" (zf yr) f cdv A outer s H E).nox ((zi yr).drop 0) _ := (@yd _ _ _ _ _ _ @s0 rfl @b1);have b_ := @tu _ _ _ @b0;refine ⟨_, @b_, ?_⟩;rw [show start ["hands", "made", "name", "words", "worths"] [V.ref b] = [some (V.ref b), none, none, none, none] from rfl];clear b_ b0 b1 b2 s0 s1 s2;simp only [zp, zq, ↓reduceIte];have h4 := G.hands;have o8 := G.outs1;refine ⟨by decide, fun p hp => ?_⟩;have s1 : Same H (upd H p (.lst [])) := Same.upd (Same.refl _) hp;have c1 : upd H p (.lst []) p = some (.lst []) := ze;generalize upd H p (.lst []) = H1 at *;have hh1 := hh.mono s1;refine ⟨⟨_, .of hh1.at'⟩, ?_⟩;refine oi (xs := xs.map fun x => V.ref x.t) (PvN9 [some (V.ref b), some (V.ref p)] H p) ⟨s1, ⟨_, c1, rfl⟩, _, _, _, rfl⟩ ?_ ?_ ?_
    . rintro i σ H2 hi ⟨S2, _, v1, v2, v3, rfl⟩
      exact .of (S2 _ _ hh.at')
    . rintro i y σ H2 hy ⟨S2, ⟨ys, hys, ly⟩, v1, v2, v3, rfl⟩
      obtain ⟨x, hx, rfl⟩ := xv hy;have hi : i < ds.length := by have := (Zc.mp hx).1; have := hh.len; omega
      have A2 := (hh.hand i x ds[i] hx (Zb hi)).mono S2;have g := G.hand (Zl hi);generalize ds[i] = d at A2 g;simp only [zp, zq, ↓reduceIte, Yi, Yb];refine ⟨_, .of A2.tup, rfl, _, _, rfl, _, _, rfl, _, _, rfl, rfl, .inl ⟨rfl, _, .of hys⟩, x.g, rfl, ⟨_, .of A2.grid⟩, fun dd => ?_⟩;have gw := g.words;have gr := g.rows;refine yq (xs := x.gs.map V.ref) (PvR9 H2) ⟨Same.refl _, rfl⟩ ?_ ?_ ?_
      . rintro k zs H3 hk ⟨S3, lz⟩
        rw [Za, A2.len] at hk;exact ⟨by rw [lz]; exact Zd (show k <= 8 by omega) (by decide), .of (S3 _ _ A2.grid)⟩
      . rintro k z zs H3 hz ⟨S3, lz⟩
        obtain ⟨r, hr', rfl⟩ := someR hz;have hk : k < d.worths.length := by have := (Zc.mp hr').1; have := A2.len; omega
        have hrow := S3 _ _ (A2.row k r _ hr' (Zb hk));have hc := (g.cols _ (Zl hk)).1;generalize d.worths[k] = ns at hrow hc;have h0 : 0 < ns.length := by omega
        simp only [zp, zq, ↓reduceIte]
        refine ⟨_, .of hrow, V.int ns[0], zj (j := 0) (by rw [Ze, Zb h0]; rfl), by decide, fun p3 hp3 => ⟨_, ze, by decide, by decide, (show 1 * 9 <= sizeLine by decide), fun p4 hp4 => ⟨S3.trans (Same.upd (Same.upd (Same.refl _) hp3) (by
          by_cases e : p4 = p3
          . rw [e]; exact hp3
          . rw [z0 e] at hp4; exact hp4)), by rw [Zo, lz]; rfl⟩⟩⟩
      . rintro zs H3 ⟨S3, lz⟩ l hl
        refine ⟨by decide, fun p2 hp2 => ?_⟩;have s4 : Same H3 (upd H3 l (.lst zs)) := Same.upd (Same.refl _) hl;generalize upd H3 l (.lst zs) = H4 at *;have s5 : Same H4 (upd H4 p2 (.tup [V.str d.name, V.ref x.w, V.ref l])) := Same.upd (Same.refl _) hp2;generalize upd H4 p2 (.tup [V.str d.name, V.ref x.w, V.ref l]) = H5 at *;have S25 := S3.trans (s4.trans s5);refine ⟨_, S25 _ _ hys, by rw [ly]; exact Zh (show i < 5 by omega) (by decide), Same.upd (S2.trans S25) hp, ⟨_, ze, by rw [Zo, ly]; rfl⟩, _, _, _, rfl⟩
    . rintro σ H2 ⟨S2, ⟨ys, hys, ly⟩, v1, v2, v3, rfl⟩
      simp only [zp, zq, ↓reduceIte, Yi, Yb];refine ⟨by decide, by decide, fun dd => ?_⟩;refine wp (PvAb H2) ⟨rfl, rfl⟩ ?_ ?_ ?_
      . rintro i ys H' hi ⟨rfl, rfl⟩
        rw [Za, Za, ZI];exact Zd hi (by decide)
      . rintro i ys H' hi ⟨rfl, rfl⟩
        have hi9 : i < 9 := hi;simp only [zp, zq, ↓reduceIte];refine ⟨by decide +kernel, 97 + i, zj (by have := md hi9; simpa using this), rfl, ?_⟩;rw [ZQ, Zn, Zn];rfl
      . rintro ys H' ⟨rfl, rfl⟩ l hl
        have hg : ∀ z ∈ (List.range 9).map abcN, y2 z := fun z hz => by
          obtain ⟨k, hk, rfl⟩ := Zp.mp hz;exact ux (by have := ZM.mp hk; omega)
        have s3 : Same H' (upd H' l (.lst (((List.range (Int.toNat 9)).map abcN).map V.str))) := Same.upd (Same.refl _) hl;have c3 : upd H' l (.lst (((List.range (Int.toNat 9)).map abcN).map V.str)) l = some (.lst (((List.range 9).map abcN).map V.str)) := ze;generalize upd H' l (.lst (((List.range (Int.toNat 9)).map abcN).map V.str)) = H3 at *;refine ⟨by decide, fun p1 hp1 => ?_⟩;have s4 : Same H3 (upd H3 p1 (.tup [V.ref l, V.ref p])) := Same.upd (Same.refl _) hp1;exact q _ p1 l _ (S2.trans (s3.trans s4)) ze (ve (s4 _ _ c3) (by rw [Za, Za, ZI]; decide) (wo hg) (.inr (.inl (by rw [Za, Za, ZI]; decide))))
end
def fc (K : Fg) : Sp := fun vs H Q _ => ∃ (a : Addr) (ns : List Int), vs = [.ref a] /\ SqL K H a (ns.map V.int) /\ ns.length <= 63 /\ ∀ H', Q (.bl true) H'
theorem ev {K : Fg} {f : Addr} {fd : FuncData} (F : Fun K "law" "law" sf f fd) (s : Shared) (u : Value) : BindsTo s fd ⟨[u], []⟩ [("script", u)] := by
  obtain ⟨oc, od, kV, doc, pm, an, cdv, ct, osl, rfl, lk, hcd⟩ := F.ex;exact .of_eq rfl
def tops32 : List Int := [8, 8, 6, 4]
theorem mv : Tops tops32 := ⟨rfl, by decide⟩
theorem gq : FewT tops32 := by unfold FewT; decide
def J33 (a : Ad) (H4 : Hp) (σ0 : L2.St) (g : Bool) (σ : L2.St) (c : Value) (H' : Hp) : Prop := Same H4 H' /\ σ = σ0 /\ c = .ref a.NoHouse /\ g = false
section
variable {P : Program} {w : World} {K : Fg} {mg : Str -> Option Value} {base : Heap} {a : Ad}
theorem law_fn (B : Bt mg) (C : Ct K mg a) (y7 : FnAt P w K mg base "_law_cell_at" 1 ["script", "k"] (rz K)) (ss : FnAt P w K mg base "_law_parts" 3 ["script", "tops"] (i8 K)) (ot : FnAtX P w K mg base "house_of" 7 ["outcomes", "hands"] (mz a K)) (we : FnAt P w K mg base "_law_no_names" 1 ["names", "cell", "top"] (qu K)) (ul : FnAt P w K mg base "_law_no_hands" 3 ["hands", "outcomes", "cell"] (mx K)) (qb : FnAt P w K mg base "_law_nine" 1 ["hands"] (el K)) {f : Addr} {fd : FuncData} (F : Fun K "law" "law" sf f fd) : FnOk P w K mg base CX0 8 f fd ["script"] (fc K) := by
  refine F.ok sc_law (fun vs H Q E h => ?_) (fun cdv A outer s H vs Q E hr h => ?_)
  . obtain ⟨b, ns, rfl, _⟩ := h
    rfl
  . obtain ⟨a', ns, rfl, hS, hlen, q⟩ := h
    have rest : ∃ tr, PSs (cxOf CX0 P w K mg base ["script", "outcomes", "hands", "cell", "good", "found", "kinds", "e"] "law" (zf sf) f cdv A outer s H E).nox ((zi sf).drop 4) tr /\
        ∀ (H1 : Hp) (x y : V) (c : Int) (g : Bool), (g = false -> uz K H1 x y false) -> (g = true -> ∃ (o b : Addr) (outs : List Str) (xs : List HX) (ds : List HD), x = .ref o /\ y = .ref b /\ H1 o = some (.lst (outs.map V.str)) /\ HandsL H1 b xs ds /\ GoodHouse outs ds) ->
          tr { nx := fun _ H' => Q .non H', rt := Q } [some (.ref a'), some x, some y, some (.int c), some (.bl g), none, none, none] H1 := by
      refine ⟨_, (zu (zy (i := 5) sc_law.nd rfl (Or.inl rfl) (@vk _ _ _))
      (zu (zy (i := 6) sc_law.nd rfl (Or.inl rfl) (@vk _ _ _))
      (zu (dm (i := 7) C.q_TrueError.toErr rfl C.m_TrueError sc_law.nd rfl rfl (fun J pn => (@zk _ _ _ (zy (i := 5) sc_law.nd rfl (Or.inl rfl) (cn ot (hr.mono (by decide)) dn rfl (za (pv 1) (za (pv 2) (@zc _))))))) (fun e => (@zk _ _ _ (zy (i := 6) sc_law.nd rfl (Or.inl rfl) (@yb _ _ _ _ (za (zo ki rfl B.isinstance z8 (za (pv 7) (za (wx (v := .ref a.NoHouse) rfl C.m_NoHouse rfl) (@zc _)))) (za (zo kr rfl B.isinstance z8 (za (pv 7) (za (xx rfl B.ValueError lq) (@zc _)))) (za (zo qe rfl B.isinstance z8 (@za _ _ _ _ _ (pv 7) (@za _ _ _ _ _ (@y9 _ _ _ _ _ (@za _ _ _ _ _ (wx (v := .ref a.NoMenu) rfl C.m_NoMenu rfl) (@za _ _ _ _ _ (wx (v := .ref a.NoPays) rfl C.m_NoPays rfl) (@za _ _ _ _ _ (wx (v := .ref a.NoRow) rfl C.m_NoRow rfl) (@za _ _ _ _ _ (wx (v := .ref a.NoRule) rfl C.m_NoRule rfl) (@zc _) (zh nofun)) (zh nofun)) (zh nofun)) (zh nofun))) (@zc _) (zh nofun)) (zh nofun))) (za (zo qe rfl B.isinstance z8 (@za _ _ _ _ _ (pv 7) (@za _ _ _ _ _ (@y9 _ _ _ _ _ (@za _ _ _ _ _ (wx (v := .ref a.NoShare) rfl C.m_NoShare rfl) (@za _ _ _ _ _ (wx (v := .ref a.NoStand) rfl C.m_NoStand rfl) (@za _ _ _ _ _ (wx (v := .ref a.NoWeight) rfl C.m_NoWeight rfl) (@za _ _ _ _ _ (wx (v := .ref a.NoWord) rfl C.m_NoWord rfl) (@zc _) (zh nofun)) (zh nofun)) (zh nofun)) (zh nofun))) (@zc _) (zh nofun)) (zh nofun))) (@zc _))))))))))
      (zu (@yf _ _ _ _ _ _ _ _ (xc (pv 4)) (@zk _ _ _ (@zr _ _ _ _ (@wb _ _ _ _ _ _ _ (@wy _ _ _ _ _ _ _ _ op_isN (pv 6) (@vk _ _ _) (ya _)) (@wb _ _ _ _ _ _ _ (zo yk rfl B.isinstance z8 (za (pv 5) (za (xx rfl B.tuple xb) (@zc _)))) (@vd _ _ _ _ _ (@wy _ _ _ _ _ _ _ _ (op_eqD (n := 8) (hu8 hr)) (@z6 _ _ _ _ _ _ _ yx (pv 5) (@zb _ _ _ _) (fun _ _ => rfl)) (y4 xj rfl B.tuple xb (za (pv 1) (@zc _))) (ya _))))))) (@z5 _))
      (zk (@zr _ _ _ _ (@wy _ _ _ _ _ _ _ _ (op_eqF (Nat.lt_of_succ_lt (hu_of hr))) (pv 6) (@yb _ _ _ _ (za (@xm _ _ _ _) (za (@xm _ _ _ _) (za (@xm _ _ _ _) (za (@xm _ _ _ _) (@zc _)))))) (ya _)))))))), fun H1 x y c g hb hg => ?_⟩
      simp only [zp, zq, ↓reduceIte];refine ⟨J33 a H1 [some (.ref a'), some x, some y, some (.int c), some (.bl g), some .non, some .non, none] g, fun pn => ?_, fun σ1 cc H2 hJ => ?_⟩
      . cases g with
        | false => exact ⟨x, y, rfl, .inl ⟨hb rfl, fun H2 S2 => ⟨S2, rfl, rfl, rfl⟩⟩⟩
        | true =>
          obtain ⟨o, b, outs, xs, ds, rfl, rfl, ho, hh, G⟩ := hg rfl;refine ⟨_, _, rfl, .inr ⟨o, b, outs, xs, ds, rfl, ho, hh, G, fun H2 p us S2 hp t => ?_⟩⟩;have t' := t;rw [fh, TrAt] at t';obtain ⟨p', ys, e, sq, trs⟩ := t';cases e;rw [TrsAt] at trs;obtain ⟨y0, ys0, rfl, ty0, _⟩ := trs;have dO : deep (.tp (outs.map strT)) <= 8 := by rw [deep, mw]; omega
          have pO : vm (.tp (outs.map strT)) = true := by rw [vm]; exact gt _
          refine ite2 (fun _ => ite2 (fun _ => ⟨_, .tup hp, true, qw, iteT ⟨p, rfl, _, sq, y0, zj (j := 0) rfl, o, rfl, _, .of (S2 _ _ ho), fun l hl => ⟨.tp (outs.map strT), .tp (outs.map strT), trivial, TrAt.mono (Same.upd (Same.refl _) hl) ty0, TrAt.tp (.of ze) (ri _), dO, dO, ?_⟩⟩⟩) fun z => absurd (by simp) z) fun z => absurd rfl z
          rw [fm pO];exact q _
      . obtain ⟨S2, rfl, rfl, rfl⟩ := hJ
        refine ⟨_, rfl, C.q_NoHouse.toErr, C.s_NoHouse_TrueError, fun e ea hea => ?_⟩;refine ⟨_, rfl, ea, rfl, a.NoHouse, ze, C.q_NoHouse, true, C.k_NoHouse_NoHouse, _, rfl, ea, rfl, a.NoHouse, ze, C.q_NoHouse, true, C.v_NoHouse, _, rfl, by decide, fun p hp => ⟨ea, rfl, a.NoHouse, ?_⟩⟩;have s3 : Same (upd H2 ea (ExcO ea a.NoHouse)) (upd (upd H2 ea (ExcO ea a.NoHouse)) p (.tup [V.ref a.NoMenu, V.ref a.NoPays, V.ref a.NoRow, V.ref a.NoRule])) := Same.upd (Same.refl _) hp;have c3 : upd (upd H2 ea (ExcO ea a.NoHouse)) p (.tup [V.ref a.NoMenu, V.ref a.NoPays, V.ref a.NoRow, V.ref a.NoRule]) p = some (.tup [V.ref a.NoMenu, V.ref a.NoPays, V.ref a.NoRow, V.ref a.NoRule]) := ze;have x3 := s3 _ _ (ze (H := H2) (a := ea) (o := ExcO ea a.NoHouse));generalize upd (upd H2 ea (ExcO ea a.NoHouse)) p (.tup [V.ref a.NoMenu, V.ref a.NoPays, V.ref a.NoRow, V.ref a.NoRule]) = H3 at *;refine ⟨x3, C.q_NoHouse, [a.NoMenu, a.NoPays, a.NoRow, a.NoRule], .of c3, false, su ⟨C.k_NoHouse_NoMenu, C.k_NoHouse_NoPays, C.k_NoHouse_NoRow, C.k_NoHouse_NoRule, trivial⟩, ?_⟩;refine ⟨_, rfl, by decide, fun p4 hp4 => ⟨ea, rfl, a.NoHouse, ?_⟩⟩;have s4 : Same H3 (upd H3 p4 (.tup [V.ref a.NoShare, V.ref a.NoStand, V.ref a.NoWeight, V.ref a.NoWord])) := Same.upd (Same.refl _) hp4;have c4 : upd H3 p4 (.tup [V.ref a.NoShare, V.ref a.NoStand, V.ref a.NoWeight, V.ref a.NoWord]) p4 = some (.tup [V.ref a.NoShare, V.ref a.NoStand, V.ref a.NoWeight, V.ref a.NoWord]) := ze;have x4 := s4 _ _ x3;generalize upd H3 p4 (.tup [V.ref a.NoShare, V.ref a.NoStand, V.ref a.NoWeight, V.ref a.NoWord]) = H4 at *;refine ⟨x4, C.q_NoHouse, [a.NoShare, a.NoStand, a.NoWeight, a.NoWord], .of c4, false, su ⟨C.k_NoHouse_NoShare, C.k_NoHouse_NoStand, C.k_NoHouse_NoWeight, C.k_NoHouse_NoWord, trivial⟩, by decide, fun p5 hp5 => ?_⟩;have c5 : upd H4 p5 (.lst [V.bl true, V.bl true, V.bl false, V.bl false]) p5 = some (.lst [V.bl true, V.bl true, V.bl false, V.bl false]) := ze;generalize upd H4 p5 (.lst [V.bl true, V.bl true, V.bl false, V.bl false]) = H5 at *;simp only [o5, zp, zq, ↓reduceIte];refine ite2 (fun z => absurd z (by simp)) fun _ => ⟨by decide, fun p6 hp6 => ⟨_, .of ((Same.upd (Same.refl _) hp6) _ _ c5), _, .of ze, rfl, rfl, q _⟩⟩
    obtain ⟨tr, hrest, hR⟩ := rest
    refine ⟨_, (zu (ft (zw ss (hr.mono (by decide)) rfl (@za _ _ _ _ _ (pv 0) (@za _ _ _ _ _ (@yb _ _ _ _ (@za _ _ _ _ _ (@zb _ _ _ _) (@za _ _ _ _ _ (@zb _ _ _ _) (@za _ _ _ _ _ (@zb _ _ _ _) (@za _ _ _ _ _ (@zb _ _ _ _) (@zc _) (zh nofun)) (zh nofun)) (zh nofun)) (zh nofun))) (@zc _) (zh nofun)) (zh nofun))) (jq rfl (vz (z7 (i := 1) sc_law.nd rfl (Or.inl rfl)) (vz (z7 (i := 2) sc_law.nd rfl (Or.inl rfl)) (@mn _)))))
      (zu (zy (i := 3) sc_law.nd rfl (Or.inl rfl) (@zg _ _ _ _ _ _ _ _ z4 (zw y7 (hr.mono (by decide)) rfl (za (pv 0) (za (@zb _ _ _ _) (@zc _)))) (@zg _ _ _ _ _ _ _ _ vc (@zb _ _ _ _) (@zb _ _ _ _))))
      (zu (zy (i := 4) sc_law.nd rfl (Or.inl rfl) (@wy _ _ _ _ _ _ _ _ y3 (@zg _ _ _ _ _ _ _ _ z4 (pv 3) (@zb _ _ _ _)) (@zb _ _ _ _) (ya _)))
      (zu (@yf _ _ _ _ _ _ _ _ (@ye _ _ _ _ _ _ _ _ y3 (@zg _ _ _ _ _ _ _ _ z4 (pv 3) (@zb _ _ _ _)) (@zb _ _ _ _) (ya _)) (@zk _ _ _ (zy (i := 1) sc_law.nd rfl (Or.inl rfl) (zw we (hr.mono (by decide)) rfl (za (pv 1) (za (@zg _ _ _ _ _ _ _ _ yc (pv 3) (@zb _ _ _ _)) (za (@zb _ _ _ _) (@zc _))))))) (@zk _ _ _ (@yf _ _ _ _ _ _ _ _ (@ye _ _ _ _ _ _ _ _ y3 (@zg _ _ _ _ _ _ _ _ z4 (pv 3) (@zb _ _ _ _)) (@zb _ _ _ _) (ya _)) (@zk _ _ _ (ft (zw qb (hr.mono (by decide)) rfl (za (pv 2) (@zc _))) (jq rfl (vz (z7 (i := 1) sc_law.nd rfl (Or.inl rfl)) (vz (z7 (i := 2) sc_law.nd rfl (Or.inl rfl)) (@mn _)))))) (@zk _ _ _ (@yf _ _ _ _ _ _ _ _ (@y6 _ _ _ _ (xc (pv 4))) (@zk _ _ _ (zy (i := 2) sc_law.nd rfl (Or.inl rfl) (zw ul (hr.mono (by decide)) rfl (za (pv 2) (za (pv 1) (za (@zg _ _ _ _ _ _ _ _ yc (pv 3) (@zb _ _ _ _)) (@zc _))))))) (@z5 _))))))
      hrest)))), ?_⟩
    rw [show start ["script", "outcomes", "hands", "cell", "good", "found", "kinds", "e"] [V.ref a'] = [some (V.ref a'), none, none, none, none, none, none, none] from rfl];simp only [zp, zq, ↓reduceIte];refine ⟨by decide, fun tp htp => ?_⟩;have S0 : Same H (upd H tp (.lst [V.int 8, V.int 8, V.int 6, V.int 4])) := Same.upd (Same.refl _) htp;have hTp : upd H tp (.lst [V.int 8, V.int 8, V.int 6, V.int 4]) tp = some (.lst (tops32.map V.int)) := ze;generalize upd H tp (.lst [V.int 8, V.int 8, V.int 6, V.int 4]) = H0 at *;refine ⟨a', tp, ns, tops32, rfl, S0.seq hS, .of hTp, mv, fun H1 H2 H3 o b p xs S1 ho ho1 N hp e3 => ?_⟩;subst e3;have S3 : Same H2 (upd H2 p (.tup [V.ref o, V.ref b])) := Same.upd (Same.refl _) hp;have hp3 : upd H2 p (.tup [V.ref o, V.ref b]) p = some (.tup [V.ref o, V.ref b]) := ze;generalize upd H2 p (.tup [V.ref o, V.ref b]) = H3 at *;have G := goodA ns mv gq;have oF : H3 o = some (.lst ((uv ns).map V.str)) := (N.same.trans S3) _ _ ho1;have bF : HandsL H3 b xs (wc ns tops32 (wg ns)) := N.lists.mono S3;have S03 : Same H H3 := S0.trans (S1.trans (N.same.trans S3));generalize wc ns tops32 (wg ns) = ds at *;generalize uv ns = outs at *;refine ⟨p, rfl, _, .of hp3, rfl, _, _, rfl, _, _, rfl, rfl, a', ns, 4, rfl, S03.seq hS, ⟨by decide, by decide, by decide⟩, _, rfl, by decide, by decide, rfl, by decide, rfl, ?_⟩;generalize zx ns 4 % 10 ^ Int.toNat 62 = c;refine ite2 (fun h1 => ⟨⟨by decide, by decide⟩, o, outs, _, rfl, oF, G.outs1.1, G.outs1.2, G.outsG, fun H4 v S4 hN => hR _ _ _ _ _ (fun _ => .inl ⟨rfl, hN⟩) fun z => ?_⟩) fun h1 => ⟨by decide, rfl, ite2 (fun h2 => ⟨b, outs, xs, ds, rfl, bF, G, fun H4 p4 l v S4 hp4 hN => ⟨p4, rfl, _, .of hp4, rfl, _, _, rfl, _, _, rfl, rfl, hR _ _ _ _ _ (fun _ => .inl ⟨rfl, hN⟩) fun z => ?_⟩⟩) fun h2 => ite2 (fun h3 => ⟨⟨by decide, by decide⟩, b, o, outs, xs, ds, _, rfl, oF, bF, G, fun H4 v S4 hM => hR _ _ _ _ _ (fun _ => hM) fun z => ?_⟩) fun h3 => hR _ _ _ _ _ (fun z => ?_) fun _ => ⟨o, b, outs, xs, ds, rfl, rfl, oF, bF, G⟩⟩
    . have z1 := of_decide_eq_true z
      have z2 := of_decide_eq_true h1;omega
    . have z1 := of_decide_eq_true z
      have z2 := of_decide_eq_true h2;omega
    . rw [z] at h3
      cases h3
    . rw [z] at h3
      exact absurd rfl h3
theorem law_ok (B : Bt mg) (C : Ct K mg a) (d_is_whole : zt K mg "is_whole" uc ["thing"]) (d_is_bounded : zt K mg "is_bounded" va ["thing"]) (d_is_grid_row : zt K mg "is_grid_row" wu ["thing", "width"]) (d_is_name : zt K mg "is_name" u3 ["thing"]) (d_are_names : zt K mg "are_names" vp ["thing", "most"]) (d_are_worths : zt K mg "are_worths" w6 ["thing", "height", "width"]) (d_is_hand : zt K mg "is_hand" u0 ["thing", "width"]) (d_name_of : zt K mg "name_of" sr ["hand"]) (d_names_of : zt K mg "names_of" uh ["hands"]) (d_words_of_hand : zt K mg "words_of_hand" wz ["hand"]) (d_worths_of_hand : zt K mg "worths_of_hand" wn ["hand"]) (d_count_of_rows : zt K mg "count_of_rows" w4 ["hands"]) (d_makes_house : zt K mg "makes_house" wt ["outcomes", "hands"]) (d_kept_hand : zt K mg "kept_hand" ut ["hand"]) (d_house_of : zt K mg "house_of" ua ["outcomes", "hands"]) (d_law_cell_at : zt K mg "_law_cell_at" vt ["script", "k"]) (d_law_pool : zt K mg "_law_pool" z9 ["cell", "many"]) (d_law_drawn : zt K mg "_law_drawn" up ["script", "k"]) (d_law_worth : zt K mg "_law_worth" uq ["cell"]) (d_law_parts : zt K mg "_law_parts" ur ["script", "tops"]) (d_law_no_names : zt K mg "_law_no_names" zm ["names", "cell", "top"]) (d_law_no_worths : zt K mg "_law_no_worths" zl ["worths", "cell"]) (d_law_no_hand : zt K mg "_law_no_hand" zv ["hand", "cell"]) (d_law_no_hands : zt K mg "_law_no_hands" zn ["hands", "outcomes", "cell"]) (d_law_nine : zt K mg "_law_nine" yr ["hands"]) (base : Heap) {f : Addr} {fd : FuncData} (F : Fun K "law" "law" sf f fd) : FnOk P w K mg base CX0 8 f fd ["script"] (fc K) := by
  have c1 := y7 (P := P) (w := w) (base := base) B d_law_cell_at;have c2 := ud (P := P) (w := w) (base := base) B d_law_pool;have c3 := sy (P := P) (w := w) (base := base) d_law_worth;have c4 := ra B c1 d_law_drawn;have n1 := fr (P := P) (w := w) (base := base) B d_is_name;have n2 := jy B n1 d_are_names;have n3 := lp B (kd B (g6 (P := P) (w := w) (base := base) B d_is_whole) d_is_bounded) d_is_grid_row;have n5 := dh B n1 n2 (kz B n3 d_are_worths) d_is_hand;have n6 := w9 (P := P) (w := w) (base := base) d_name_of;have n7 := wa (P := P) (w := w) (base := base) d_words_of_hand;have n8 := v0 (P := P) (w := w) (base := base) d_worths_of_hand;have n9 := lu B n2 n5 (g7 n6 d_names_of) (x9 B n7 d_count_of_rows) d_makes_house;have n10 := gd B C n9 (vg B n6 n7 n8 d_kept_hand) d_house_of;have l1 := we (P := P) (w := w) (base := base) B d_law_no_names;have l3 := u4 B l1 (ug (P := P) (w := w) (base := base) B d_law_no_worths) d_law_no_hand;exact law_fn B C c1 (ss B c1 c2 c3 c4 d_law_parts) n10 l1 (ul B l3 d_law_no_hands) (qb B d_law_nine) F
end
end Mine
namespace Tp
open PySem PySem.W PySem.Calls PyProof.Rows
noncomputable section
abbrev pr : Program := PySem.Challenge.pw_trueword_k33_no_house
def en (P : Params) (x : Str) (t : Nat) (v : Value) : DictEntry := ⟨PyData.keyHash P x, .str x t, v⟩
abbrev fn (i : Nat) (name qual : Str) (dV kV doc pm : Value) (an : Option Addr) (cdv ct : Value) : FuncData := fnOf name qual (L2.v6 (Mine.top i)) (L2.zi (Mine.top i)) (L2.zf (Mine.top i)) dV kV doc pm an cdv ct
abbrev fx (i : Nat) (name qual : Str) (g : Addr) (dV kV doc pm : Value) (an : Option Addr) (cdv ct : Value) (b : Addr) : FuncData := ⟨name, qual, L2.v6 (Mine.top i), .stmts (L2.zi (Mine.top i)), L2.zf (Mine.top i), g, [], dV, kV, doc, pm, an, cdv, ct, b⟩
def oE : Obj := ⟨.type "tuple", none, .seq #[] 0, #[]⟩
def oF : Obj := ⟨.none, none, .fields #[], #[]⟩
def tl : Nat -> List Str -> List Value
  | _, [] => []
  | t, x :: r => .str x t :: tl (t + 1) r
def ts (t : Nat) (xs : List Str) : Obj := ⟨.type "tuple", none, .seq (tl t xs).toArray 0, #[]⟩
def fo (i : Nat) (n m : Str) (t c : Nat) : Obj := ⟨.type "function", none, .func (fn i n n .none .none .none (.str m t) none (.ref c) .none), #[]⟩
def xo (i : Nat) (n : Str) : Obj := ⟨.none, none, .func (fx i n n 0 .none .none .none .none none .none .none 0), #[]⟩
def co (n : Str) (t l c f a : Nat) (b : Bool) (e : Nat) (v1 v2 v3 v4 : Value) (k : Nat) : Obj := ⟨.type "code", none, .fields #[.str n t, .str n (t + 1), .str "/claim/cut.py" (t + 2), .int l 0, .int c 0, .int 0 0, .int 0 0, .int f 0, .ref a, .bool b, .int 181 0, .ref e, v1, v2, v3, v4, .int k 0, .int l 0, .str "/claim/cut.py" (k + 1)], #[]⟩
def ia (t : BT) : Nat -> List Obj -> BT
  | _, [] => t
  | n, o :: r => ia (t.ins n o) (n + 1) r
def lf (P : Params) : Life := (boot_heap P).life
def env : Env := { scope := pr.main.scope, locals := mainNs, globals := mainNs, cells := [], code := (.ref 13), frame := some 14 }
def cd : Code := .body (behindTheImports pr) env
def qp : Pos := ⟨0, 0, 0, 0⟩
def o13 : Obj := (co "<module>" 182 1 0 0 11 false 12 .none .none .none .none 185)
def ha (P : Params) : Heap := ⟨⟨[boot_o_0 P, boot_o_1 P, boot_o_2 P, boot_o_3 P, boot_o_4 P, boot_o_5 P, boot_o_6 P, boot_o_7 P, boot_o_8 P, boot_o_9 P, boot_o_10 P, oE, oF, o13, ⟨(.type "frame"), none, .plain, #[(some (.ref 13)), (some (.ref 3)), (some (.ref 3)), none, (some (.str "__main__" 164)), none, (some (.ref 0))]⟩]⟩, lf P⟩
def t0 (P : Params) : BT := (.node (boot_o_0 P) (.node (boot_o_1 P) (.node (boot_o_3 P) (.node (boot_o_7 P) .nil .nil) (.node (oE) .nil .nil)) (.node (boot_o_5 P) (.node (boot_o_9 P) .nil .nil) (.node (o13) .nil .nil))) (.node (boot_o_2 P) (.node (boot_o_4 P) (.node (boot_o_8 P) .nil .nil) (.node (oF) .nil .nil)) (.node (boot_o_6 P) (.node (boot_o_10 P) .nil .nil) (.node (⟨(.type "frame"), none, .plain, #[(some (.ref 13)), (some (.ref 3)), (some (.ref 3)), none, (some (.str "__main__" 164)), none, (some (.ref 0))]⟩) .nil .nil))))
def o3 (P : Params) : Obj := ⟨(.type "dict"), none, (.dict #[en P "__name__" 165 (.str "trueword.errors" 187), en P "__doc__" 166 .none, en P "__package__" 167 .none, en P "__loader__" 168 (.builtin "__main__.__loader__#opaque"), en P "__spec__" 169 .none, en P "__annotations__" 170 (.ref 6), en P "__builtins__" 171 (.ref 4), en P "__file__" 173 (.str "/claim/cut.py" 172), en P "__cached__" 174 .none, en P "TrueError" 206 (.ref 24), en P "NoPays" 222 (.ref 37), en P "NoHouse" 238 (.ref 49), en P "NoMenu" 254 (.ref 61), en P "NoWeight" 270 (.ref 73), en P "NoShare" 286 (.ref 85), en P "NoRule" 302 (.ref 97)] 16), #[]⟩
def o17 (P : Params) : Obj := ⟨(.type "dict"), none, (.dict #[en P "__module__" 196 (.str "trueword.errors" 187), en P "__qualname__" 198 (.str "TrueError" 197), en P "__firstlineno__" 200 (.int (2) 199), en P "__static_attributes__" 201 (.ref 22)] 4), #[]⟩
def o20 : Obj := (co "TrueError" 191 2 0 0 18 false 19 .none .none .none .none 194)
def o23 (P : Params) : Obj := ⟨(.type "dict"), none, (.dict #[en P "__module__" 196 (.str "trueword.errors" 187), en P "__firstlineno__" 200 (.int (2) 199), en P "__static_attributes__" 201 (.ref 22), en P "__weakref__" 203 (.ref 25), en P "__doc__" 204 .none] 3), #[]⟩
def o24 : Obj := ⟨(.type "type"), none, (.cls ⟨"TrueError", [(.type "ValueError")], [(.ref 24), (.type "ValueError"), (.type "Exception"), (.type "BaseException"), (.type "object")], 23, "TrueError", true, [], [(.ref 37), (.ref 49), (.ref 61), (.ref 73), (.ref 85), (.ref 97)], false, none, false⟩), #[(some (.ref 15)), none, (some (.str "TrueError" 189)), (some (.str "TrueError" 197)), (some (.builtin "ValueError.__new__")), (some (.bool true))]⟩
def o30 (P : Params) : Obj := ⟨(.type "dict"), none, (.dict #[en P "__module__" 214 (.str "trueword.errors" 187), en P "__qualname__" 216 (.str "NoPays" 215), en P "__firstlineno__" 218 (.int (4) 217), en P "__static_attributes__" 219 (.ref 35)] 4), #[]⟩
def o33 : Obj := (co "NoPays" 209 4 0 0 31 false 32 .none .none .none .none 212)
def o36 (P : Params) : Obj := ⟨(.type "dict"), none, (.dict #[en P "__module__" 214 (.str "trueword.errors" 187), en P "__firstlineno__" 218 (.int (4) 217), en P "__static_attributes__" 219 (.ref 35), en P "__doc__" 220 .none] 2), #[]⟩
def o37 : Obj := ⟨(.type "type"), none, (.cls ⟨"NoPays", [(.ref 24)], [(.ref 37), (.ref 24), (.type "ValueError"), (.type "Exception"), (.type "BaseException"), (.type "object")], 36, "NoPays", true, [], [], false, none, false⟩), #[(some (.ref 28)), none, (some (.str "NoPays" 207)), (some (.str "NoPays" 215)), (some (.builtin "ValueError.__new__")), (some (.bool true))]⟩
def o42 (P : Params) : Obj := ⟨(.type "dict"), none, (.dict #[en P "__module__" 230 (.str "trueword.errors" 187), en P "__qualname__" 232 (.str "NoHouse" 231), en P "__firstlineno__" 234 (.int (6) 233), en P "__static_attributes__" 235 (.ref 47)] 4), #[]⟩
def o45 : Obj := (co "NoHouse" 225 6 0 0 43 false 44 .none .none .none .none 228)
def o48 (P : Params) : Obj := ⟨(.type "dict"), none, (.dict #[en P "__module__" 230 (.str "trueword.errors" 187), en P "__firstlineno__" 234 (.int (6) 233), en P "__static_attributes__" 235 (.ref 47), en P "__doc__" 236 .none] 2), #[]⟩
def o49 : Obj := ⟨(.type "type"), none, (.cls ⟨"NoHouse", [(.ref 24)], [(.ref 49), (.ref 24), (.type "ValueError"), (.type "Exception"), (.type "BaseException"), (.type "object")], 48, "NoHouse", true, [], [], false, none, false⟩), #[(some (.ref 40)), none, (some (.str "NoHouse" 223)), (some (.str "NoHouse" 231)), (some (.builtin "ValueError.__new__")), (some (.bool true))]⟩
def o54 (P : Params) : Obj := ⟨(.type "dict"), none, (.dict #[en P "__module__" 246 (.str "trueword.errors" 187), en P "__qualname__" 248 (.str "NoMenu" 247), en P "__firstlineno__" 250 (.int (8) 249), en P "__static_attributes__" 251 (.ref 59)] 4), #[]⟩
def o57 : Obj := (co "NoMenu" 241 8 0 0 55 false 56 .none .none .none .none 244)
def o60 (P : Params) : Obj := ⟨(.type "dict"), none, (.dict #[en P "__module__" 246 (.str "trueword.errors" 187), en P "__firstlineno__" 250 (.int (8) 249), en P "__static_attributes__" 251 (.ref 59), en P "__doc__" 252 .none] 2), #[]⟩
def o61 : Obj := ⟨(.type "type"), none, (.cls ⟨"NoMenu", [(.ref 24)], [(.ref 61), (.ref 24), (.type "ValueError"), (.type "Exception"), (.type "BaseException"), (.type "object")], 60, "NoMenu", true, [], [], false, none, false⟩), #[(some (.ref 52)), none, (some (.str "NoMenu" 239)), (some (.str "NoMenu" 247)), (some (.builtin "ValueError.__new__")), (some (.bool true))]⟩
def o66 (P : Params) : Obj := ⟨(.type "dict"), none, (.dict #[en P "__module__" 262 (.str "trueword.errors" 187), en P "__qualname__" 264 (.str "NoWeight" 263), en P "__firstlineno__" 266 (.int (10) 265), en P "__static_attributes__" 267 (.ref 71)] 4), #[]⟩
def o69 : Obj := (co "NoWeight" 257 10 0 0 67 false 68 .none .none .none .none 260)
def o72 (P : Params) : Obj := ⟨(.type "dict"), none, (.dict #[en P "__module__" 262 (.str "trueword.errors" 187), en P "__firstlineno__" 266 (.int (10) 265), en P "__static_attributes__" 267 (.ref 71), en P "__doc__" 268 .none] 2), #[]⟩
def o73 : Obj := ⟨(.type "type"), none, (.cls ⟨"NoWeight", [(.ref 24)], [(.ref 73), (.ref 24), (.type "ValueError"), (.type "Exception"), (.type "BaseException"), (.type "object")], 72, "NoWeight", true, [], [], false, none, false⟩), #[(some (.ref 64)), none, (some (.str "NoWeight" 255)), (some (.str "NoWeight" 263)), (some (.builtin "ValueError.__new__")), (some (.bool true))]⟩
def o78 (P : Params) : Obj := ⟨(.type "dict"), none, (.dict #[en P "__module__" 278 (.str "trueword.errors" 187), en P "__qualname__" 280 (.str "NoShare" 279), en P "__firstlineno__" 282 (.int (12) 281), en P "__static_attributes__" 283 (.ref 83)] 4), #[]⟩
def o81 : Obj := (co "NoShare" 273 12 0 0 79 false 80 .none .none .none .none 276)
def o84 (P : Params) : Obj := ⟨(.type "dict"), none, (.dict #[en P "__module__" 278 (.str "trueword.errors" 187), en P "__firstlineno__" 282 (.int (12) 281), en P "__static_attributes__" 283 (.ref 83), en P "__doc__" 284 .none] 2), #[]⟩
def o85 : Obj := ⟨(.type "type"), none, (.cls ⟨"NoShare", [(.ref 24)], [(.ref 85), (.ref 24), (.type "ValueError"), (.type "Exception"), (.type "BaseException"), (.type "object")], 84, "NoShare", true, [], [], false, none, false⟩), #[(some (.ref 76)), none, (some (.str "NoShare" 271)), (some (.str "NoShare" 279)), (some (.builtin "ValueError.__new__")), (some (.bool true))]⟩
def o90 (P : Params) : Obj := ⟨(.type "dict"), none, (.dict #[en P "__module__" 294 (.str "trueword.errors" 187), en P "__qualname__" 296 (.str "NoRule" 295), en P "__firstlineno__" 298 (.int (14) 297), en P "__static_attributes__" 299 (.ref 95)] 4), #[]⟩
def o93 : Obj := (co "NoRule" 289 14 0 0 91 false 92 .none .none .none .none 292)
def o96 (P : Params) : Obj := ⟨(.type "dict"), none, (.dict #[en P "__module__" 294 (.str "trueword.errors" 187), en P "__firstlineno__" 298 (.int (14) 297), en P "__static_attributes__" 299 (.ref 95), en P "__doc__" 300 .none] 2), #[]⟩
def o97 : Obj := ⟨(.type "type"), none, (.cls ⟨"NoRule", [(.ref 24)], [(.ref 97), (.ref 24), (.type "ValueError"), (.type "Exception"), (.type "BaseException"), (.type "object")], 96, "NoRule", true, [], [], false, none, false⟩), #[(some (.ref 88)), none, (some (.str "NoRule" 287)), (some (.str "NoRule" 295)), (some (.builtin "ValueError.__new__")), (some (.bool true))]⟩
def t1 (P : Params) : BT := ia (((t0 P).set 3 fun _ => o3 P).set 12 fun _ => ⟨.none, none, (.fields #[(.int (2) 0), (.int (0) 0), (.ref 20), (.int (4) 0), (.int (0) 0), (.ref 33), (.int (6) 0), (.int (0) 0), (.ref 45), (.int (8) 0), (.int (0) 0), (.ref 57), (.int (10) 0), (.int (0) 0), (.ref 69), (.int (12) 0), (.int (0) 0), (.ref 81), (.int (14) 0), (.int (0) 0), (.ref 93)]), #[]⟩) 15 [⟨(.type "tuple"), none, (.seq #[(.type "ValueError")] 0), #[]⟩, ⟨(.type "builtin_function_or_method"), none, (.fields #[(.builtin "type.__prepare__"), (.type "type")]), #[]⟩, o17 P, oE, oF, o20, ⟨(.type "frame"), none, .plain, #[(some (.ref 20)), (some (.ref 3)), (some (.ref 17)), none, (some (.str "trueword.errors" 187)), none, (some (.ref 0))]⟩, oE, o23 P, o24, ⟨(.type "getset_descriptor"), none, (.fields #[(.str "__weakref__" 202), (.ref 24), (.builtin "ExceptionGroup.__weakref__"), .none]), #[]⟩, ⟨(.type "super"), none, (.fields #[(.ref 24), (.ref 24), (.ref 24)]), #[]⟩, ⟨(.type "builtin_function_or_method"), none, (.fields #[(.builtin "object.__init_subclass__"), (.ref 24)]), #[]⟩, ⟨(.type "tuple"), none, (.seq #[(.ref 24)] 0), #[]⟩, ⟨(.type "builtin_function_or_method"), none, (.fields #[(.builtin "type.__prepare__"), (.type "type")]), #[]⟩, o30 P, oE, oF, o33, ⟨(.type "frame"), none, .plain, #[(some (.ref 33)), (some (.ref 3)), (some (.ref 30)), none, (some (.str "trueword.errors" 187)), none, (some (.ref 0))]⟩, oE, o36 P, o37, ⟨(.type "super"), none, (.fields #[(.ref 37), (.ref 37), (.ref 37)]), #[]⟩, ⟨(.type "builtin_function_or_method"), none, (.fields #[(.builtin "object.__init_subclass__"), (.ref 37)]), #[]⟩, ⟨(.type "tuple"), none, (.seq #[(.ref 24)] 0), #[]⟩, ⟨(.type "builtin_function_or_method"), none, (.fields #[(.builtin "type.__prepare__"), (.type "type")]), #[]⟩, o42 P, oE, oF, o45, ⟨(.type "frame"), none, .plain, #[(some (.ref 45)), (some (.ref 3)), (some (.ref 42)), none, (some (.str "trueword.errors" 187)), none, (some (.ref 0))]⟩, oE, o48 P, o49, ⟨(.type "super"), none, (.fields #[(.ref 49), (.ref 49), (.ref 49)]), #[]⟩, ⟨(.type "builtin_function_or_method"), none, (.fields #[(.builtin "object.__init_subclass__"), (.ref 49)]), #[]⟩, ⟨(.type "tuple"), none, (.seq #[(.ref 24)] 0), #[]⟩, ⟨(.type "builtin_function_or_method"), none, (.fields #[(.builtin "type.__prepare__"), (.type "type")]), #[]⟩, o54 P, oE, oF, o57, ⟨(.type "frame"), none, .plain, #[(some (.ref 57)), (some (.ref 3)), (some (.ref 54)), none, (some (.str "trueword.errors" 187)), none, (some (.ref 0))]⟩, oE, o60 P, o61, ⟨(.type "super"), none, (.fields #[(.ref 61), (.ref 61), (.ref 61)]), #[]⟩, ⟨(.type "builtin_function_or_method"), none, (.fields #[(.builtin "object.__init_subclass__"), (.ref 61)]), #[]⟩, ⟨(.type "tuple"), none, (.seq #[(.ref 24)] 0), #[]⟩, ⟨(.type "builtin_function_or_method"), none, (.fields #[(.builtin "type.__prepare__"), (.type "type")]), #[]⟩, o66 P, oE, oF, o69, ⟨(.type "frame"), none, .plain, #[(some (.ref 69)), (some (.ref 3)), (some (.ref 66)), none, (some (.str "trueword.errors" 187)), none, (some (.ref 0))]⟩, oE, o72 P, o73, ⟨(.type "super"), none, (.fields #[(.ref 73), (.ref 73), (.ref 73)]), #[]⟩, ⟨(.type "builtin_function_or_method"), none, (.fields #[(.builtin "object.__init_subclass__"), (.ref 73)]), #[]⟩, ⟨(.type "tuple"), none, (.seq #[(.ref 24)] 0), #[]⟩, ⟨(.type "builtin_function_or_method"), none, (.fields #[(.builtin "type.__prepare__"), (.type "type")]), #[]⟩, o78 P, oE, oF, o81, ⟨(.type "frame"), none, .plain, #[(some (.ref 81)), (some (.ref 3)), (some (.ref 78)), none, (some (.str "trueword.errors" 187)), none, (some (.ref 0))]⟩, oE, o84 P, o85, ⟨(.type "super"), none, (.fields #[(.ref 85), (.ref 85), (.ref 85)]), #[]⟩, ⟨(.type "builtin_function_or_method"), none, (.fields #[(.builtin "object.__init_subclass__"), (.ref 85)]), #[]⟩, ⟨(.type "tuple"), none, (.seq #[(.ref 24)] 0), #[]⟩, ⟨(.type "builtin_function_or_method"), none, (.fields #[(.builtin "type.__prepare__"), (.type "type")]), #[]⟩, o90 P, oE, oF, o93, ⟨(.type "frame"), none, .plain, #[(some (.ref 93)), (some (.ref 3)), (some (.ref 90)), none, (some (.str "trueword.errors" 187)), none, (some (.ref 0))]⟩, oE, o96 P, o97, ⟨(.type "super"), none, (.fields #[(.ref 97), (.ref 97), (.ref 97)]), #[]⟩, ⟨(.type "builtin_function_or_method"), none, (.fields #[(.builtin "object.__init_subclass__"), (.ref 97)]), #[]⟩]
def o3_1 (P : Params) : Obj := ⟨(.type "dict"), none, (.dict #[en P "__name__" 165 (.str "law_trueword_k33_no_house" 465), en P "__doc__" 166 .none, en P "__package__" 167 .none, en P "__loader__" 168 (.builtin "__main__.__loader__#opaque"), en P "__spec__" 169 .none, en P "__annotations__" 170 (.ref 6), en P "__builtins__" 171 (.ref 4), en P "__file__" 173 (.str "/claim/cut.py" 172), en P "__cached__" 174 .none, en P "TrueError" 206 (.ref 24), en P "NoPays" 222 (.ref 37), en P "NoHouse" 238 (.ref 49), en P "NoMenu" 254 (.ref 61), en P "NoWeight" 270 (.ref 73), en P "NoShare" 286 (.ref 85), en P "NoRule" 302 (.ref 97), en P "NoRow" 318 (.ref 109), en P "NoStand" 334 (.ref 121), en P "NoWord" 350 (.ref 133), en P "MOST_WORDS" 354 (.int (8) 353), en P "is_whole" 361 (.ref 142), en P "is_bounded" 368 (.ref 149), en P "is_grid_row" 374 (.ref 154), en P "MOST_LETTERS" 378 (.int (8) 377), en P "MOST_OUTCOMES" 380 (.int (8) 379), en P "MOST_HANDS" 382 (.int (4) 381), en P "MOST_ROWS" 384 (.int (256) 383), en P "is_name" 390 (.ref 159), en P "are_names" 396 (.ref 164), en P "are_worths" 402 (.ref 169), en P "is_hand" 410 (.ref 176), en P "name_of" 417 (.ref 183), en P "names_of" 423 (.ref 188), en P "words_of_hand" 430 (.ref 195), en P "worths_of_hand" 437 (.ref 202), en P "count_of_rows" 446 (.ref 209), en P "makes_house" 452 (.ref 214), en P "kept_hand" 458 (.ref 219), en P "house_of" 464 (.ref 224), en P "_law_cell_at" 474 (.ref 231), en P "_law_pool" 480 (.ref 236), en P "_law_drawn" 491 (.ref 243), en P "_law_worth" 498 (.ref 250), en P "_law_parts" 504 (.ref 255), en P "_law_no_names" 510 (.ref 260), en P "_law_no_worths" 523 (.ref 267), en P "_law_no_hand" 532 (.ref 274), en P "_law_no_hands" 538 (.ref 279), en P "_law_nine" 544 (.ref 284), en P "law" 558 (.ref 291)] 50), #[]⟩
def o24_1 : Obj := ⟨(.type "type"), none, (.cls ⟨"TrueError", [(.type "ValueError")], [(.ref 24), (.type "ValueError"), (.type "Exception"), (.type "BaseException"), (.type "object")], 23, "TrueError", true, [], [(.ref 37), (.ref 49), (.ref 61), (.ref 73), (.ref 85), (.ref 97), (.ref 109), (.ref 121), (.ref 133)], false, none, false⟩), #[(some (.ref 15)), none, (some (.str "TrueError" 189)), (some (.str "TrueError" 197)), (some (.builtin "ValueError.__new__")), (some (.bool true))]⟩
def o102 (P : Params) : Obj := ⟨(.type "dict"), none, (.dict #[en P "__module__" 310 (.str "trueword.errors" 187), en P "__qualname__" 312 (.str "NoRow" 311), en P "__firstlineno__" 314 (.int (16) 313), en P "__static_attributes__" 315 (.ref 107)] 4), #[]⟩
def o105 : Obj := (co "NoRow" 305 16 0 0 103 false 104 .none .none .none .none 308)
def o108 (P : Params) : Obj := ⟨(.type "dict"), none, (.dict #[en P "__module__" 310 (.str "trueword.errors" 187), en P "__firstlineno__" 314 (.int (16) 313), en P "__static_attributes__" 315 (.ref 107), en P "__doc__" 316 .none] 2), #[]⟩
def o109 : Obj := ⟨(.type "type"), none, (.cls ⟨"NoRow", [(.ref 24)], [(.ref 109), (.ref 24), (.type "ValueError"), (.type "Exception"), (.type "BaseException"), (.type "object")], 108, "NoRow", true, [], [], false, none, false⟩), #[(some (.ref 100)), none, (some (.str "NoRow" 303)), (some (.str "NoRow" 311)), (some (.builtin "ValueError.__new__")), (some (.bool true))]⟩
def o114 (P : Params) : Obj := ⟨(.type "dict"), none, (.dict #[en P "__module__" 326 (.str "trueword.errors" 187), en P "__qualname__" 328 (.str "NoStand" 327), en P "__firstlineno__" 330 (.int (18) 329), en P "__static_attributes__" 331 (.ref 119)] 4), #[]⟩
def o117 : Obj := (co "NoStand" 321 18 0 0 115 false 116 .none .none .none .none 324)
def o120 (P : Params) : Obj := ⟨(.type "dict"), none, (.dict #[en P "__module__" 326 (.str "trueword.errors" 187), en P "__firstlineno__" 330 (.int (18) 329), en P "__static_attributes__" 331 (.ref 119), en P "__doc__" 332 .none] 2), #[]⟩
def o121 : Obj := ⟨(.type "type"), none, (.cls ⟨"NoStand", [(.ref 24)], [(.ref 121), (.ref 24), (.type "ValueError"), (.type "Exception"), (.type "BaseException"), (.type "object")], 120, "NoStand", true, [], [], false, none, false⟩), #[(some (.ref 112)), none, (some (.str "NoStand" 319)), (some (.str "NoStand" 327)), (some (.builtin "ValueError.__new__")), (some (.bool true))]⟩
def o126 (P : Params) : Obj := ⟨(.type "dict"), none, (.dict #[en P "__module__" 342 (.str "trueword.errors" 187), en P "__qualname__" 344 (.str "NoWord" 343), en P "__firstlineno__" 346 (.int (20) 345), en P "__static_attributes__" 347 (.ref 131)] 4), #[]⟩
def o129 : Obj := (co "NoWord" 337 20 0 0 127 false 128 .none .none .none .none 340)
def o132 (P : Params) : Obj := ⟨(.type "dict"), none, (.dict #[en P "__module__" 342 (.str "trueword.errors" 187), en P "__firstlineno__" 346 (.int (20) 345), en P "__static_attributes__" 347 (.ref 131), en P "__doc__" 348 .none] 2), #[]⟩
def o133 : Obj := ⟨(.type "type"), none, (.cls ⟨"NoWord", [(.ref 24)], [(.ref 133), (.ref 24), (.type "ValueError"), (.type "Exception"), (.type "BaseException"), (.type "object")], 132, "NoWord", true, [], [], false, none, false⟩), #[(some (.ref 124)), none, (some (.str "NoWord" 335)), (some (.str "NoWord" 343)), (some (.builtin "ValueError.__new__")), (some (.bool true))]⟩
def o141 : Obj := (co "is_whole" 355 24 1 3 136 true 137 .none (.ref 138) (.ref 139) (.ref 140) 359)
def o142 : Obj := (fo 13 "is_whole" "trueword.grids" 351 141)
def o148 : Obj := (co "is_bounded" 362 26 1 3 143 true 144 .none (.ref 145) (.ref 146) (.ref 147) 366)
def o149 : Obj := (fo 14 "is_bounded" "trueword.grids" 351 148)
def o153 : Obj := (co "is_grid_row" 369 28 2 3 150 true 151 .none .none .none (.ref 152) 372)
def o154 : Obj := (fo 15 "is_grid_row" "trueword.grids" 351 153)
def o158 : Obj := (co "is_name" 385 37 1 3 155 true 156 .none .none .none (.ref 157) 388)
def o159 : Obj := (fo 21 "is_name" "trueword.houses" 375 158)
def o163 : Obj := (co "are_names" 391 41 2 3 160 true 161 .none .none .none (.ref 162) 394)
def o164 : Obj := (fo 22 "are_names" "trueword.houses" 375 163)
def o168 : Obj := (co "are_worths" 397 45 3 3 165 true 166 .none .none .none (.ref 167) 400)
def o169 : Obj := (fo 23 "are_worths" "trueword.houses" 375 168)
def o175 : Obj := (co "is_hand" 403 49 2 3 170 true 171 .none (.ref 172) (.ref 173) (.ref 174) 408)
def o176 : Obj := (fo 24 "is_hand" "trueword.houses" 375 175)
def o182 : Obj := (co "name_of" 411 53 1 3 177 true 178 .none (.ref 179) (.ref 180) (.ref 181) 415)
def o183 : Obj := (fo 25 "name_of" "trueword.houses" 375 182)
def o187 : Obj := (co "names_of" 418 55 1 3 184 true 185 .none .none .none (.ref 186) 421)
def o188 : Obj := (fo 26 "names_of" "trueword.houses" 375 187)
def o194 : Obj := (co "words_of_hand" 424 57 1 3 189 true 190 .none (.ref 191) (.ref 192) (.ref 193) 428)
def o195 : Obj := (fo 27 "words_of_hand" "trueword.houses" 375 194)
def o201 : Obj := (co "worths_of_hand" 431 59 1 3 196 true 197 .none (.ref 198) (.ref 199) (.ref 200) 435)
def o202 : Obj := (fo 28 "worths_of_hand" "trueword.houses" 375 201)
def o208 : Obj := (co "count_of_rows" 438 61 1 3 203 true 204 .none (.ref 205) (.ref 206) (.ref 207) 444)
def o209 : Obj := (fo 29 "count_of_rows" "trueword.houses" 375 208)
def o213 : Obj := (co "makes_house" 447 66 2 3 210 true 211 .none .none .none (.ref 212) 450)
def o214 : Obj := (fo 30 "makes_house" "trueword.houses" 375 213)
def o218 : Obj := (co "kept_hand" 453 72 1 3 215 true 216 .none .none .none (.ref 217) 456)
def o219 : Obj := (fo 31 "kept_hand" "trueword.houses" 375 218)
def o223 : Obj := (co "house_of" 459 75 2 3 220 true 221 .none .none .none (.ref 222) 462)
def o224 : Obj := (fo 32 "house_of" "trueword.houses" 375 223)
def o230 : Obj := (co "_law_cell_at" 467 80 2 3 225 true 226 .none (.ref 227) (.ref 228) (.ref 229) 472)
def o231 : Obj := (fo 34 "_law_cell_at" "law_trueword_k33_no_house" 465 230)
def o235 : Obj := (co "_law_pool" 475 84 2 3 232 true 233 .none .none .none (.ref 234) 478)
def o236 : Obj := (fo 35 "_law_pool" "law_trueword_k33_no_house" 465 235)
def o242 : Obj := (co "_law_drawn" 481 97 2 3 237 true 238 .none (.ref 239) (.ref 240) (.ref 241) 489)
def o243 : Obj := (fo 36 "_law_drawn" "law_trueword_k33_no_house" 465 242)
def o249 : Obj := (co "_law_worth" 492 104 1 3 244 true 245 .none (.ref 246) (.ref 247) (.ref 248) 496)
def o250 : Obj := (fo 37 "_law_worth" "law_trueword_k33_no_house" 465 249)
def o254 : Obj := (co "_law_parts" 499 112 2 3 251 true 252 .none .none .none (.ref 253) 502)
def o255 : Obj := (fo 38 "_law_parts" "law_trueword_k33_no_house" 465 254)
def o259 : Obj := (co "_law_no_names" 505 127 3 3 256 true 257 .none .none .none (.ref 258) 508)
def o260 : Obj := (fo 39 "_law_no_names" "law_trueword_k33_no_house" 465 259)
def o266 : Obj := (co "_law_no_worths" 511 143 2 3 261 true 262 .none (.ref 263) (.ref 264) (.ref 265) 521)
def o267 : Obj := (fo 40 "_law_no_worths" "law_trueword_k33_no_house" 465 266)
def o273 : Obj := (co "_law_no_hand" 524 162 2 3 268 true 269 .none (.ref 270) (.ref 271) (.ref 272) 530)
def o274 : Obj := (fo 41 "_law_no_hand" "law_trueword_k33_no_house" 465 273)
def o278 : Obj := (co "_law_no_hands" 533 175 3 3 275 true 276 .none .none .none (.ref 277) 536)
def o279 : Obj := (fo 42 "_law_no_hands" "law_trueword_k33_no_house" 465 278)
def o283 : Obj := (co "_law_nine" 539 197 1 3 280 true 281 .none .none .none (.ref 282) 542)
def o284 : Obj := (fo 43 "_law_nine" "law_trueword_k33_no_house" 465 283)
def o290 : Obj := (co "law" 545 202 1 3 285 true 286 .none (.ref 287) (.ref 288) (.ref 289) 556)
def o291 : Obj := (fo 44 "law" "law_trueword_k33_no_house" 465 290)
def t2 (P : Params) : BT := ia ((((t1 P).set 3 fun _ => o3_1 P).set 12 fun _ => ⟨.none, none, (.fields #[(.int (2) 0), (.int (0) 0), (.ref 20), (.int (4) 0), (.int (0) 0), (.ref 33), (.int (6) 0), (.int (0) 0), (.ref 45), (.int (8) 0), (.int (0) 0), (.ref 57), (.int (10) 0), (.int (0) 0), (.ref 69), (.int (12) 0), (.int (0) 0), (.ref 81), (.int (14) 0), (.int (0) 0), (.ref 93), (.int (16) 0), (.int (0) 0), (.ref 105), (.int (18) 0), (.int (0) 0), (.ref 117), (.int (20) 0), (.int (0) 0), (.ref 129), (.int (24) 0), (.int (0) 0), (.ref 141), (.int (26) 0), (.int (0) 0), (.ref 148), (.int (28) 0), (.int (0) 0), (.ref 153), (.int (37) 0), (.int (0) 0), (.ref 158), (.int (41) 0), (.int (0) 0), (.ref 163), (.int (45) 0), (.int (0) 0), (.ref 168), (.int (49) 0), (.int (0) 0), (.ref 175), (.int (53) 0), (.int (0) 0), (.ref 182), (.int (55) 0), (.int (0) 0), (.ref 187), (.int (57) 0), (.int (0) 0), (.ref 194), (.int (59) 0), (.int (0) 0), (.ref 201), (.int (61) 0), (.int (0) 0), (.ref 208), (.int (66) 0), (.int (0) 0), (.ref 213), (.int (72) 0), (.int (0) 0), (.ref 218), (.int (75) 0), (.int (0) 0), (.ref 223), (.int (80) 0), (.int (0) 0), (.ref 230), (.int (84) 0), (.int (0) 0), (.ref 235), (.int (97) 0), (.int (0) 0), (.ref 242), (.int (104) 0), (.int (0) 0), (.ref 249), (.int (112) 0), (.int (0) 0), (.ref 254), (.int (127) 0), (.int (0) 0), (.ref 259), (.int (143) 0), (.int (0) 0), (.ref 266), (.int (162) 0), (.int (0) 0), (.ref 273), (.int (175) 0), (.int (0) 0), (.ref 278), (.int (197) 0), (.int (0) 0), (.ref 283), (.int (202) 0), (.int (0) 0), (.ref 290)]), #[]⟩).set 24 fun _ => o24_1) 100 [⟨(.type "tuple"), none, (.seq #[(.ref 24)] 0), #[]⟩, ⟨(.type "builtin_function_or_method"), none, (.fields #[(.builtin "type.__prepare__"), (.type "type")]), #[]⟩, o102 P, oE, oF, o105, ⟨(.type "frame"), none, .plain, #[(some (.ref 105)), (some (.ref 3)), (some (.ref 102)), none, (some (.str "trueword.errors" 187)), none, (some (.ref 0))]⟩, oE, o108 P, o109, ⟨(.type "super"), none, (.fields #[(.ref 109), (.ref 109), (.ref 109)]), #[]⟩, ⟨(.type "builtin_function_or_method"), none, (.fields #[(.builtin "object.__init_subclass__"), (.ref 109)]), #[]⟩, ⟨(.type "tuple"), none, (.seq #[(.ref 24)] 0), #[]⟩, ⟨(.type "builtin_function_or_method"), none, (.fields #[(.builtin "type.__prepare__"), (.type "type")]), #[]⟩, o114 P, oE, oF, o117, ⟨(.type "frame"), none, .plain, #[(some (.ref 117)), (some (.ref 3)), (some (.ref 114)), none, (some (.str "trueword.errors" 187)), none, (some (.ref 0))]⟩, oE, o120 P, o121, ⟨(.type "super"), none, (.fields #[(.ref 121), (.ref 121), (.ref 121)]), #[]⟩, ⟨(.type "builtin_function_or_method"), none, (.fields #[(.builtin "object.__init_subclass__"), (.ref 121)]), #[]⟩, ⟨(.type "tuple"), none, (.seq #[(.ref 24)] 0), #[]⟩, ⟨(.type "builtin_function_or_method"), none, (.fields #[(.builtin "type.__prepare__"), (.type "type")]), #[]⟩, o126 P, oE, oF, o129, ⟨(.type "frame"), none, .plain, #[(some (.ref 129)), (some (.ref 3)), (some (.ref 126)), none, (some (.str "trueword.errors" 187)), none, (some (.ref 0))]⟩, oE, o132 P, o133, ⟨(.type "super"), none, (.fields #[(.ref 133), (.ref 133), (.ref 133)]), #[]⟩, ⟨(.type "builtin_function_or_method"), none, (.fields #[(.builtin "object.__init_subclass__"), (.ref 133)]), #[]⟩, oE, oF, (ts 358 ["thing"]), oE, (xo 13 "is_whole"), o141, o142, oE, oF, (ts 365 ["thing"]), oE, (xo 14 "is_bounded"), o148, o149, oE, oF, (xo 15 "is_grid_row"), o153, o154, oE, oF, (xo 21 "is_name"), o158, o159, oE, oF, (xo 22 "are_names"), o163, o164, oE, oF, (xo 23 "are_worths"), o168, o169, oE, oF, (ts 406 ["thing", "width"]), oE, (xo 24 "is_hand"), o175, o176, oE, oF, (ts 414 ["hand"]), oE, (xo 25 "name_of"), o182, o183, oE, oF, (xo 26 "names_of"), o187, o188, oE, oF, (ts 427 ["hand"]), oE, (xo 27 "words_of_hand"), o194, o195, oE, oF, (ts 434 ["hand"]), oE, (xo 28 "worths_of_hand"), o201, o202, oE, oF, (ts 441 ["hands", "count", "hand"]), oE, (xo 29 "count_of_rows"), o208, o209, oE, oF, (xo 30 "makes_house"), o213, o214, oE, oF, (xo 31 "kept_hand"), o218, o219, oE, oF, (xo 32 "house_of"), o223, o224, oE, oF, (ts 470 ["script", "k"]), oE, (xo 34 "_law_cell_at"), o230, o231, oE, oF, (xo 35 "_law_pool"), o235, o236, oE, oF, (ts 484 ["script", "k", "many", "cell", "number"]), oE, (xo 36 "_law_drawn"), o242, o243, oE, oF, (ts 495 ["cell"]), oE, (xo 37 "_law_worth"), o249, o250, oE, oF, (xo 38 "_law_parts"), o254, o255, oE, oF, (xo 39 "_law_no_names"), o259, o260, oE, oF, (ts 514 ["worths", "cell", "place", "row", "at", "some", "way"]), oE, (xo 40 "_law_no_worths"), o266, o267, oE, oF, (ts 527 ["hand", "cell", "way"]), oE, (xo 41 "_law_no_hand"), o273, o274, oE, oF, (xo 42 "_law_no_hands"), o278, o279, oE, oF, (xo 43 "_law_nine"), o283, o284, oE, oF, (ts 548 ["script", "outcomes", "hands", "cell", "good", "found", "kinds", "e"]), oE, (xo 44 "law"), o290, o291]
def hf (P : Params) : Heap := absHeap (t2 P) 292 (lf P)
def s0 (w : World) (os : OsState) : SharedT := ⟨t0 w.params, 15, lf w.params, Array.mk [], boot_drawn, 187, os⟩
def s1 (w : World) (os : OsState) : SharedT := ⟨t1 w.params, 100, lf w.params, Array.mk [], boot_drawn, 303, os⟩
def s2 (w : World) (os : OsState) : SharedT := ⟨t2 w.params, 292, lf w.params, Array.mk [], boot_drawn, 559, os⟩
def l0 : List Stmt := (pr.main.body.drop 0).take 8
def l1 : List Stmt := (pr.main.body.drop 8).take 37
theorem bs : behindTheImports pr = l0 ++ (l1 ++ ([])) := by kernel_rfl
theorem r_pre (w : World) (os : OsState) : topGo treeTable pr w 11 (some (.ref 6)) 12 ⟨boot_heap w.params, Array.mk [], boot_drawn, boot_toks, os⟩ (topStub pr) = some (⟨ha w.params, Array.mk [], boot_drawn, 187, os⟩, ⟨denote treeTable cd, cd, ⟨0, 0, 0, 0⟩, [topFrame qp]⟩) := by kernel_rfl
theorem aj (w : World) (os : OsState) : segRun treeTable pr w 11 (some (.ref 6)) 1 1 ⟨ha w.params, Array.mk [], boot_drawn, 187, os⟩ (blockOf (behindTheImports pr) env cd ⟨0, 0, 0, 0⟩ [topFrame qp]) = some (.next, (s0 w os).abs, cd, ⟨0, 0, 0, 0⟩) := by kernel_rfl
theorem r0 (w : World) (os : OsState) : segRunT treeTable pr w 11 (some (.ref 6)) 1 1474 (s0 w os) (piecesOf l0 env cd ⟨0, 0, 0, 0⟩ [topFrame qp]) = some (.next, s1 w os, cd, ⟨14, 0, 15, 8⟩) := by
  rw [PySem.W.Fast.te10110043849684766642, PySem.W.Fast.te14364793385576792824]; kernel_rfl
theorem r1 (w : World) (os : OsState) : segRunT treeTable pr w 11 (some (.ref 6)) 1 1450 (s1 w os) (piecesOf l1 env cd ⟨14, 0, 15, 8⟩ [topFrame qp]) = some (.next, s2 w os, cd, ⟨202, 0, 220, 46⟩) := by
  rw [PySem.W.Fast.te10110043849684766642, PySem.W.Fast.te14364793385576792824]; kernel_rfl
theorem r_fin (w : World) (os : OsState) : topRun treeTable pr w 11 (some (.ref 6)) 2 (s2 w os).abs ⟨doneF .next, cd, ⟨202, 0, 220, 46⟩, [topFrame qp]⟩ = some ⟨hf w.params, Array.mk [], boot_drawn, 559, os⟩ := by kernel_rfl
theorem r_rest (w : World) (os : OsState) : topRun treeTable pr w 11 (some (.ref 6)) (1474 + (1450 + (2))) (s0 w os).abs (restOf (behindTheImports pr) env cd ⟨0, 0, 0, 0⟩ [topFrame qp]) = some ⟨hf w.params, Array.mk [], boot_drawn, 559, os⟩ := by
  have k := piece_app (segRun_of (r0 w os)) (piece_app (segRun_of (r1 w os)) (piece_nil (r_fin w os)));exact (congrArg (fun b => topRun treeTable pr w 11 (some (.ref 6)) (1474 + (1450 + (2))) (s0 w os).abs (restOf b env cd ⟨0, 0, 0, 0⟩ [topFrame qp])) bs).trans k
theorem r_all (w : World) (os : OsState) : topRun treeTable pr w 11 (some (.ref 6)) (12 + (1 + (1474 + (1450 + (2))))) ⟨boot_heap w.params, Array.mk [], boot_drawn, boot_toks, os⟩ (topStub pr) = some ⟨hf w.params, Array.mk [], boot_drawn, 559, os⟩ := go_top (r_pre w os) (piece_block (aj w os) (r_rest w os))
def ks : List Addr := [3, 13, 17, 20, 23, 24, 30, 33, 36, 37, 42, 45, 48, 49, 54, 57, 60, 61, 66, 69, 72, 73, 78, 81, 84, 85, 90, 93, 96, 97, 102, 105, 108, 109, 114, 117, 120, 121, 126, 129, 132, 133, 141, 142, 148, 149, 153, 154, 158, 159, 163, 164, 168, 169, 175, 176, 182, 183, 187, 188, 194, 195, 201, 202, 208, 209, 213, 214, 218, 219, 223, 224, 230, 231, 235, 236, 242, 243, 249, 250, 254, 255, 259, 260, 266, 267, 273, 274, 278, 279, 283, 284, 290, 291]
def K : Params -> Frag := fun P => (nat_lit 3, o3_1 P) :: (nat_lit 13, o13) :: (nat_lit 17, o17 P) :: (nat_lit 20, o20) :: (nat_lit 23, o23 P) :: (nat_lit 24, o24_1) :: (nat_lit 30, o30 P) :: (nat_lit 33, o33) :: (nat_lit 36, o36 P) :: (nat_lit 37, o37) :: (nat_lit 42, o42 P) :: (nat_lit 45, o45) :: (nat_lit 48, o48 P) :: (nat_lit 49, o49) :: (nat_lit 54, o54 P) :: (nat_lit 57, o57) :: (nat_lit 60, o60 P) :: (nat_lit 61, o61) :: (nat_lit 66, o66 P) :: (nat_lit 69, o69) :: (nat_lit 72, o72 P) :: (nat_lit 73, o73) :: (nat_lit 78, o78 P) :: (nat_lit 81, o81) :: (nat_lit 84, o84 P) :: (nat_lit 85, o85) :: (nat_lit 90, o90 P) :: (nat_lit 93, o93) :: (nat_lit 96, o96 P) :: (nat_lit 97, o97) :: (nat_lit 102, o102 P) :: (nat_lit 105, o105) :: (nat_lit 108, o108 P) :: (nat_lit 109, o109) :: (nat_lit 114, o114 P) :: (nat_lit 117, o117) :: (nat_lit 120, o120 P) :: (nat_lit 121, o121) :: (nat_lit 126, o126 P) :: (nat_lit 129, o129) :: (nat_lit 132, o132 P) :: (nat_lit 133, o133) :: (nat_lit 141, o141) :: (nat_lit 142, o142) :: (nat_lit 148, o148) :: (nat_lit 149, o149) :: (nat_lit 153, o153) :: (nat_lit 154, o154) :: (nat_lit 158, o158) :: (nat_lit 159, o159) :: (nat_lit 163, o163) :: (nat_lit 164, o164) :: (nat_lit 168, o168) :: (nat_lit 169, o169) :: (nat_lit 175, o175) :: (nat_lit 176, o176) :: (nat_lit 182, o182) :: (nat_lit 183, o183) :: (nat_lit 187, o187) :: (nat_lit 188, o188) :: (nat_lit 194, o194) :: (nat_lit 195, o195) :: (nat_lit 201, o201) :: (nat_lit 202, o202) :: (nat_lit 208, o208) :: (nat_lit 209, o209) :: (nat_lit 213, o213) :: (nat_lit 214, o214) :: (nat_lit 218, o218) :: (nat_lit 219, o219) :: (nat_lit 223, o223) :: (nat_lit 224, o224) :: (nat_lit 230, o230) :: (nat_lit 231, o231) :: (nat_lit 235, o235) :: (nat_lit 236, o236) :: (nat_lit 242, o242) :: (nat_lit 243, o243) :: (nat_lit 249, o249) :: (nat_lit 250, o250) :: (nat_lit 254, o254) :: (nat_lit 255, o255) :: (nat_lit 259, o259) :: (nat_lit 260, o260) :: (nat_lit 266, o266) :: (nat_lit 267, o267) :: (nat_lit 273, o273) :: (nat_lit 274, o274) :: (nat_lit 278, o278) :: (nat_lit 279, o279) :: (nat_lit 283, o283) :: (nat_lit 284, o284) :: (nat_lit 290, o290) :: (nat_lit 291, o291) :: []
theorem ke (P : Params) : ks = (K P).map (·.1) := by kernel_rfl
def lo : List Str := pr.main.scope.names.map (·.1)
def vw : Program := { pr with main := { pr.main with body := [Mine.sf] } }
def fs (w : World) (os : OsState) : Shared := ⟨hf w.params, Array.mk [], boot_drawn, 559, os⟩
theorem z_size (w : World) : ((boot_heap w.params).isNs mainGlobals && (Array.mk [] : Array GenState).size == 0, (boot_heap w.params).objs.size, (boot_heap w.params).nsMap mainGlobals "__annotations__") = (true, 11, (some (.ref 6))) := by kernel_rfl
theorem z_one (w : World) (os : OsState) : (staticsOk (importedModules pr.main.body) (boot_heap w.params) (hf w.params) && namesBound pr (hf w.params) && gensDone (fs w os) && laidKept (boot_heap w.params) (hf w.params)) = true := by kernel_rfl
theorem z_two (w : World) (os : OsState) : openSeen vw lo (importedModules pr.main.body) (fun _ => true) true (fs w os) = openGood vw lo := by
  rw [PySem.W.Fast.te4187177175401517315]; kernel_rfl
theorem bu (w : World) (os : OsState) : (kHook K ks ke).obs (fs w os) = (kHook K ks ke).val w := by kernel_rfl
theorem z_open : opening pr = plainProg pr.main.scope.names := by kernel_rfl
theorem ak (s : Shared) : fenceModules? pr s = some s := by kernel_rfl
theorem left : LeftO pr vw lo (fun _ => true) (kHook K ks ke).obs (kHook K ks ke).val 1000000 :=
  LeftO.of_pieces (boot_open z_open rfl ak) z_size r_all rfl fun w => funext fun os => looks_pair (z_one w os) (looks_pair (z_two w os) (bu w os))
end
end Tp
open PySem PySem.W PyProof.Rows
set_option maxRecDepth 100000 in
set_option maxHeartbeats 0 in
theorem PySem.Challenge.cw_trueword_k33_no_house_holds : PySem.Challenge.rw_trueword_k33_no_house.Holds := by
  refine holds_law (by rw [PySem.W.Fast.te9446332074065402090]; kernel_rfl) fun said => ?_
  refine holds_open (q := Tp.vw) (loose := Tp.lo) (Xt := fun _ => true) (XP := fun _ _ => True) (Yf := (kHook Tp.K Tp.ks Tp.ke).obs) (Ya := (kHook Tp.K Tp.ks Tp.ke).val) (YP := (kHook Tp.K Tp.ks Tp.ke).says) (N := 1000000) Tp.left (kHook Tp.K Tp.ks Tp.ke).of (kHook Tp.K Tp.ks Tp.ke).keeps (fun _ _ => trivial) (fun _ _ _ _ _ => trivial) (by rfl) (by rfl) (by rfl) (fun _ _ => recFacts_nil rfl) (by rfl) said (by decide +kernel) ⟨rfl, rfl, rfl, rfl, rfl, by decide +kernel⟩ ?hw ?hc
  case hw => w_witness2
  k_fill
  refine L2.cx (l := PySem.Challenge.rw_trueword_k33_no_house) (n := 63) (k := 8) (x := "script") (CX := L2.CX0) (sp := Mine.fc) rfl (by decide) rfl ⟨rfl, by decide, by decide⟩ (fun w h Y => PySem.W.kIn_of Y) ?F ?S ?C
  case F =>
    intro w mg fa h KX G hmg
    have N : mg "ValueError" = none /\ mg "abs" = none /\ mg "all" = none /\ mg "bool" = none /\ mg "int" = none /\ mg "isinstance" = none /\ mg "len" = none /\ mg "list" = none /\ mg "max" = none /\ mg "min" = none /\ mg "range" = none /\ mg "set" = none /\ mg "str" = none /\ mg "tuple" = none /\ True := by
      refine ⟨?_, ?_, ?_, ?_, ?_, ?_, ?_, ?_, ?_, ?_, ?_, ?_, ?_, ?_, trivial⟩ <;> (refine' PySem.W.mg_none_of KX G ?a; (case a => k_is))
    obtain ⟨n_ValueError, n_abs, n_all, n_bool, n_int, n_isinstance, n_len, n_list, n_max, n_min, n_range, n_set, n_str, n_tuple, -⟩ := N;have k0_MOST_WORDS := PySem.W.mg_of (n := "MOST_WORDS") KX G (by k_is);have k_MOST_WORDS : ∃ t, mg "MOST_WORDS" = some (Value.int 8 t) := ⟨_, k0_MOST_WORDS⟩;have k0_MOST_LETTERS := PySem.W.mg_of (n := "MOST_LETTERS") KX G (by k_is);have k_MOST_LETTERS : ∃ t, mg "MOST_LETTERS" = some (Value.int 8 t) := ⟨_, k0_MOST_LETTERS⟩;have k0_MOST_OUTCOMES := PySem.W.mg_of (n := "MOST_OUTCOMES") KX G (by k_is);have k_MOST_OUTCOMES : ∃ t, mg "MOST_OUTCOMES" = some (Value.int 8 t) := ⟨_, k0_MOST_OUTCOMES⟩;have k0_MOST_HANDS := PySem.W.mg_of (n := "MOST_HANDS") KX G (by k_is);have k_MOST_HANDS : ∃ t, mg "MOST_HANDS" = some (Value.int 4 t) := ⟨_, k0_MOST_HANDS⟩;have k0_MOST_ROWS := PySem.W.mg_of (n := "MOST_ROWS") KX G (by k_is);have k_MOST_ROWS : ∃ t, mg "MOST_ROWS" = some (Value.int 256 t) := ⟨_, k0_MOST_ROWS⟩;have B : Mine.Bt mg := ⟨n_ValueError, n_abs, n_all, n_bool, n_int, n_isinstance, n_len, n_list, n_max, n_min, n_range, n_set, n_str, n_tuple, k_MOST_WORDS, k_MOST_LETTERS, k_MOST_OUTCOMES, k_MOST_HANDS, k_MOST_ROWS⟩;have z_NoHouse := L2.ef (name := "NoHouse") KX G (by k_is) (by k_exc) (by k_is) (by k_is) (by k_is);have z_TrueError := L2.ef (name := "TrueError") KX G (by k_is) (by k_exc) (by k_is) (by k_is) (by k_is);have z_NoWord := PySem.W.mg_of (n := "NoWord") KX G (by k_is);have z_NoWeight := PySem.W.mg_of (n := "NoWeight") KX G (by k_is);have z_NoStand := PySem.W.mg_of (n := "NoStand") KX G (by k_is);have z_NoShare := PySem.W.mg_of (n := "NoShare") KX G (by k_is);have z_NoRule := PySem.W.mg_of (n := "NoRule") KX G (by k_is);have z_NoRow := PySem.W.mg_of (n := "NoRow") KX G (by k_is);have z_NoPays := PySem.W.mg_of (n := "NoPays") KX G (by k_is);have z_NoMenu := PySem.W.mg_of (n := "NoMenu") KX G (by k_is);have C := Mine.Ct.mk (mg := mg) (a := ⟨_, _, _, _, _, _, _, _, _, _⟩) (z_NoHouse.1) (z_NoHouse.2) (L2.bt (by k_is)) (z_TrueError.1) (z_TrueError.2) (z_NoWord) (z_NoWeight) (z_NoStand) (z_NoShare) (z_NoRule) (z_NoRow) (z_NoPays) (z_NoMenu) (by k_is) (L2.d7) (by k_is) (L2.uj (by decide) (by k_is) (by k_is) (by k_is)) (L2.uj (by decide) (by k_is) (by k_is) (by k_is)) (L2.uj (by decide) (by k_is) (by k_is) (by k_is)) (L2.uj (by decide) (by k_is) (by k_is) (by k_is)) (L2.uj (by decide) (by k_is) (by k_is) (by k_is)) (L2.uj (by decide) (by k_is) (by k_is) (by k_is)) (L2.uj (by decide) (by k_is) (by k_is) (by k_is)) (L2.uj (by decide) (by k_is) (by k_is) (by k_is)) (L2.uj (by decide) (by k_is) (by k_is) (by k_is))
    have D : L2.zt (L2.KOf KX) mg "is_whole" Mine.uc ["thing"] /\ L2.zt (L2.KOf KX) mg "is_bounded" Mine.va ["thing"] /\ L2.zt (L2.KOf KX) mg "is_grid_row" Mine.wu ["thing", "width"] /\ L2.zt (L2.KOf KX) mg "is_name" Mine.u3 ["thing"] /\ L2.zt (L2.KOf KX) mg "are_names" Mine.vp ["thing", "most"] /\ L2.zt (L2.KOf KX) mg "are_worths" Mine.w6 ["thing", "height", "width"] /\ L2.zt (L2.KOf KX) mg "is_hand" Mine.u0 ["thing", "width"] /\ L2.zt (L2.KOf KX) mg "name_of" Mine.sr ["hand"] /\ L2.zt (L2.KOf KX) mg "names_of" Mine.uh ["hands"] /\ L2.zt (L2.KOf KX) mg "words_of_hand" Mine.wz ["hand"] /\ L2.zt (L2.KOf KX) mg "worths_of_hand" Mine.wn ["hand"] /\ L2.zt (L2.KOf KX) mg "count_of_rows" Mine.w4 ["hands"] /\ L2.zt (L2.KOf KX) mg "makes_house" Mine.wt ["outcomes", "hands"] /\ L2.zt (L2.KOf KX) mg "kept_hand" Mine.ut ["hand"] /\ L2.zt (L2.KOf KX) mg "house_of" Mine.ua ["outcomes", "hands"] /\ L2.zt (L2.KOf KX) mg "_law_cell_at" Mine.vt ["script", "k"] /\ L2.zt (L2.KOf KX) mg "_law_pool" Mine.z9 ["cell", "many"] /\ L2.zt (L2.KOf KX) mg "_law_drawn" Mine.up ["script", "k"] /\ L2.zt (L2.KOf KX) mg "_law_worth" Mine.uq ["cell"] /\ L2.zt (L2.KOf KX) mg "_law_parts" Mine.ur ["script", "tops"] /\ L2.zt (L2.KOf KX) mg "_law_no_names" Mine.zm ["names", "cell", "top"] /\ L2.zt (L2.KOf KX) mg "_law_no_worths" Mine.zl ["worths", "cell"] /\ L2.zt (L2.KOf KX) mg "_law_no_hand" Mine.zv ["hand", "cell"] /\ L2.zt (L2.KOf KX) mg "_law_no_hands" Mine.zn ["hands", "outcomes", "cell"] /\ L2.zt (L2.KOf KX) mg "_law_nine" Mine.yr ["hands"] /\ L2.zt (L2.KOf KX) mg "law" Mine.sf ["script"] /\ True := by
      refine ⟨?_, ?_, ?_, ?_, ?_, ?_, ?_, ?_, ?_, ?_, ?_, ?_, ?_, ?_, ?_, ?_, ?_, ?_, ?_, ?_, ?_, ?_, ?_, ?_, ?_, ?_, trivial⟩ <;> (dsimp only [L2.KOf]; refine' L2.def_mk KX G ?a ?l ?c ?k ?h; (case a => k_is); (case l => k_is); (case c => k_is); (case k => k_is); (case h => first | exact (fun _ _ _ _ _ _ us hl => match us, hl with | [_], _ => rfl) | exact (fun _ _ _ _ _ _ us hl => match us, hl with | [_, _], _ => rfl) | exact (fun _ _ _ _ _ _ us hl => match us, hl with | [_, _, _], _ => rfl)))
    obtain ⟨d_is_whole, d_is_bounded, d_is_grid_row, d_is_name, d_are_names, d_are_worths, d_is_hand, d_name_of, d_names_of, d_words_of_hand, d_worths_of_hand, d_count_of_rows, d_makes_house, d_kept_hand, d_house_of, d_law_cell_at, d_law_pool, d_law_drawn, d_law_worth, d_law_parts, d_law_no_names, d_law_no_worths, d_law_no_hand, d_law_no_hands, d_law_nine, d_law, -⟩ := D;obtain ⟨f, fd, e1, F1, b1⟩ := d_law.ex;have e2 := hmg.symm.trans e1;cases e2;refine ⟨fd, fun s u => ?_, fun base kb nb => ?_⟩
    . exact Mine.ev F1 s u
    . exact Mine.law_ok B C d_is_whole d_is_bounded d_is_grid_row d_is_name d_are_names d_are_worths d_is_hand d_name_of d_names_of d_words_of_hand d_worths_of_hand d_count_of_rows d_makes_house d_kept_hand d_house_of d_law_cell_at d_law_pool d_law_drawn d_law_worth d_law_parts d_law_no_names d_law_no_worths d_law_no_hand d_law_no_hands d_law_nine base F1
  case S => exact fun K H a ns hl hO hS => ⟨a, ns, rfl, hS, hl, fun _ => rfl⟩
  case C => exact fun _ _ _ _ z => z
#print axioms PySem.Challenge.cw_trueword_k33_no_house_holds

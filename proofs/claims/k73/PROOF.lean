import PyProof.Rows.All
import Wide.All
import OpenK.AllK
import Wide.FinOn
import Lean
import PyProof.EqAt
import PyProof.EqKinds
import PyProof.TupleCall
import PySem.Challenge.RW_trueword_k73_rules_said
abbrev Fg := PySem.W.Frag
abbrev Za := @List.length_map
abbrev Zb := @List.getElem?_eq_getElem
abbrev Zc := @List.getElem?_eq_some_iff
abbrev Zd := @Nat.le_trans
abbrev Ze := @List.getElem?_map
abbrev Zf := @List.getElem?_append_right
abbrev Zg := @List.getElem?_append_left
abbrev Zh := @Nat.lt_of_lt_of_le
abbrev Zi := @List.mem_of_getElem?
abbrev Zj := @List.length_take
abbrev Zk := @List.getD_eq_getElem?_getD
abbrev Zl := @List.getElem_mem
abbrev Zm := @Nat.le_refl
abbrev Zn := @List.map_append
abbrev Zo := @List.length_append
abbrev Zp := @List.mem_map
abbrev Zq := @List.take_add_one
abbrev Zr := @List.size_toArray
abbrev Zs := @Nat.ne_of_lt
abbrev Zt := @List.take_length
abbrev Zu := @List.mem_append_right
abbrev Zv := @List.mem_cons_of_mem
abbrev Zw := @Int.toNat_natCast
abbrev Zx := @List.not_mem_nil
abbrev Zy := @List.getElem_of_mem
abbrev Zz := @List.idxOf_lt_length_iff
abbrev ZA := @List.mem_cons_self
abbrev ZB := @Nat.min_le_right
abbrev ZC := @List.mem_singleton
abbrev ZD := @Nat.not_lt
abbrev ZE := @Nat.zero_le
abbrev ZF := @List.lookup_cons
abbrev ZG := @List.take_of_length_le
abbrev ZH := @List.mem_append
abbrev ZI := @List.length_replicate
abbrev ZJ := @Nat.lt_irrefl
abbrev ZK := @List.mem_cons
abbrev ZL := @List.length_cons
abbrev ZM := @List.map_cons
abbrev ZN := @List.append_assoc
abbrev ZO := @List.append_nil
abbrev ZP := @List.mem_filterMap
abbrev ZQ := @List.getElem?_drop
abbrev ZR := @List.all_eq_true
abbrev ZS := @List.map_map
abbrev ZT := @Array.getElem?_eq_some_iff
abbrev ZU := @List.length_drop
abbrev ZV := @Array.toList_inj
abbrev ZW := @List.cons_ne_nil
abbrev ZX := @List.mem_append_left
abbrev ZY := @Int.toNat_of_nonneg
abbrev ZZ := @Nat.add_le_add_left
abbrev Yb := @List.mem_range
abbrev Yc := @List.nodup_cons
abbrev Yd := @List.length_singleton
abbrev Ye := @List.find?_cons
abbrev Yg := @List.length_range
abbrev Yh := @List.drop_left
abbrev Yi := @List.getElem?_take_of_lt
abbrev Yj := @Array.length_toList
abbrev Yk := @Array.toList_append
abbrev Yl := @List.getElem?_replicate
abbrev Ym := @Nat.toDigits_of_lt_base
abbrev Yn := @Nat.lt_of_le_of_lt
abbrev Yo := @List.nil_append
abbrev Yp := @Nat.ne_of_gt
abbrev Yq := @List.map_nil
abbrev Yr := @List.drop_drop
abbrev Ys := @List.cons_lt_cons_iff
abbrev Yt := @Nat.lt_succ_self
abbrev Yu := @List.any_eq_true
abbrev Yv := @List.cons_append
abbrev Yw := @List.getElem?_eq_none_iff
abbrev Yx := @List.drop_zero
abbrev Yy := @List.length_eq_zero_iff
abbrev Yz := @Nat.lt_succ_of_lt
abbrev YA := @List.getElem?_set_self
abbrev YB := @List.append_eq_nil_iff
abbrev YC := @List.any_cons
abbrev YD := @List.getElem_inj
abbrev YE := @List.filter_cons
abbrev YF := @List.getElem?_set_ne
abbrev YG := @Nat.le_of_eq
abbrev YH := @List.of_mem_zip
abbrev YI := @Option.map_some
abbrev YJ := @List.filterMap_cons
abbrev YK := @List.replicate_succ
abbrev YL := @List.take_left
abbrev YM := @Nat.toDigits_append_toDigits
abbrev YN := @Nat.mul_le_mul
abbrev YO := @Nat.le_succ
abbrev YQ := @Int.emod_lt_of_pos
abbrev YR := @List.all_cons
abbrev YS := @List.take_sublist
abbrev YT := @List.nodup_append
abbrev YU := @List.pairwise_map
abbrev YV := @Nat.le_of_lt
abbrev YW := @Option.getD_some
abbrev YX := @Nat.succ_le_succ
abbrev YY := @List.mem_flatten
abbrev YZ := @Nat.sub_self
abbrev Xa := @List.mem_filter
abbrev Xb := @List.foldl_cons
abbrev Xc := @Nat.min_eq_left
-- CHANGE: your row's module here, as the last of these rows
set_option Elab.async false
set_option maxHeartbeats 8000000
set_option linter.all false
set_option maxRecDepth 100000
namespace L2
open PySem PySem.Spec PyProof.Rows
abbrev Key := Sum Int Str
def jk : Key -> Value -> Bool
  | .inl k, v => Value.isInt k v
  | .inr x, v => Value.isStrOf x v
def keyH (w : World) : Key -> Int
  | .inl k => hashInt k
  | .inr x => hashStr w x
theorem xm : ∀ {k : Key} {v : Value}, jk k v = true -> (∃ i t, k = Sum.inl i /\ v = Value.int i t) \/ (∃ x t, k = Sum.inr x /\ v = Value.str x t)
  | .inl i, v, h => by
    obtain ⟨t, e⟩ := Value.isInt_shape (k := i) (v := v) h;exact .inl ⟨i, t, rfl, e⟩
  | .inr x, v, h => by
    obtain ⟨t, e⟩ := Value.isStrOf_shape (x := x) (v := v) h;exact .inr ⟨x, t, rfl, e⟩
theorem zdx (i : Int) (t : Tok) : jk (.inl i) (.int i t) = true := by simp [jk, Value.isInt]
theorem zda (x : Str) (t : Tok) : jk (.inr x) (.str x t) = true := by simp [jk, Value.isStrOf]
theorem key_ll (a b : Int) : decide ((Sum.inl a : Key) = Sum.inl b) = (a == b) := by
  by_cases e : a = b
  . subst e; simp
  . have h : ¬ (Sum.inl a : Key) = Sum.inl b := fun q => e (Sum.inl.inj q)
    rw [decide_eq_false h];exact (beq_eq_false_iff_ne.mpr e).symm
theorem zdt (a b : Str) : decide ((Sum.inr a : Key) = Sum.inr b) = decide (a = b) := by
  by_cases e : a = b
  . subst e; simp
  . have h : ¬ (Sum.inr a : Key) = Sum.inr b := fun q => e (Sum.inr.inj q)
    rw [decide_eq_false h, decide_eq_false e]
theorem key_lr (a : Int) (b : Str) : decide ((Sum.inl a : Key) = Sum.inr b) = false := decide_eq_false (fun q => nomatch q)
theorem key_rl (a : Str) (b : Int) : decide ((Sum.inr a : Key) = Sum.inl b) = false := decide_eq_false (fun q => nomatch q)
def xq (prog : Program) (w : World) : PySem.KeyKind prog w Key where
  is := jk
  hash := keyH w
  inj := fun v a b ha hb => by
    rcases xm ha with ⟨i, t, rfl, rfl⟩ | ⟨x, t, rfl, rfl⟩
    . rcases xm hb with ⟨j, u, rfl, e⟩ | ⟨y, u, rfl, e⟩
      . injection e with e1 _; rw [e1]
      . exact nomatch e
    . rcases xm hb with ⟨j, u, rfl, e⟩ | ⟨y, u, rfl, e⟩
      . exact nomatch e
      . injection e with e1 _; rw [e1]
  byValue := fun k v h => by
    rcases xm h with ⟨i, t, rfl, rfl⟩ | ⟨x, t, rfl, rfl⟩ <;> rfl
  pyHash := fun hv h => by
    rcases xm hv with ⟨i, t, rfl, rfl⟩ | ⟨x, t, rfl, rfl⟩
    . exact wpAny_pyHash_int h
    . exact wpAny_pyHash_str h
  eqBool := fun hu hv h => by
    rcases xm hu with ⟨i, t, rfl, rfl⟩ | ⟨x, t, rfl, rfl⟩
    . rcases xm hv with ⟨j, u, rfl, rfl⟩ | ⟨y, u, rfl, rfl⟩
      . rw [key_ll] at h; exact wpAny_eqBool_int h
      . rw [key_lr] at h; exact SeqAt.EqAt.int_str i t y u _ _ _ _ h
    . rcases xm hv with ⟨j, u, rfl, rfl⟩ | ⟨y, u, rfl, rfl⟩
      . rw [key_rl] at h; exact SeqAt.EqAt.str_int x t j u _ _ _ _ h
      . rw [zdt] at h; exact wpAny_eqBool_str h
  «strs» := fun k x t v h => by
    rcases xm h with ⟨i, u, rfl, e⟩ | ⟨y, u, rfl, e⟩
    . exact nomatch e
    . injection e with e1 _
      subst e1;cases v <;> rfl
theorem zai (prog : Program) (w : World) (i : Int) (t : Tok) : (xq prog w).is (.inl i) (.int i t) = true := zdx i t
theorem nw (prog : Program) (w : World) (x : Str) (t : Tok) : (xq prog w).is (.inr x) (.str x t) = true := zda x t
end L2
namespace L2
open PySem PySem.Spec PyProof.Rows
inductive V where
  | non | bl (b : Bool) | int (i : Int) | str (x : Str) | byt (b : Array UInt8) | flt (b : UInt64) | ref (a : Addr) | ty (n : String)
  deriving DecidableEq
def RelV : V -> Value -> Prop
  | .non, u => u = Value.none
  | .bl b, u => u = Value.bool b
  | .int i, u => ∃ t, u = Value.int i t
  | .str x, u => ∃ t, u = Value.str x t
  | .byt b, u => ∃ t, u = Value.bytes b t
  | .flt b, u => ∃ t, u = Value.float b t
  | .ref a, u => u = Value.ref a
  | .ty n, u => u = Value.type n
abbrev Vals : List V -> List Value -> Prop := Paired RelV
theorem Vals.length {xs : List V} {us : List Value} (r : Vals xs us) : xs.length = us.length := Paired.length r
theorem Vals.get : ∀ {xs : List V} {us : List Value} {i : Nat} {x : V}, Vals xs us -> xs[i]? = some x -> ∃ u, us[i]? = some u /\ RelV x u
  | _, _, _, _, .nil, e => by simp at e
  | _, _, 0, _, .cons r _, e => by simp at e; subst e; exact ⟨_, rfl, r⟩
  | _, _, i + 1, x, .cons _ t, e => by
    obtain ⟨u, h1, h2⟩ := Vals.get (i := i) (x := x) t (by simpa using e);exact ⟨u, by simpa using h1, h2⟩
theorem Vals.set {x : V} {u : Value} (r : RelV x u) : ∀ {xs : List V} {us : List Value} (i : Nat), Vals xs us -> Vals (xs.set i x) (us.set i u)
  | _, _, _, .nil => .nil
  | _, _, 0, .cons _ t => .cons r t
  | _, _, i + 1, .cons q t => .cons q (Vals.set r i t)
theorem Vals.append : ∀ {xs ys : List V} {us ws : List Value}, Vals xs us -> Vals ys ws -> Vals (xs ++ ys) (us ++ ws)
  | _, _, _, _, .nil, s => s
  | _, _, _, _, .cons r t, s => .cons r (Vals.append t s)
theorem Vals.take : ∀ {xs : List V} {us : List Value} (n : Nat), Vals xs us -> Vals (xs.take n) (us.take n)
  | _, _, 0, _ => .nil
  | _, _, _ + 1, .nil => .nil
  | _, _, n + 1, .cons r t => .cons r (Vals.take n t)
theorem Vals.drop : ∀ {xs : List V} {us : List Value} (n : Nat), Vals xs us -> Vals (xs.drop n) (us.drop n)
  | _, _, 0, r => r
  | _, _, _ + 1, .nil => .nil
  | _, _, n + 1, .cons _ t => Vals.drop n t
theorem Vals.none_of : ∀ {xs : List V} {us : List Value} {i : Nat}, Vals xs us -> xs[i]? = none -> us[i]? = none := fun {xs us i} r e => by
  have h1 := r.length;have h2 : xs.length <= i := Yw.mp e;exact Yw.mpr (by omega)
def RelO : Option V -> Option Value -> Prop
  | some v, some u => RelV v u
  | none, none => True
  | _, _ => False
def KV {κ : Type} : List (κ × V) -> List (κ × Value) -> Prop := Paired fun (p : κ × V) (q : κ × Value) => p.1 = q.1 /\ RelV p.2 q.2
def kV : Key -> V
  | .inl i => .int i
  | .inr x => .str x
inductive HO where
    | lst (xs : List V)
    | tup (xs : List V)
    | dK (kvs : List (Key × V)) | dT (kvs : List (List Key × V))
    | set (S : Int -> Bool) (n : Nat)
    | ins (C dx : Addr) (fs : List (Str × V))
    | own (x : Addr)
    | xd (fs : List (Str × V))
    | met (f x : Addr)
    | rng (lo hi : Int)
    | frz (o : Obj) (u : HO)
    | tbl (ps : Array Value)
    | ext (φ : Heap -> Prop)
abbrev Hp := Addr -> Option HO
def upd (H : Hp) (a : Addr) (o : HO) : Hp := fun b => if b = a then some o else H b
theorem zc {H : Hp} {a : Addr} {o : HO} : upd H a o a = some o := by unfold upd; rw [if_pos rfl]
theorem z8 {H : Hp} {a b : Addr} {o : HO} (h : b ≠ a) : upd H a o b = H b := by unfold upd; rw [if_neg h]
theorem xb {H : Hp} {a b : Addr} {o : HO} (h : H a = some o) (h' : H b = none) : a ≠ b := by
  intro e; subst e; rw [h] at h'; cases h'
def IsTupD (h : Heap) (a : Addr) (items : Array Value) : Prop := ∃ o, h.get? a = some o /\ o.cls = .type "tuple" /\ ∃ n, o.data = .seq items n /\ o.dict = none
theorem IsTupD.tup {h : Heap} {a : Addr} {items : Array Value} (q : IsTupD h a items) : IsTup h a items := by
  obtain ⟨o, e, c, n, d, _⟩ := q;exact ⟨o, e, c, n, d⟩
theorem IsTupD.new (h : Heap) (items : Array Value) : IsTupD (h.push { cls := .type "tuple", data := .seq items }) h.objs.size items := ⟨_, Heap.get?_push_size _ rfl, rfl, _, rfl, rfl⟩
section
variable (P : Program) (w : World)
def ObjOk (H : Hp) (h : Heap) (a : Addr) : HO -> Prop
  | .lst xs => xs.length <= sizeLine /\ ∃ (its : List Value) (n : Nat), Vals xs its /\ h.get? a = some { cls := .type "list", data := .seq its.toArray n }
  | .tup xs => xs.length <= sizeLine /\ ∃ its : List Value, Vals xs its /\ IsTupD h a its.toArray
  | .dK kvs => kvs.length <= sizeLine /\ (a == sysModules) = false /\ ∃ vs, KV kvs vs /\ h.DictOf (xq P w) a vs
  | .dT kvs => kvs.length <= sizeLine /\ (a == sysModules) = false /\ ∃ xs : List (List Key × Addr × Value),
      Paired (fun (p : List Key × V) (q : List Key × Addr × Value) => p.1 = q.1 /\ H q.2.1 = some (.tup (p.1.map kV)) /\ RelV p.2 q.2.2) kvs xs /\
      ∃ o es ep, h.get? a = some o /\ o.ExactDict /\ o.data = .dict es ep /\ es.toList = xs.map (entryOfKey (tupleKind (xq P w))) /\ (xs.map (·.1)).Nodup
  | .set S n => h.SetOf (intKind P w) a S n
  | .ins C dx fs => H dx = some (.own a) /\ fs.length <= 1000 /\ dx ≠ a /\ h.get? a = some (PySem.W.instObj C dx) /\
      ∃ mA, h.Ns1 dx mA /\ (∀ f, RelO (fs.lookup f) (mA f)) /\ PySem.Within mA (fs.map (·.1))
  | .own _ => ∃ o, h.get? a = some o
  | .xd fs => ∃ mA, h.Ns1 a mA /\ ∀ f, RelO (fs.lookup f) (mA f)
  | .rng lo hi => ∃ t u v, h.get? a = some { cls := .type "range", data := .fields #[.int lo t, .int hi u, .int 1 v] }
  | .frz o u => h.get? a = some o /\ ObjOk H h a u
  | .tbl ps => h.get? a = some { cls := .none, data := .fields ps }
  | .met f x => h.get? a = some (PySem.W.methodObj (.ref f) (.ref x))
  | .ext φ => φ h /\ (∃ o, h.get? a = some o) /\ ∀ h1 h2 : Heap, φ h1 -> (∀ o, h1.get? a = some o -> h2.get? a = some o) -> φ h2
def HOk (H : Hp) (h : Heap) : Prop := ∀ a o, H a = some o -> ObjOk P w H h a o
end
section
variable {P : Program} {w : World} {H H' : Hp} {h h' : Heap} {a : Addr} {o : HO}
theorem ObjOk.lt (x : ObjOk P w H h a o) : a < h.objs.size := by
  cases o with
  | lst xs => obtain ⟨_, _, _, _, e⟩ := x; exact Heap.lt_size e
  | tup xs => obtain ⟨_, _, _, p⟩ := x; exact p.tup.lt
  | dK kvs => obtain ⟨_, _, _, _, o, _, _, e, _⟩ := x; exact Heap.lt_size e
  | dT kvs => obtain ⟨_, _, _, _, o, _, _, e, _⟩ := x; exact Heap.lt_size e
  | set S n => obtain ⟨o, _, _, _, e, _⟩ := x; exact Heap.lt_size e
  | ins C dx fs => obtain ⟨_, _, _, e, _⟩ := x; exact Heap.lt_size e
  | own y => obtain ⟨_, e⟩ := x; exact Heap.lt_size e
  | xd fs => obtain ⟨_, ⟨_, _, _, e, _⟩, _⟩ := x; exact Heap.lt_size e
  | rng lo hi => obtain ⟨_, _, _, e⟩ := x; exact Heap.lt_size e
  | frz ob u => obtain ⟨e, _⟩ := x; exact Heap.lt_size e
  | tbl ps => exact Heap.lt_size (show h.get? a = some _ from x)
  | met f y => exact Heap.lt_size (show h.get? a = some _ from x)
  | ext φ => obtain ⟨_, ⟨_, e⟩, _⟩ := x; exact Heap.lt_size e
theorem Paired.mapP {α β : Type} {F G : α -> β -> Prop} : ∀ {l₁ : List α} {l₂ : List β}, Paired F l₁ l₂ -> (∀ a b, F a b -> G a b) -> Paired G l₁ l₂
  | _, _, .nil, _ => .nil
  | _, _, .cons r t, f => .cons (f _ _ r) (Paired.mapP t f)
theorem ObjOk.stay (x : ObjOk P w H h a o) (k : ∀ b u, (b = a \/ H b = some (.own a)) -> h.get? b = some u -> h'.get? b = some u)
    (ho : ∀ b, H b = some (.own a) -> H' b = some (.own a)) (ht : ∀ b xs, H b = some (.tup xs) -> H' b = some (.tup xs)) : ObjOk P w H' h' a o := by
  induction o with
  | lst xs => obtain ⟨z, its, n, r, e⟩ := x; exact ⟨z, its, n, r, k _ _ (.inl rfl) e⟩
  | tup xs => obtain ⟨z, its, r, ob, e, c⟩ := x; exact ⟨z, its, r, ob, k _ _ (.inl rfl) e, c⟩
  | dK kvs => obtain ⟨z, y, vs, r, ob, es, ep, e, c⟩ := x; exact ⟨z, y, vs, r, ob, es, ep, k _ _ (.inl rfl) e, c⟩
  | dT kvs =>
    obtain ⟨z, y, xs, r, ob, es, ep, e, c⟩ := x;exact ⟨z, y, xs, Paired.mapP r fun p q z => ⟨z.1, ht _ _ z.2.1, z.2.2⟩, ob, es, ep, k _ _ (.inl rfl) e, c⟩
  | set S n => obtain ⟨ob, es, ep, t, e, c⟩ := x; exact ⟨ob, es, ep, t, k _ _ (.inl rfl) e, c⟩
  | ins C dx fs =>
    obtain ⟨d, z, ne, e, mA, ⟨od, es, ep, e2, c⟩, r⟩ := x;exact ⟨ho _ d, z, ne, k _ _ (.inl rfl) e, mA, ⟨od, es, ep, k _ _ (.inr d) e2, c⟩, r⟩
  | own y => obtain ⟨ob, e⟩ := x; exact ⟨ob, k _ _ (.inl rfl) e⟩
  | xd fs => obtain ⟨mA, ⟨od, es, ep, e, c⟩, r⟩ := x; exact ⟨mA, ⟨od, es, ep, k _ _ (.inl rfl) e, c⟩, r⟩
  | rng lo hi => obtain ⟨t, u, v, e⟩ := x; exact ⟨t, u, v, k _ _ (.inl rfl) e⟩
  | frz ob u ih => obtain ⟨e, q⟩ := x; exact ⟨k _ _ (.inl rfl) e, ih q⟩
  | tbl ps =>
    have e : h.get? a = some { cls := .none, data := .fields ps } := x
    show h'.get? a = some { cls := .none, data := .fields ps }
    exact k a _ (.inl rfl) e
  | met f y =>
    have e : h.get? a = some (PySem.W.methodObj (.ref f) (.ref y)) := x
    show h'.get? a = some (PySem.W.methodObj (.ref f) (.ref y))
    exact k a _ (.inl rfl) e
  | ext φ => obtain ⟨p, ⟨o, e⟩, st⟩ := x; exact ⟨st _ _ p fun o q => k _ _ (.inl rfl) q, ⟨o, k _ _ (.inl rfl) e⟩, st⟩
theorem HOk.lt (x : HOk P w H h) (e : H a = some o) : a < h.objs.size := (x a o e).lt
theorem HOk.fresh (x : HOk P w H h) (e : h.objs.size <= a) : H a = none := by
  cases q : H a with
  | none => rfl
  | some u => exact absurd (Zh (x.lt q) e) (ZJ _)
theorem HOk.kept (x : HOk P w H h) (k : ∀ b u, h.get? b = some u -> h'.get? b = some u) : HOk P w H h' := fun a o e =>
  (x a o e).stay (fun b u _ q => k b u q) (fun _ q => q) fun _ _ q => q
theorem HOk.laid (x : HOk P w H h) (k : ∀ b u, h.get? b = some u -> h'.get? b = some u) (hp : h.objs.size <= a) (new : ObjOk P w (upd H a o) h' a o) : HOk P w (upd H a o) h' := fun b u e => by
  have hn := x.fresh hp
  by_cases hb : b = a
  . subst hb; rw [zc] at e; cases e; exact new
  . rw [z8 hb] at e
    exact (x b u e).stay (fun c v _ q => k c v q) (fun c q => by rw [z8 (xb q hn)]; exact q) fun c xs q => by rw [z8 (xb q hn)]; exact q
end
def Rd (H : Hp) (a : Addr) (u : HO) : Prop := H a = some u \/ ∃ o, H a = some (.frz o u)
theorem Rd.of {H : Hp} {a : Addr} {u : HO} (h : H a = some u) : Rd H a u := .inl h
theorem Rd.ok {P : Program} {w : World} {H : Hp} {h : Heap} {a : Addr} {u : HO} (r : Rd H a u) (x : HOk P w H h) : ObjOk P w H h a u := by
  rcases r with r | ⟨o, r⟩
  . exact x a u r
  . obtain ⟨_, q⟩ := x a _ r
    exact q
def Mut : Option HO -> Prop
  | some (.lst _) => True
  | some (.dK _) => True
  | some (.dT _) => True
  | some (.set _ _) => True
  | some (.ins _ _ _) => True
  | some (.ext _) => True
  | _ => False
section
variable {P : Program} {w : World} {H : Hp} {h h' : Heap} {x e : Addr} {o' : HO}
theorem HOk.write (ok : HOk P w H h) (mu : Mut (H x)) (he : e = x \/ H e = some (.own x)) (k : ∀ b u, b ≠ e -> h.get? b = some u -> h'.get? b = some u) (heo : ∃ u, h'.get? e = some u)
    (new : ObjOk P w (upd H x o') h' x o') : HOk P w (upd H x o') h' := fun b u q => by
  have nown : ∀ c y, H c = some (.own y) -> c ≠ x := fun c y r z => by subst z; rw [r] at mu; exact mu
  have ntup : ∀ c xs, H c = some (.tup xs) -> c ≠ x := fun c xs r z => by subst z; rw [r] at mu; exact mu
  by_cases hb : b = x
  . subst hb; rw [zc] at q; cases q; exact new
  . rw [z8 hb] at q
    by_cases hbe : b = e
    . have q' : H b = some (.own x) := by
        rcases he with z | z
        . exact absurd (hbe.trans z) hb
        . rw [hbe]; exact z
      rw [q] at q'; cases q';obtain ⟨v, hv⟩ := heo;exact ⟨v, by rw [hbe]; exact hv⟩
    . refine (ok b u q).stay (fun c v hc r => k c v ?_ r) (fun c r => by rw [z8 (nown c b r)]; exact r) fun c xs r => by rw [z8 (ntup c xs r)]; exact r
      rcases hc with rfl | hc
      . exact hbe
      . rintro rfl
        rcases he with z | z
        . exact nown c b hc z
        . rw [hc] at z; cases z; exact hb rfl
end
structure Un (fs ex : List Addr) (H H' : Hp) (h h' : Heap) : Prop where
  keep : ∀ b o, h.get? b = some o -> H b = none -> b ∉ fs -> b ∉ ex -> h'.get? b = some o
  slot : ∀ b o, h.get? b = some o -> H b = none -> b ∈ fs -> b ∉ ex -> ∃ sl, h'.get? b = some { o with slots := sl }
  free : ∀ b o, h.get? b = some o -> H b = none -> b ∉ ex -> H' b = none
  there : ∀ b o, h.get? b = some o -> b ∉ ex -> ∃ o', h'.get? b = some o'
  tups : ∀ b xs, H b = some (.tup xs) -> H' b = some (.tup xs)
  frzs : ∀ b o u, H b = some (.frz o u) -> H' b = some (.frz o u)
  tbls : ∀ b ps, H b = some (.tbl ps) -> ∃ more, H' b = some (.tbl (ps ++ more))
section
variable {fs fs' ex ex' : List Addr} {H H1 H2 : Hp} {h h1 h2 h' : Heap} {a x e : Addr} {o : HO}
theorem Un.any (u : Un fs ex H H1 h h1) {b : Addr} {ob : Obj} (q : h.get? b = some ob) (n : H b = none) (hx : b ∉ ex) : ∃ sl, h1.get? b = some { ob with slots := sl } := by
  by_cases hb : b ∈ fs
  . exact u.slot b ob q n hb hx
  . exact ⟨ob.slots, u.keep b ob q n hb hx⟩
theorem Un.trans (a : Un fs ex H H1 h h1) (b : Un fs ex H1 H2 h1 h2) : Un fs ex H H2 h h2 where
  keep := fun c ob q n hc hx => b.keep c ob (a.keep c ob q n hc hx) (a.free c ob q n hx) hc hx
  slot := fun c ob q n hc hx => by
    obtain ⟨sl, e1⟩ := a.slot c ob q n hc hx;obtain ⟨sl', e2⟩ := b.slot c _ e1 (a.free c ob q n hx) hc hx;exact ⟨sl', e2⟩
  free := fun c ob q n hx => by
    obtain ⟨o', e1⟩ := a.there c ob q hx;exact b.free c o' e1 (a.free c ob q n hx) hx
  there := fun c ob q hx => by
    obtain ⟨o', e1⟩ := a.there c ob q hx;exact b.there c o' e1 hx
  tups := fun c xs q => b.tups c xs (a.tups c xs q)
  frzs := fun c ob xs q => b.frzs c ob xs (a.frzs c ob xs q)
  tbls := fun c ps q => by
    obtain ⟨m1, e1⟩ := a.tbls c ps q;obtain ⟨m2, e2⟩ := b.tbls c _ e1;exact ⟨m1 ++ m2, by rw [e2, Array.append_assoc]⟩
theorem Un.kept (k : ∀ b u, h.get? b = some u -> h'.get? b = some u) : Un fs ex H H h h' :=
  ⟨fun b ob q _ _ _ => k b ob q, fun b ob q _ _ _ => ⟨ob.slots, k b ob q⟩, fun _ _ _ n _ => n, fun b ob q _ => ⟨ob, k b ob q⟩, fun _ _ q => q, fun _ _ _ q => q, fun _ ps q => ⟨#[], by rw [q]; simp⟩⟩
theorem Un.refl : Un fs ex H H h h := Un.kept fun _ _ q => q
theorem Un.laid (k : ∀ b u, h.get? b = some u -> h'.get? b = some u) (hp : h.objs.size <= a) (hn : H a = none) : Un fs ex H (upd H a o) h h' where
  keep := fun b u q _ _ _ => k b u q
  slot := fun b u q _ _ _ => ⟨u.slots, k b u q⟩
  free := fun b u q n _ => by rw [z8 (Zs (Zh (Heap.lt_size q) hp))]; exact n
  there := fun b u q _ => ⟨u, k b u q⟩
  tups := fun b xs q => by rw [z8 (xb q hn)]; exact q
  frzs := fun b u xs q => by rw [z8 (xb q hn)]; exact q
  tbls := fun b ps q => ⟨#[], by rw [z8 (xb q hn), q]; simp⟩
theorem Un.write (mu : Mut (H x)) (he : e = x \/ H e = some (.own x)) (k : ∀ b u, b ≠ e -> h.get? b = some u -> h'.get? b = some u) (heo : ∃ u, h'.get? e = some u) : Un fs ex H (upd H x o) h h' := by
  have hx : ∀ b, H b = none -> b ≠ x := fun b n z => by subst z; rw [n] at mu; exact mu
  have hb : ∀ b, H b = none -> b ≠ e := fun b n z => by
    subst z
    rcases he with r | r
    . exact hx b n r
    . rw [n] at r; cases r
  have hm : ∀ b u, H b = some u -> ¬ Mut (some u) -> b ≠ x := fun b u q nm z => by subst z; rw [q] at mu; exact nm mu
  refine ⟨fun b u q n _ _ => k b u (hb b n) q, fun b u q n _ _ => ⟨u.slots, k b u (hb b n) q⟩, fun b u q n _ => by rw [z8 (hx b n)]; exact n, fun b u q _ => ?_,
    fun b xs q => by rw [z8 (hm b _ q fun z => z)]; exact q, fun b u xs q => by rw [z8 (hm b _ q fun z => z)]; exact q, fun b ps q => ⟨#[], by rw [z8 (hm b _ q fun z => z), q]; simp⟩⟩
  by_cases hbe : b = e
  . subst hbe; exact heo
  . exact ⟨u, k b u hbe q⟩
theorem Un.mono (u : Un fs ex H H1 h h1) (hs : ∀ b ∈ fs, b ∈ fs') (hx : ∀ b ∈ ex, b ∈ ex') : Un fs' ex' H H1 h h1 :=
  ⟨fun b ob q n hb he => u.keep b ob q n (fun z => hb (hs b z)) fun z => he (hx b z), fun _ _ q n _ he => u.any q n fun z => he (hx _ z), fun b ob q n he => u.free b ob q n fun z => he (hx b z), fun b ob q he => u.there b ob q fun z => he (hx b z), u.tups, u.frzs, u.tbls⟩
end
def trk (h : Heap) (H : Hp) : List Addr := (List.range h.objs.size).filter fun a => (H a).isSome
def hidT (h : Heap) (H : Hp) : Heap := PySem.W.hideAll h (trk h H)
theorem zef (h : Heap) (H : Hp) : (hidT h H).objs.size = h.objs.size := PySem.W.hideAll_size _ _
theorem zfe {h : Heap} {H : Hp} {b : Addr} {o : Obj} (e : h.get? b = some o) (n : H b = none) : (hidT h H).get? b = some o :=
  PySem.W.hideAll_get _ e fun hm => by
    have q : (H b).isSome = true := (Xa.mp hm).2;rw [n] at q; simp at q
theorem zg4 {h : Heap} {H : Hp} {b : Addr} {o : Obj} (e : (hidT h H).get? b = some o) : h.get? b = some o /\ H b = none := by
  have e' : h.get? b = some o := PySem.W.of_hideAll (trk h H) e;refine ⟨e', ?_⟩
  cases q : H b with
  | none => rfl
  | some x =>
    have hm : b ∈ trk h H := Xa.mpr ⟨Yb.mpr (Heap.lt_size e'), by simp [q]⟩;have z : (hidT h H).get? b = none := PySem.W.hideAll_none (trk h H) hm;rw [z] at e; cases e
def zhm (g h : Heap) (L : Addr) : List (Addr × Obj) := (List.range h.objs.size).filterMap fun a => if a = L \/ (g.get? a).isSome = true then none else (h.get? a).map fun o => (a, o)
def rest (g h : Heap) (L d : Addr) : List (Addr × Obj) := (zhm g h L).filter fun p => decide (p.1 ≠ d)
end L2
namespace L2
open PySem PySem.Spec PyProof.Rows
structure Mod (K : Fg) (mg : Str -> Option Value) (base : Heap) : Prop where
  kin : K.In base
  glob : base.Ns mainGlobals mg
  blt : ∃ mb, base.Ns builtinsNs mb /\ ∀ x : Str, x ≠ "__name__" -> mb x = bootBuiltins x
  nolimit : base.NoLimit
structure Cx where
  prog : Program
  w : World
  K : Fg
  mg : Str -> Option Value
  base : Heap
  A : Around
  N : List Str
  s₀ : Shared
  H₀ : Hp
  env : Env
  outer : List Env
  stack : List Env
  ex : List Addr
  fn : Str -> Bool
  calm : Bool
  pn : List (Addr × Obj)
  xe : Value -> Shared -> Prop
def frs (l : List Env) : List Addr := l.filterMap (·.frame)
abbrev Cx.fs (X : Cx) : List Addr := frs X.outer
def Vis (sc : Scope) (x : Str) : Prop := sc.names.lookup x = some .local \/ sc.names.lookup x = some .cell \/ sc.names.lookup x = some .free
def Loc (sc : Scope) (x : Str) : Prop := sc.names.lookup x = some .local \/ sc.names.lookup x = some .cell
def Look (env : Env) (h : Heap) (m : Str -> Option Value) (x : Str) (u : Value) : Prop :=
  (env.kindOf x = some .local /\ m x = some u) \/ ((env.kindOf x = some .cell \/ env.kindOf x = some .free) /\ ∃ c, env.cells.lookup x = some c /\ h.IsCell c (some u))
structure Cx.Ok (X : Cx) : Prop where
  mod : Mod X.K X.mg X.base
  kind : X.env.scope.kind = .function
  glob : X.env.globals = mainGlobals
  blt : X.env.builtins = builtinsNs
  above : X.s₀.heap.objs.size <= X.env.locals
  inj : ∀ x y c, X.env.cells.lookup x = some c -> X.env.cells.lookup y = some c -> x = y
  has : ∀ x, (X.env.kindOf x = some .cell \/ X.env.kindOf x = some .free) -> ∃ c, X.env.cells.lookup x = some c
  cab : ∀ x c, X.fn x = true -> X.env.cells.lookup x = some c -> X.s₀.heap.objs.size <= c
  hd : X.calm = true -> X.A.handled = none
  frames : X.A.frames = some X.stack
  stk : X.stack = X.outer \/ (X.stack = X.env :: X.outer /\ X.env.frame = some X.env.locals)
  exf : ∀ b ∈ X.ex, b ≠ X.env.locals /\ ∀ x c, X.env.cells.lookup x = some c -> c ≠ b
  bs : ∀ b o, X.base.get? b = some o -> X.s₀.heap.get? b = some o /\ X.H₀ b = none
  bsz : X.base.objs.size <= X.s₀.heap.objs.size
  noex : ∀ b o, X.base.get? b = some o -> b ∉ X.ex
  exfs : ∀ b ∈ X.ex, b ∉ X.fs
  funs : X.s₀.heap.FunFrames X.base X.outer
  frf : ∀ b ∈ X.fs, X.H₀ b = none
structure Inv (X : Cx) (pins : List (Addr × Obj)) (σ : List (Option V)) (H : Hp) (s : Shared) : Prop where
  ok : X.Ok
  os : s.os = X.s₀.os
  bare : AllBare s.gens
  base : Un X.fs X.ex X.H₀ H X.s₀.heap s.heap
  loc : ∃ m, s.heap.Ns X.env.locals m /\ ∀ (i : Nat) (x : Str) (v : V), X.N[i]? = some x -> σ[i]? = some (some v) -> Vis X.env.scope x -> ∃ u, RelV v u /\ Look X.env s.heap m x u
  cell : ∀ x c, X.env.cells.lookup x = some c -> ∃ v, s.heap.IsCell c v
  free : H X.env.locals = none
  freeC : ∀ x c, X.env.cells.lookup x = some c -> H c = none
  pin : ∀ p ∈ X.pn ++ pins, s.heap.get? p.1 = some p.2 /\ H p.1 = none /\ p.1 ≠ X.env.locals /\ p.1 ∉ X.fs /\ ∀ v, p.2.data ≠ .cell v
  hok : HOk X.prog X.w H s.heap
  len : σ.length = X.N.length
section
variable {X : Cx} {pins : List (Addr × Obj)} {σ : List (Option V)} {H H' : Hp} {s : Shared} {h' : Heap}
theorem Cx.Ok.nofr (ok : X.Ok) {b : Addr} {o : Obj} (e : X.base.get? b = some o) : b ∉ X.fs := fun hb => by
  have := (ok.funs.mem hb).1;rw [e] at this; cases this
theorem Inv.bs (I : Inv X pins σ H s) : ∀ b o, X.base.get? b = some o -> s.heap.get? b = some o /\ H b = none := fun b o e =>
  ⟨I.base.keep b o (I.ok.bs b o e).1 (I.ok.bs b o e).2 (I.ok.nofr e) (I.ok.noex b o e), I.base.free b o (I.ok.bs b o e).1 (I.ok.bs b o e).2 (I.ok.noex b o e)⟩
theorem Inv.bk (I : Inv X pins σ H s) : ∀ b o, X.base.get? b = some o -> s.heap.get? b = some o := fun b o e => (I.bs b o e).1
theorem Inv.mod (I : Inv X pins σ H s) : Mod X.K X.mg X.base := I.ok.mod
theorem Inv.kIn (I : Inv X pins σ H s) : X.K.In s.heap := I.ok.mod.kin.keeps I.bk
theorem Inv.nolimit (I : Inv X pins σ H s) : s.heap.NoLimit := I.ok.mod.nolimit.keeps I.bk
theorem Inv.fr (I : Inv X pins σ H s) : ∃ m, Fr X.base X.env.locals s.heap m :=
  let ⟨m, hn, _⟩ := I.loc
  ⟨m, hn, I.bk, Zd I.ok.bsz I.ok.above⟩
theorem Inv.lt (I : Inv X pins σ H s) : X.env.locals < s.heap.objs.size := let ⟨_, hn, _⟩ := I.loc; hn.lt
theorem Inv.sz (I : Inv X pins σ H s) : X.s₀.heap.objs.size <= s.heap.objs.size := Zd I.ok.above (YV I.lt)
theorem Inv.nofs (I : Inv X pins σ H s) {a : Addr} (h : s.heap.objs.size <= a) : a ∉ X.fs := fun hb => by
  obtain ⟨_, o, ho, _⟩ := I.ok.funs.mem hb;exact absurd (Zh (Heap.lt_size ho) (Zd I.sz h)) (ZJ _)
theorem Inv.cne (I : Inv X pins σ H s) : ∀ x c, X.env.cells.lookup x = some c -> c ≠ X.env.locals := fun x c e z => by
  obtain ⟨v, o, ho, hd⟩ := I.cell x c e;obtain ⟨m, ⟨o', es, ep, ho', hd', _⟩, _⟩ := I.loc;rw [z, ho'] at ho; cases ho; rw [hd'] at hd; cases hd
theorem Inv.funs (I : Inv X pins σ H s) : s.heap.FunFrames X.base X.outer := by
  have all : ∀ (l : List Env), (∀ b ∈ frs l, b ∈ X.fs) -> X.s₀.heap.FunFrames X.base l -> s.heap.FunFrames X.base l := by
    intro l
    induction l with
    | nil => intro _ _; trivial
    | cons env r ih =>
      intro hs hl;obtain ⟨hk, ⟨L, o, hf, hn, ho, hd⟩, hr⟩ := hl;have hL : L ∈ X.fs := hs L (by unfold frs; rw [YJ, hf]; exact ZA);obtain ⟨sl, e⟩ := I.base.slot L o ho (I.ok.frf L hL) hL fun z => I.ok.exfs L z hL
      exact ⟨hk, ⟨L, _, hf, hn, e, hd⟩, ih (fun b hb => hs b (by unfold frs; rw [YJ, hf]; exact Zv _ hb)) hr⟩
  exact all X.outer (fun _ hb => hb) I.ok.funs
theorem Inv.stack (I : Inv X pins σ H s) : s.heap.FunFrames X.base X.stack := by
  rcases I.ok.stk with e | ⟨e, hf⟩
  . rw [e]; exact I.funs
  . rw [e]
    obtain ⟨m, hn, _⟩ := I.loc;refine .cons (by rw [I.ok.kind]; decide) hf hn ?_ I.funs;exact Heap.get?_none_of_le (Zd I.ok.bsz I.ok.above)
theorem Inv.stkSub (I : Inv X pins σ H s) : ∀ b ∈ frs X.stack, b ∈ X.env.locals :: X.fs := fun b hb => by
  rcases I.ok.stk with e | ⟨e, hf⟩
  . rw [e] at hb; exact Zv _ hb
  . rw [e] at hb
    unfold frs at hb;rw [YJ, hf] at hb;exact hb
theorem Inv.stkFree (I : Inv X pins σ H s) : ∀ b ∈ frs X.stack, H b = none := fun b hb => by
  rcases ZK.mp (I.stkSub b hb) with e | hb
  . rw [e]; exact I.free
  . obtain ⟨_, o, ho, _⟩ := I.ok.funs.mem hb
    exact I.base.free b o ho (I.ok.frf b hb) fun z => I.ok.exfs b z hb
theorem Inv.step {g' : Array GenState} {t' : Nat} {d' : Drawn} {ch : List Addr} (I : Inv X pins σ H s)
    (hch : ∀ b ∈ ch, (b ∈ X.ex \/ X.s₀.heap.objs.size <= b) /\ b ≠ X.env.locals /\ (∀ x c, X.env.cells.lookup x = some c -> c ≠ b) /\ ∀ p ∈ X.pn ++ pins, p.1 ≠ b)
    (keep : ∀ b o, b ≠ X.env.locals -> b ∉ X.fs -> b ∉ ch -> s.heap.get? b = some o -> H b = none -> h'.get? b = some o)
    (slot : ∀ b o, b ≠ X.env.locals -> b ∈ X.fs -> b ∉ ch -> s.heap.get? b = some o -> H b = none -> ∃ sl, h'.get? b = some { o with slots := sl }) (free : ∀ b o, b ∉ ch -> s.heap.get? b = some o -> H b = none -> H' b = none)
    (there : ∀ b o, b ∉ ch -> s.heap.get? b = some o -> ∃ o', h'.get? b = some o')
    (tups : ∀ b xs, H b = some (.tup xs) -> H' b = some (.tup xs)) (frzs : ∀ b o u, H b = some (.frz o u) -> H' b = some (.frz o u)) (tbls : ∀ b ps, H b = some (.tbl ps) -> ∃ more, H' b = some (.tbl (ps ++ more)))
    (ns : ∀ m, s.heap.Ns X.env.locals m -> h'.Ns X.env.locals m) (hok : HOk X.prog X.w H' h') (hg : AllBare g') :
    Inv X pins σ H' { s with heap := h', gens := g', drawn := d', toks := t' } := by
  have neL : ∀ b o, X.s₀.heap.get? b = some o -> b ≠ X.env.locals := fun b o e => Zs (Zh (Heap.lt_size e) I.ok.above)
  have neC : ∀ b o, X.s₀.heap.get? b = some o -> b ∉ X.ex -> b ∉ ch := fun b o e hx hb => by
    rcases (hch b hb).1 with z | z
    . exact hx z
    . exact absurd (Zh (Heap.lt_size e) z) (ZJ _)
  have cellK : ∀ x c, X.env.cells.lookup x = some c -> ∀ v, s.heap.IsCell c v -> h'.IsCell c v := fun x c e v ⟨o, ho, hd⟩ => by
    have nch : c ∉ ch := fun z => (hch c z).2.2.1 x c e rfl
    by_cases hc : c ∈ X.fs
    . obtain ⟨sl, q⟩ := slot c o (I.cne x c e) hc nch ho (I.freeC x c e)
      exact ⟨_, q, hd⟩
    . exact ⟨o, keep c o (I.cne x c e) hc nch ho (I.freeC x c e), hd⟩
  refine ⟨I.ok, I.os, hg, ⟨fun b o e n hb hx => ?_, fun b o e n hb hx => ?_, fun b o e n hx => ?_, fun b o e hx => ?_, fun b xs e => tups b xs (I.base.tups b xs e), fun b o xs e => frzs b o xs (I.base.frzs b o xs e), fun b ps e => ?_⟩, ?_, fun x c e => ?_, ?_, fun x c e => ?_, fun p hp => ?_, hok, I.len⟩
  . exact keep b o (neL b o e) hb (neC b o e hx) (I.base.keep b o e n hb hx) (I.base.free b o e n hx)
  . obtain ⟨sl, e1⟩ := I.base.slot b o e n hb hx
    obtain ⟨sl', e2⟩ := slot b _ (neL b o e) hb (neC b o e hx) e1 (I.base.free b o e n hx);exact ⟨sl', e2⟩
  . obtain ⟨o', e1⟩ := I.base.there b o e hx
    exact free b o' (neC b o e hx) e1 (I.base.free b o e n hx)
  . obtain ⟨o', e1⟩ := I.base.there b o e hx
    exact there b o' (neC b o e hx) e1
  . obtain ⟨m1, e1⟩ := I.base.tbls b ps e
    obtain ⟨m2, e2⟩ := tbls b _ e1;exact ⟨m1 ++ m2, by rw [e2, Array.append_assoc]⟩
  . obtain ⟨m, hn, hl⟩ := I.loc
    refine ⟨m, ns m hn, fun i x v e1 e2 e3 => ?_⟩;obtain ⟨u, r, l⟩ := hl i x v e1 e2 e3;refine ⟨u, r, ?_⟩
    rcases l with l | ⟨k, c, e, z⟩
    . exact .inl l
    . exact .inr ⟨k, c, e, cellK x c e _ z⟩
  . obtain ⟨v, z⟩ := I.cell x c e
    exact ⟨v, cellK x c e v z⟩
  . obtain ⟨m, ⟨o, _, _, ho, _⟩, _⟩ := I.loc
    exact free _ o (fun z => (hch _ z).2.1 rfl) ho I.free
  . obtain ⟨v, o, ho, hd⟩ := I.cell x c e
    exact free c o (fun z => (hch c z).2.2.1 x c e rfl) ho (I.freeC x c e)
  . obtain ⟨e, n, ne, nf, d⟩ := I.pin p hp
    have nch : p.1 ∉ ch := fun z => (hch p.1 z).2.2.2 p hp rfl
    exact ⟨keep p.1 p.2 ne nf nch e n, free p.1 p.2 nch e n, ne, nf, d⟩
theorem Inv.un {t' : Nat} (I : Inv X pins σ H s) (u : Un X.fs [] H H' s.heap h') (hok : HOk X.prog X.w H' h') : Inv X pins σ H' { s with heap := h', toks := t' } := by
  obtain ⟨m, ⟨o, es, ep, ho, r⟩, _⟩ := id I.loc;obtain ⟨sl, hL⟩ := u.any ho I.free (by simp)
  exact I.step (g' := s.gens) (d' := s.drawn) (ch := []) (fun _ z => nomatch z) (fun b o _ hb _ e n => u.keep b o e n hb (by simp)) (fun b o _ hb _ e n => u.slot b o e n hb (by simp)) (fun b o _ e n => u.free b o e n (by simp)) (fun b o _ e => u.there b o e (by simp)) u.tups u.frzs u.tbls (fun m' hm => by
    obtain ⟨o', es', ep', ho', r'⟩ := hm;rw [ho] at ho'; cases ho'
    exact ⟨_, es', ep', hL, r'⟩) hok I.bare
theorem Inv.call {g' : Array GenState} {t' : Nat} {d' : Drawn} {ch : List Addr} (I : Inv X pins σ H s) (u : Un (frs X.stack) ch H H' s.heap h') (hok : HOk X.prog X.w H' h') (hg : AllBare g')
    (hch : ∀ b ∈ ch, (b ∈ X.ex \/ X.s₀.heap.objs.size <= b) /\ b ≠ X.env.locals /\ (∀ x c, X.env.cells.lookup x = some c -> c ≠ b) /\ ∀ p ∈ X.pn ++ pins, p.1 ≠ b) :
    Inv X pins σ H' { s with heap := h', gens := g', drawn := d', toks := t' } := by
  obtain ⟨m, ⟨o, es, ep, ho, r⟩, _⟩ := id I.loc;obtain ⟨sl, hL⟩ := u.any ho I.free fun z => (hch _ z).2.1 rfl
  exact I.step (ch := ch) hch (fun b o hL hb hc e n => u.keep b o e n (fun z => (ZK.mp (I.stkSub b z)).elim hL hb) hc) (fun b o _ _ hc e n => u.any e n hc) (fun b o hc e n => u.free b o e n hc) (fun b o hc e => u.there b o e hc) u.tups u.frzs u.tbls (fun m' hm => by
    obtain ⟨o', es', ep', ho', r'⟩ := hm;rw [ho] at ho'; cases ho'
    exact ⟨_, es', ep', hL, r'⟩) hok hg
theorem Inv.turned {t' : Nat} {it : Addr} (I : Inv X pins σ H s) (k : ∀ b o, b ≠ it -> s.heap.get? b = some o -> h'.get? b = some o) (hn : H it = none) (hL : it ≠ X.env.locals)
    (h1 : it ∈ X.ex \/ X.s₀.heap.objs.size <= it) (h2 : ∀ x c, X.env.cells.lookup x = some c -> c ≠ it) (h3 : ∀ p ∈ X.pn ++ pins, p.1 ≠ it) : Inv X pins σ H { s with heap := h', toks := t' } := by
  have nit : ∀ b u, H b = some u -> b ≠ it := fun b u e z => by rw [z, hn] at e; cases e
  refine I.step (g' := s.gens) (d' := s.drawn) (ch := [it]) (fun b hb => ?_) (fun b o _ _ hc e _ => k b o (fun z => hc (by simp [z])) e) (fun b o _ _ hc e _ => ⟨o.slots, k b o (fun z => hc (by simp [z])) e⟩) (fun _ _ _ _ n => n)
    (fun b o hc e => ⟨o, k b o (fun z => hc (by simp [z])) e⟩) (fun _ _ e => e) (fun _ _ _ e => e) (fun b ps e => ⟨#[], by rw [e]; simp⟩) (fun m hm => ?_) (fun b u e => ?_) I.bare
  . have e : b = it := by simpa using hb
    subst e;exact ⟨h1, hL, h2, h3⟩
  . obtain ⟨o, es, ep, ho, r⟩ := hm
    exact ⟨o, es, ep, k _ o (Ne.symm hL) ho, r⟩
  . refine (I.hok b u e).stay (fun c v hc q => k c v ?_ q) (fun _ q => q) fun _ _ q => q
    rcases hc with z | z
    . rw [z]; exact nit b u e
    . exact nit c _ z
theorem Inv.tok (I : Inv X pins σ H s) (t : Nat) : Inv X pins σ H { s with toks := t } := I.un (h' := s.heap) (t' := t) Un.refl I.hok
theorem Inv.kept {t' : Nat} (I : Inv X pins σ H s) (k : ∀ b u, s.heap.get? b = some u -> h'.get? b = some u) : Inv X pins σ H { s with heap := h', toks := t' } := I.un (Un.kept k) (I.hok.kept k)
theorem Inv.laid {a : Addr} {o : HO} {t' : Nat} (I : Inv X pins σ H s) (k : ∀ b u, s.heap.get? b = some u -> h'.get? b = some u) (hp : s.heap.objs.size <= a) (new : ObjOk X.prog X.w (upd H a o) h' a o) :
    Inv X pins σ (upd H a o) { s with heap := h', toks := t' } := I.un (Un.laid k hp (I.hok.fresh hp)) (I.hok.laid k hp new)
theorem Inv.write {x e : Addr} {o : HO} {t' : Nat} (I : Inv X pins σ H s) (mu : Mut (H x)) (he : e = x \/ H e = some (.own x)) (k : ∀ b u, b ≠ e -> s.heap.get? b = some u -> h'.get? b = some u) (heo : ∃ u, h'.get? e = some u)
    (new : ObjOk X.prog X.w (upd H x o) h' x o) : Inv X pins σ (upd H x o) { s with heap := h', toks := t' } := I.un (Un.write mu he k heo) (I.hok.write mu he k heo new)
theorem Inv.weak {σ' : List (Option V)} (I : Inv X pins σ H s) (hl : σ'.length = σ.length) (w : ∀ (i : Nat) v, σ'[i]? = some (some v) -> σ[i]? = some (some v)) : Inv X pins σ' H s :=
  ⟨I.ok, I.os, I.bare, I.base, let ⟨m, hn, hl'⟩ := I.loc; ⟨m, hn, fun i x v e1 e2 e3 => hl' i x v e1 (w i v e2) e3⟩, I.cell, I.free, I.freeC, I.pin, I.hok, hl.trans I.len⟩
theorem Inv.pins_of {pins' : List (Addr × Obj)} (I : Inv X pins σ H s) (h : ∀ p ∈ pins', s.heap.get? p.1 = some p.2 /\ H p.1 = none /\ p.1 ≠ X.env.locals /\ p.1 ∉ X.fs /\ ∀ v, p.2.data ≠ .cell v) : Inv X pins' σ H s :=
  ⟨I.ok, I.os, I.bare, I.base, I.loc, I.cell, I.free, I.freeC, fun p hp => (ZH.mp hp).elim (fun z => I.pin p (ZX _ z)) (h p), I.hok, I.len⟩
theorem c9 {N : List Str} (hN : N.Nodup) {i j : Nat} {x : Str} (a : N[i]? = some x) (b : N[j]? = some x) : i = j := by
  obtain ⟨h1, e1⟩ := Zc.mp a;obtain ⟨h2, e2⟩ := Zc.mp b;exact (YD hN).mp (e1.trans e2.symm)
theorem ko {M : Model} {A : Around} {E : Value -> Shared -> Prop} {i : Nat} {x : Str} {v : V} {u : Value} {Q : Unit -> Shared -> Prop} (I : Inv X pins σ H s) (hN : X.N.Nodup) (hi : X.N[i]? = some x) (hx : Loc X.env.scope x) (r : RelV v u)
    (h : ∀ s', Inv X pins (σ.set i (some v)) H s' -> (∃ a, Heap.SameBut a s.heap s'.heap /\ (a = X.env.locals \/ X.env.cells.lookup x = some a)) -> Q () s') (hf : X.fn x = true \/ X.env.scope.names.lookup x = some .local := by first | exact .inl rfl | exact .inr rfl | assumption) : wpAny M A (storeName X.env x u) Q E s := by
  obtain ⟨m, hn, hl⟩ := id I.loc;have hcls : (X.env.scope.kind == .class || (X.env.scope.kind == .module && X.env.locals != X.env.globals)) = false := by rw [I.ok.kind]; rfl
  have hiσ : i < σ.length := by rw [I.len]; exact (Zc.mp hi).1
  have cne := I.cne
  have tracked : ∀ {a : Addr} {h' : Heap}, (∃ o, s.heap.get? a = some o /\ H a = none) -> Heap.SameBut a s.heap h' -> HOk X.prog X.w H h' := fun {a h'} ha hs b ob e => by
    obtain ⟨_, _, hfree⟩ := ha;refine (I.hok b ob e).stay (fun c w' hc q => (hs.2 c ?_).trans q) (fun _ q => q) fun _ _ q => q
    rintro rfl
    rcases hc with rfl | hc
    . rw [hfree] at e; cases e
    . rw [hfree] at hc; cases hc
  rcases hx with hk | hk
  . refine wpAny_storeName_local hk hn (fun h' hn' hs => ?_) hcls
    obtain ⟨oL, _, _, hoL, _⟩ := id hn;refine h _ ⟨I.ok, I.os, I.bare, ⟨fun b o e n hb hx => ?_, fun b o e n hb hx => ?_, I.base.free, fun b o e hx => ?_, I.base.tups, I.base.frzs, I.base.tbls⟩, ⟨_, hn', fun j y v' e1 e2 e3 => ?_⟩, fun y c e => ?_, I.free, I.freeC, fun p hp => ?_, tracked ⟨oL, hoL, I.free⟩ hs, by simpa using I.len⟩ ⟨_, hs, .inl rfl⟩
    . exact (hs.2 b (Zs (Zh (Heap.lt_size e) I.ok.above))).trans (I.base.keep b o e n hb hx)
    . obtain ⟨sl, e1⟩ := I.base.slot b o e n hb hx
      exact ⟨sl, (hs.2 b (Zs (Zh (Heap.lt_size e) I.ok.above))).trans e1⟩
    . obtain ⟨o', e1⟩ := I.base.there b o e hx
      exact ⟨o', (hs.2 b (Zs (Zh (Heap.lt_size e) I.ok.above))).trans e1⟩
    . by_cases hj : j = i
      . subst hj
        rw [hi] at e1; cases e1;rw [YA hiσ] at e2;cases e2;exact ⟨u, r, .inl ⟨hk, by simp⟩⟩
      . rw [YF (Ne.symm hj)] at e2
        obtain ⟨u', r', q⟩ := hl j y v' e1 e2 e3;refine ⟨u', r', ?_⟩
        rcases q with ⟨k, e⟩ | ⟨k, c, e, z⟩
        . refine .inl ⟨k, ?_⟩
          have : y ≠ x := fun e => hj (c9 hN e1 (e ▸ hi))
          simp [this, e]
        . exact .inr ⟨k, c, e, z.sameBut hs (cne y c e)⟩
    . obtain ⟨w', z⟩ := I.cell y c e
      exact ⟨w', z.sameBut hs (cne y c e)⟩
    . obtain ⟨e, n, ne, nf, d⟩ := I.pin p hp
      exact ⟨(hs.2 p.1 ne).trans e, n, ne, nf, d⟩
  . have hfn : X.fn x = true := by
      rcases hf with z | z
      . exact z
      . rw [z] at hk; cases hk
    obtain ⟨c, hc⟩ := I.ok.has x (.inl hk);obtain ⟨w', z⟩ := I.cell x c hc;refine wpAny_storeName_cell I.ok.kind hk hc z (fun h' hc' hs => ?_);obtain ⟨oc, hoc, hocd⟩ := id z;refine h { s with heap := h' } ⟨I.ok, I.os, I.bare, ⟨fun b o e n hb hx => ?_, fun b o e n hb hx => ?_, I.base.free, fun b o e hx => ?_, I.base.tups, I.base.frzs, I.base.tbls⟩, ⟨m, hn.sameBut hs (Ne.symm (cne x c hc)), fun j y v' e1 e2 e3 => ?_⟩, fun y c' e => ?_, I.free, I.freeC, fun p hp => ?_, tracked ⟨oc, hoc, I.freeC x c hc⟩ hs, by simpa using I.len⟩ ⟨c, hs, .inr hc⟩
    . exact (hs.2 b (Zs (Zh (Heap.lt_size e) (I.ok.cab x c hfn hc)))).trans (I.base.keep b o e n hb hx)
    . obtain ⟨sl, e1⟩ := I.base.slot b o e n hb hx
      exact ⟨sl, (hs.2 b (Zs (Zh (Heap.lt_size e) (I.ok.cab x c hfn hc)))).trans e1⟩
    . obtain ⟨o', e1⟩ := I.base.there b o e hx
      exact ⟨o', (hs.2 b (Zs (Zh (Heap.lt_size e) (I.ok.cab x c hfn hc)))).trans e1⟩
    . by_cases hj : j = i
      . subst hj
        rw [hi] at e1; cases e1;rw [YA hiσ] at e2;cases e2;exact ⟨u, r, .inr ⟨.inl hk, c, hc, hc'⟩⟩
      . rw [YF (Ne.symm hj)] at e2
        obtain ⟨u', r', q⟩ := hl j y v' e1 e2 e3;refine ⟨u', r', ?_⟩
        rcases q with q | ⟨k, c', e, z'⟩
        . exact .inl q
        . refine .inr ⟨k, c', e, z'.sameBut hs ?_⟩
          rintro rfl
          exact hj (c9 hN e1 (I.ok.inj _ _ _ e hc ▸ hi))
    . by_cases hcc : c' = c
      . subst hcc; exact ⟨_, hc'⟩
      . obtain ⟨w2, z2⟩ := I.cell y c' e
        exact ⟨w2, z2.sameBut hs hcc⟩
    . obtain ⟨e, n, ne, nf, d⟩ := I.pin p hp
      refine ⟨(hs.2 p.1 ?_).trans e, n, ne, nf, d⟩;intro q;rw [q, hoc] at e;have q' : oc = p.2 := Option.some.inj e;exact d w' (by rw [<- q']; exact hocd)
theorem br {M : Model} {A : Around} {E : Value -> Shared -> Prop} {i : Nat} {x : Str} {v : V} {u : Value} {Q : Unit -> Shared -> Prop} (I : Inv X pins σ H s) (hN : X.N.Nodup) (hi : X.N[i]? = some x) (hx : Loc X.env.scope x) (r : RelV v u)
    (h : ∀ s', Inv X pins (σ.set i (some v)) H s' -> Q () s') (hf : X.fn x = true \/ X.env.scope.names.lookup x = some .local := by first | exact .inl rfl | exact .inr rfl | assumption) : wpAny M A (storeName X.env x u) Q E s :=
  ko I hN hi hx r (fun s' I' _ => h s' I') hf
theorem Inv.call' {s' : Shared} {ch : List Addr} (I : Inv X pins σ H s) (ho : s'.os = s.os) (u : Un (frs X.stack) ch H H' s.heap s'.heap) (hok : HOk X.prog X.w H' s'.heap) (hg : AllBare s'.gens)
    (hch : ∀ b ∈ ch, (b ∈ X.ex \/ X.s₀.heap.objs.size <= b) /\ b ≠ X.env.locals /\ (∀ x c, X.env.cells.lookup x = some c -> c ≠ b) /\ ∀ p ∈ X.pn ++ pins, p.1 ≠ b) : Inv X pins σ H' s' := by
  obtain ⟨h', g', d', t', o'⟩ := s';have e : o' = s.os := ho;subst e;exact I.call (g' := g') (t' := t') (d' := d') u hok hg hch
end
abbrev XK := Value -> Option Addr -> Hp -> Prop
abbrev St := List (Option V)
abbrev VK := V -> Hp -> Prop
abbrev TE := St -> Hp -> VK -> Prop
abbrev TT := St -> Hp -> (Bool -> Hp -> Prop) -> Prop
abbrev TA := St -> Hp -> (List V -> Hp -> Prop) -> Prop
structure Ends where
  nx : St -> Hp -> Prop
  rt : VK
  bk : St -> Hp -> Prop := fun _ _ => False
  ct : St -> Hp -> Prop := fun _ _ => False
abbrev TS := Ends -> St -> Hp -> Prop
def EP (X : Cx) (pins : List (Addr × Obj)) (σ : St) (Q : VK) (u : Value) (s' : Shared) : Prop := ∃ v H', Inv X pins σ H' s' /\ RelV v u /\ Q v H'
def TP (X : Cx) (pins : List (Addr × Obj)) (σ : St) (Q : Bool -> Hp -> Prop) (b : Bool) (s' : Shared) : Prop := ∃ H', Inv X pins σ H' s' /\ Q b H'
def AP (X : Cx) (pins : List (Addr × Obj)) (σ : St) (Q : List V -> Hp -> Prop) (us : List Value) (s' : Shared) : Prop := ∃ vs H', Inv X pins σ H' s' /\ Vals vs us /\ Q vs H'
def SP (X : Cx) (pins : List (Addr × Obj)) (D : Ends) (f : Flow) (s' : Shared) : Prop :=
  match f with
  | .next => ∃ σ' H', Inv X pins σ' H' s' /\ D.nx σ' H'
  | .brk => ∃ σ' H', Inv X pins σ' H' s' /\ D.bk σ' H'
  | .cont => ∃ σ' H', Inv X pins σ' H' s' /\ D.ct σ' H'
  | .ret u => ∃ v σ' H', Inv X pins σ' H' s' /\ RelV v u /\ D.rt v H'
def PE (X : Cx) (e : Expr) (t : TE) : Prop :=
  ∀ (pins : List (Addr × Obj)) (s : Shared) (σ : St) (H : Hp) (Q : VK), Inv X pins σ H s -> t σ H Q -> wpAny (model X.prog X.w) X.A (eval e X.env) (EP X pins σ Q) X.xe s
def PT (X : Cx) (e : Expr) (t : TT) : Prop :=
  ∀ (pins : List (Addr × Obj)) (s : Shared) (σ : St) (H : Hp) (Q : Bool -> Hp -> Prop), Inv X pins σ H s -> t σ H Q -> wpAny (model X.prog X.w) X.A (isTrue e X.env (eval e X.env)) (TP X pins σ Q) X.xe s
def PW (X : Cx) (e : Expr) (t : TT) : Prop :=
  ∀ (whole : Sem Value) (pins : List (Addr × Obj)) (s : Shared) (σ : St) (H : Hp) (Q : Bool -> Hp -> Prop), Inv X pins σ H s -> t σ H Q -> wpAny (model X.prog X.w) X.A (isTrue e X.env whole) (TP X pins σ Q) X.xe s
theorem PW.pt {X : Cx} {e : Expr} {t : TT} (h : PW X e t) : PT X e t := h _
def PA (X : Cx) (es : List Expr) (t : TA) : Prop :=
  ∀ (pos : Pos) (pins : List (Addr × Obj)) (s : Shared) (σ : St) (H : Hp) (Q : List V -> Hp -> Prop), Inv X pins σ H s -> t σ H Q -> wpAny (model X.prog X.w) X.A (spliced (backTo pos (starEach es X.env))) (AP X pins σ Q) X.xe s
def PS (X : Cx) (st : Stmt) (t : TS) : Prop :=
  ∀ (pins : List (Addr × Obj)) (s : Shared) (σ : St) (H : Hp) (D : Ends), Inv X pins σ H s -> t D σ H -> wpAny (model X.prog X.w) X.A (exec st X.env) (SP X pins D) X.xe s
def PSs (X : Cx) (st : List Stmt) (t : TS) : Prop :=
  ∀ (pins : List (Addr × Obj)) (s : Shared) (σ : St) (H : Hp) (D : Ends), Inv X pins σ H s -> t D σ H -> wpAny (model X.prog X.w) X.A (execs st X.env) (SP X pins D) X.xe s
theorem thn {α : Type} {t : Sem α} {Q Q' : α -> Shared -> Prop} {M : Model} {A : Around} {E : Value -> Shared -> Prop} {s : Shared} (h : wpAny M A t Q E s) (hQ : ∀ a s, Q a s -> Q' a s) : wpAny M A t Q' E s := wpAny_mono h hQ fun _ _ x => x
end L2
namespace L2
open PySem PySem.Spec PyProof.Rows
section
variable {X : Cx}
def tVar (i : Nat) : TE := fun σ H Q => ∃ v, σ[i]? = some (some v) /\ Q v H
def tC (v : V) : TE := fun _ H Q => Q v H
theorem pe_var {i : Nat} {x : Str} {pos : Pos} (hN : X.N[i]? = some x) (hv : Vis X.env.scope x) (hd : (x == ("__debug__" : Str)) = false := by decide) (hcd : (x == ("__classdict__" : Str)) = false := by decide) : PE X (.Name x pos) (tVar i) := by
  intro pins s σ H Q I h;obtain ⟨v, e, h⟩ := h;obtain ⟨m, hn, hl⟩ := I.loc;obtain ⟨u, r, l⟩ := hl i x v hN e hv;have fin : EP X pins σ Q u s := ⟨v, H, I, r, h⟩
  rcases l with ⟨hk, hm⟩ | ⟨hk, c, hc, hcell⟩
  . exact wpAny_Name (wpAny_loadName_local I.ok.kind hk hn hm fin) hd
  . rcases hk with hk | hk
    . exact wpAny_Name (wpAny_loadName_cell I.ok.kind hk hc hcell fin) hd
    . exact wpAny_Name (wpAny_loadName_free I.ok.kind hk hc hcell fin hcd) hd
theorem zd {i j pos} : PE X (.Constant (.int i) j pos) (tC (.int i)) := fun _ _ _ H _ I h => wpAny_Constant_int ⟨.int i, H, I.tok _, ⟨_, rfl⟩, h⟩
theorem vz {b j pos} : PE X (.Constant (.bool b) j pos) (tC (.bl b)) := fun _ _ _ H _ I h => Constant_bool ⟨.bl b, H, I, rfl, h⟩
theorem qf {j pos} : PE X (.Constant .none j pos) (tC .non) := fun _ _ _ H _ I h => Constant_none ⟨.non, H, I, rfl, h⟩
theorem zm {x j pos} : PE X (.Constant (.str x) j pos) (tC (.str x)) := fun _ _ _ H _ I h => Calls.Constant_str ⟨.str x, H, I.tok _, ⟨_, rfl⟩, h⟩
def Gl (X : Cx) (x : Str) : Prop := X.env.kindOf x = some .globalImplicit
theorem mf {E : Value -> Shared -> Prop} {pins : List (Addr × Obj)} {s : Shared} {σ : St} {H : Hp} {x : Str} {u : Value} {pos : Pos} {Q : Value -> Shared -> Prop} (I : Inv X pins σ H s) (hg : Gl X x) (hm : X.mg x = some u) (h : Q u s)
    (hd : (x == ("__debug__" : Str)) = false := by decide) : wpAny (model X.prog X.w) X.A (eval (.Name x pos) X.env) Q E s :=
  Calls.Name_function_global I.ok.kind hg (Calls.loadGlobal_global (by rw [I.ok.glob]; exact I.mod.glob.keeps I.bk) hm h) hd
theorem mt {E : Value -> Shared -> Prop} {pins : List (Addr × Obj)} {s : Shared} {σ : St} {H : Hp} {x : Str} {u : Value} {pos : Pos} {Q : Value -> Shared -> Prop} (I : Inv X pins σ H s) (hg : Gl X x) (hm : X.mg x = none) (hv : bootBuiltins x = some u) (h : Q u s)
    (hn : x ≠ "__name__" := by decide) (hd : (x == ("__debug__" : Str)) = false := by decide) : wpAny (model X.prog X.w) X.A (eval (.Name x pos) X.env) Q E s := by
  obtain ⟨mb, h1, h2⟩ := I.mod.blt;exact Calls.Name_function_global I.ok.kind hg (Calls.loadGlobal_builtin (by rw [I.ok.glob]; exact I.mod.glob.keeps I.bk) hm (by rw [I.ok.blt]; exact h1.keeps I.bk) ((h2 x hn).trans hv) h) hd
theorem g0 {x : Str} {v : V} {u : Value} {pos : Pos} (hg : Gl X x) (hm : X.mg x = some u) (r : RelV v u) (hd : (x == ("__debug__" : Str)) = false := by decide) : PE X (.Name x pos) (tC v) :=
  fun _ _ _ H _ I h => mf I hg hm ⟨v, H, I, r, h⟩ hd
theorem zg5 {x : Str} {v : V} {u : Value} {pos : Pos} (hg : Gl X x) (hm : X.mg x = none) (hv : bootBuiltins x = some u) (r : RelV v u) (hn : x ≠ "__name__" := by decide) (hd : (x == ("__debug__" : Str)) = false := by decide) : PE X (.Name x pos) (tC v) :=
  fun _ _ _ H _ I h => mt I hg hm hv ⟨v, H, I, r, h⟩ hn hd
variable {a b : Expr} {ta tb : TE} {pos : Pos}
def tB (t : TE) : TT := fun σ H Q => t σ H fun x H1 => ∃ c, x = .bl c /\ Q c H1
theorem xg {e : Expr} {t : TE} (h : PE X e t) (he : ∀ whole, isTrue e X.env whole = (do let v <- whole; standAt e.pos; holding [v] (truthy v)) := by intro _; rfl) : PT X e (tB t) := by
  intro pins s σ H Q I hw;refine isTrue_plain (thn (h pins s σ H _ I hw) fun v s1 ⟨x, H1, I1, r1, q1⟩ => ?_) (he _);obtain ⟨d, rfl, q⟩ := q1;cases r1;exact wpAny_truthy_bool ⟨H1, I1, q⟩
variable {tA tB' : TT} {rest : List Expr}
def tAnd (t u : TT) : TT := fun σ H Q => t σ H fun c H1 => if c = true then u σ H1 Q else Q false H1
def tOr (t u : TT) : TT := fun σ H Q => t σ H fun c H1 => if c = true then Q true H1 else u σ H1 Q
def tNot (t : TT) : TT := fun σ H Q => t σ H fun c H1 => Q (!c) H1
theorem za2 (ha : PT X a tA) : PW X (.BoolOp .And [a] pos) tA := by
  intro wh pins s σ H Q I h;refine isTrue_and (thn (ha pins s σ H Q I h) fun c s1 e => ?_)
  cases c with
  | true => exact isTrue_and_nil e
  | false => exact e
theorem vd (ha : PT X a tA) : PW X (.BoolOp .Or [a] pos) tA := by
  intro wh pins s σ H Q I h;refine isTrue_or (thn (ha pins s σ H Q I h) fun c s1 e => ?_)
  cases c with
  | false => exact isTrue_or_nil e
  | true => exact e
theorem c5 (ha : PT X a tA) (hb : PW X (.BoolOp .And (b :: rest) pos) tB') : PW X (.BoolOp .And (a :: b :: rest) pos) (tAnd tA tB') := by
  intro wh pins s σ H Q I h;refine isTrue_and (thn (ha pins s σ H _ I h) fun c s1 ⟨H1, I1, q1⟩ => ?_)
  cases c with
  | true => exact hb wh pins s1 σ H1 Q I1 q1
  | false => exact ⟨H1, I1, q1⟩
theorem v9 (ha : PT X a tA) (hb : PW X (.BoolOp .Or (b :: rest) pos) tB') : PW X (.BoolOp .Or (a :: b :: rest) pos) (tOr tA tB') := by
  intro wh pins s σ H Q I h;refine isTrue_or (thn (ha pins s σ H _ I h) fun c s1 ⟨H1, I1, q1⟩ => ?_)
  cases c with
  | true => exact ⟨H1, I1, q1⟩
  | false => exact hb wh pins s1 σ H1 Q I1 q1
theorem xn (ha : PT X a tA) : PT X (.UnaryOp .Not a pos) (tNot tA) := by
  intro pins s σ H Q I h;exact isTrue_not (ha pins s σ H (fun c H1 => Q (!c) H1) I h)
def tAndV (ta tb : TE) : TE := fun σ H Q => ta σ H fun x H1 => ∃ c, x = .bl c /\ if c = true then tb σ H1 Q else Q (.bl false) H1
def tOrV (ta tb : TE) : TE := fun σ H Q => ta σ H fun x H1 => ∃ c, x = .bl c /\ if c = true then Q (.bl true) H1 else tb σ H1 Q
def tNotV (ta : TE) : TE := fun σ H Q => ta σ H fun x H1 => ∃ c, x = .bl c /\ Q (.bl (!c)) H1
theorem vq {op} {t : TE} (h : PE X a t) : PE X (.BoolOp op [a] pos) t := fun pins s σ H Q I hw => BoolOp_one (h pins s σ H Q I hw)
theorem uw (ha : PE X a ta) (hb : PE X (.BoolOp .And (b :: rest) pos) tb) : PE X (.BoolOp .And (a :: b :: rest) pos) (tAndV ta tb) := by
  intro pins s σ H Q I h;refine BoolOp_and (thn (ha pins s σ H _ I h) fun v s1 ⟨x, H1, I1, r1, q1⟩ => ?_);obtain ⟨c, rfl, q1⟩ := q1;cases r1;refine wpAny_truthy_bool ?_
  cases c with
  | true => exact hb pins s1 σ H1 Q I1 q1
  | false => exact ⟨.bl false, H1, I1, rfl, q1⟩
theorem pe_or (ha : PE X a ta) (hb : PE X (.BoolOp .Or (b :: rest) pos) tb) : PE X (.BoolOp .Or (a :: b :: rest) pos) (tOrV ta tb) := by
  intro pins s σ H Q I h;refine BoolOp_or (thn (ha pins s σ H _ I h) fun v s1 ⟨x, H1, I1, r1, q1⟩ => ?_);obtain ⟨c, rfl, q1⟩ := q1;cases r1;refine wpAny_truthy_bool ?_
  cases c with
  | false => exact hb pins s1 σ H1 Q I1 q1
  | true => exact ⟨.bl true, H1, I1, rfl, q1⟩
theorem gf (ha : PE X a ta) : PE X (.UnaryOp .Not a pos) (tNotV ta) := by
  intro pins s σ H Q I h;refine UnaryOp_ (thn (ha pins s σ H _ I h) fun v s1 ⟨x, H1, I1, r1, q1⟩ => ?_);obtain ⟨c, rfl, q1⟩ := q1;cases r1;exact not_of (wpAny_truthy_bool ⟨.bl (!c), H1, I1, rfl, q1⟩)
def tIf (t : TT) (ta tb : TE) : TE := fun σ H Q => t σ H fun c H1 => if c = true then ta σ H1 Q else tb σ H1 Q
theorem zfx {c : Expr} (hc : PT X c tA) (ha : PE X a ta) (hb : PE X b tb) : PE X (.IfExp c a b pos) (tIf tA ta tb) := by
  intro pins s σ H Q I h;refine wpAny_IfExp (thn (hc pins s σ H _ I h) fun d s1 ⟨H1, I1, q1⟩ => ?_)
  cases d with
  | true => exact ha pins s1 σ H1 Q I1 q1
  | false => exact hb pins s1 σ H1 Q I1 q1
end
end L2
namespace L2
open PySem PySem.Spec PyProof.Rows
def SqL (K : Fg) (H : Hp) (a : Addr) (xs : List V) : Prop :=
  Rd H a (.lst xs) \/
    ∃ (o : Obj) (its : Array Value) (n : Nat), K.lookup a = some o /\ o.cls = .type "list" /\ o.dict = none /\ o.data = .seq its n /\ its.size <= sizeLine /\ Vals xs its.toList
def SqT (K : Fg) (H : Hp) (a : Addr) (xs : List V) : Prop :=
  Rd H a (.tup xs) \/
    ∃ (o : Obj) (its : Array Value) (n : Nat), K.lookup a = some o /\ o.cls = .type "tuple" /\ o.data = .seq its n /\ its.size <= sizeLine /\ Vals xs its.toList
def absV : Value -> Option V
  | .none => some .non
  | .bool b => some (.bl b)
  | .int i _ => some (.int i)
  | .str x _ => some (.str x)
  | .bytes b _ => some (.byt b)
  | .float b _ => some (.flt b)
  | .ref a => some (.ref a)
  | .type n => some (.ty n)
  | _ => none
theorem RelV.abs {x : V} {u : Value} (r : RelV x u) : absV u = some x := by
  cases x with
  | non => cases r; rfl
  | bl _ => cases r; rfl
  | int _ => obtain ⟨t, rfl⟩ := r; rfl
  | str _ => obtain ⟨t, rfl⟩ := r; rfl
  | byt _ => obtain ⟨t, rfl⟩ := r; rfl
  | flt _ => obtain ⟨t, rfl⟩ := r; rfl
  | ref _ => cases r; rfl
  | ty _ => cases r; rfl
theorem RelV.inj {x y : V} {u : Value} (r : RelV x u) (q : RelV y u) : x = y := Option.some.inj (r.abs.symm.trans q.abs)
theorem Vals.inj : ∀ {xs ys : List V} {us : List Value}, Vals xs us -> Vals ys us -> xs = ys
  | _, _, _, .nil, .nil => rfl
  | _, _, _, .cons r t, .cons r' t' => by rw [r.inj r', Vals.inj t t']
section
variable {X : Cx} {pins : List (Addr × Obj)} {σ : St} {H : Hp} {s : Shared} {a : Addr} {xs ys : List V}
theorem SqL.of {K : Fg} (h : H a = some (.lst xs)) : SqL K H a xs := .inl (.inl h)
theorem SqT.of {K : Fg} (h : H a = some (.tup xs)) : SqT K H a xs := .inl (.inl h)
theorem Inv.list (I : Inv X pins σ H s) (h : SqL X.K H a xs) : ∃ its : List Value, Vals xs its /\ PlainL s.heap a its.toArray /\ xs.length <= sizeLine := by
  rcases h with h | ⟨o, its, n, hk, hc, hd, hs, hz, r⟩
  . obtain ⟨z, its, n, r, e⟩ := h.ok I.hok
    exact ⟨its, r, ⟨_, n, e, rfl, rfl, rfl⟩, z⟩
  . refine ⟨its.toList, r, ⟨o, n, I.kIn a o hk, hc, hd, by simpa using hs⟩, ?_⟩
    have e := r.length;simp only [Yj] at e;omega
theorem Inv.tuple (I : Inv X pins σ H s) (h : SqT X.K H a xs) : ∃ its : List Value, Vals xs its /\ IsTup s.heap a its.toArray /\ xs.length <= sizeLine := by
  rcases h with h | ⟨o, its, n, hk, hc, hs, hz, r⟩
  . obtain ⟨z, its, r, p⟩ := h.ok I.hok
    exact ⟨its, r, p.tup, z⟩
  . refine ⟨its.toList, r, ⟨o, I.kIn a o hk, hc, n, by simpa using hs⟩, ?_⟩
    have e := r.length;simp only [Yj] at e;omega
theorem Inv.list_inj (I : Inv X pins σ H s) (h : SqL X.K H a xs) (h' : SqL X.K H a ys) : xs = ys := by
  obtain ⟨its, r, ⟨o, n, e, _, _, d⟩, _⟩ := I.list h;obtain ⟨its', r', ⟨o', n', e', _, _, d'⟩, _⟩ := I.list h';rw [e] at e'; cases e';rw [d] at d'
  injection d' with d1 _
  have : its = its' := by simpa using congrArg Array.toList d1
  subst this;exact r.inj r'
theorem Inv.tuple_inj (I : Inv X pins σ H s) (h : SqT X.K H a xs) (h' : SqT X.K H a ys) : xs = ys := by
  obtain ⟨its, r, ⟨o, e, _, n, d⟩, _⟩ := I.tuple h;obtain ⟨its', r', ⟨o', e', _, n', d'⟩, _⟩ := I.tuple h';rw [e] at e'; cases e';rw [d] at d'
  injection d' with d1 _
  have : its = its' := by simpa using congrArg Array.toList d1
  subst this;exact r.inj r'
end
abbrev Cx.wish (X : Cx) (E : Value -> Shared -> Prop) : Cx := { X with xe := E }
abbrev Cx.nox (X : Cx) : Cx := X.wish fun _ _ => False
theorem Cx.Ok.wish {X : Cx} (ok : X.Ok) (E : Value -> Shared -> Prop) : (X.wish E).Ok :=
  ⟨ok.mod, ok.kind, ok.glob, ok.blt, ok.above, ok.inj, ok.has, ok.cab, ok.hd, ok.frames, ok.stk, ok.exf, ok.bs, ok.bsz, ok.noex, ok.exfs, ok.funs, ok.frf⟩
theorem Cx.Ok.unwish {X : Cx} {E : Value -> Shared -> Prop} (ok : (X.wish E).Ok) : X.Ok :=
  ⟨ok.mod, ok.kind, ok.glob, ok.blt, ok.above, ok.inj, ok.has, ok.cab, ok.hd, ok.frames, ok.stk, ok.exf, ok.bs, ok.bsz, ok.noex, ok.exfs, ok.funs, ok.frf⟩
section
variable {X : Cx} {pins : List (Addr × Obj)} {σ : St} {H : Hp} {s : Shared} {E : Value -> Shared -> Prop}
theorem Inv.wish (I : Inv X pins σ H s) (E : Value -> Shared -> Prop) : Inv (X.wish E) pins σ H s := ⟨I.ok.wish E, I.os, I.bare, I.base, I.loc, I.cell, I.free, I.freeC, I.pin, I.hok, I.len⟩
theorem Inv.unwish (I : Inv (X.wish E) pins σ H s) : Inv X pins σ H s := ⟨I.ok.unwish, I.os, I.bare, I.base, I.loc, I.cell, I.free, I.freeC, I.pin, I.hok, I.len⟩
theorem SP.unwish {D : Ends} {f : Flow} {s' : Shared} (h : SP (X.wish E) pins D f s') : SP X pins D f s' := by
  cases f with
  | next => obtain ⟨σ', H', I, q⟩ := h; exact ⟨σ', H', I.unwish, q⟩
  | brk => obtain ⟨σ', H', I, q⟩ := h; exact ⟨σ', H', I.unwish, q⟩
  | cont => obtain ⟨σ', H', I, q⟩ := h; exact ⟨σ', H', I.unwish, q⟩
  | ret u => obtain ⟨v, σ', H', I, r, q⟩ := h; exact ⟨v, σ', H', I.unwish, r, q⟩
theorem PE.nox {e : Expr} {t : TE} (h : PE X.nox e t) : PE X e t := fun pins s σ H Q I hw =>
  wpAny_mono (h pins s σ H Q (I.wish _) hw) (fun _ _ ⟨v, H', I', r, q⟩ => ⟨v, H', I'.unwish, r, q⟩) fun _ _ z => False.elim z
theorem PT.nox {e : Expr} {t : TT} (h : PT X.nox e t) : PT X e t := fun pins s σ H Q I hw =>
  wpAny_mono (h pins s σ H Q (I.wish _) hw) (fun _ _ ⟨H', I', q⟩ => ⟨H', I'.unwish, q⟩) fun _ _ z => False.elim z
theorem PSs.nox {st : List Stmt} {t : TS} (h : PSs X.nox st t) : PSs X st t := fun pins s σ H D I hw =>
  wpAny_mono (h pins s σ H D (I.wish _) hw) (fun _ _ q => q.unwish) fun _ _ z => False.elim z
end
section
variable {X : Cx} {st : Stmt} {rest : List Stmt} {t u : TS} {e : Expr} {te : TE} {pos : Pos}
def tNext : TS := fun D σ H => D.nx σ H
def tSeq (t u : TS) : TS := fun D σ H => t { D with nx := u D } σ H
theorem zz : PSs X [] tNext := fun _ _ σ H _ I h => wpAny_execs_nil ⟨σ, H, I, h⟩
theorem ze (h1 : PS X st t) (h2 : PSs X rest u) : PSs X (st :: rest) (tSeq t u) := by
  intro pins s σ H D I h;refine wpAny_execs_cons (thn (h1 pins s σ H { D with nx := u D } I h) fun f s1 q => ?_)
  cases f with
  | next =>
    obtain ⟨σ', H', I', q⟩ := q;exact h2 pins s1 σ' H' D I' q
  | ret v => exact q
  | brk => exact q
  | cont => exact q
theorem zf (h1 : PS X st t) : PSs X [st] t := by
  intro pins s σ H D I h;refine wpAny_execs_cons (thn (h1 pins s σ H D I h) fun f s1 q => ?_)
  cases f with
  | next => exact wpAny_execs_nil q
  | ret v => exact q
  | brk => exact q
  | cont => exact q
def tBreak : TS := fun D σ H => D.bk σ H
def tCont : TS := fun D σ H => D.ct σ H
theorem Inv.quiet {pins : List (Addr × Obj)} {σ : St} {H : Hp} {s : Shared} (I : Inv X pins σ H s) : interactive X.env = false := by simp [interactive, I.ok.kind]
def tDrop (te : TE) : TS := fun D σ H => te σ H fun _ H1 => D.nx σ H1
theorem ul (he : PE X e te) (hs : swapsWith e none pos.line X.env = pure false := by rfl) : PS X (.Expr e pos) (tDrop te) := by
  intro pins s σ H D I h;exact wpAny_Expr_any (thn (he pins s σ H _ I h) fun v s1 ⟨x, H1, I1, r1, q1⟩ => ⟨σ, H1, I1, q1⟩) I.quiet hs
def tRet (te : TE) : TS := fun D σ H => te σ H D.rt
theorem zq (he : PE X e te) : PS X (.Return (some e) pos) (tRet te) := by
  intro pins s σ H D I h;exact wpAny_Return_some (thn (he pins s σ H _ I h) fun v s1 ⟨x, H1, I1, r1, q1⟩ => ⟨x, σ, H1, I1, r1, q1⟩)
def tRetN : TS := fun D _ H => D.rt .non H
def tIfS (c : TT) (t u : TS) : TS := fun D σ H => c σ H fun b H1 => if b = true then t D σ H1 else u D σ H1
theorem yd {c : Expr} {a b : List Stmt} {tc : TT} (hc : PT X c tc) (ha : PSs X a t) (hb : PSs X b u) : PS X (.If c a b pos) (tIfS tc t u) := by
  intro pins s σ H D I h;refine wpAny_If (thn (hc pins s σ H _ I h) fun d s1 ⟨H1, I1, q1⟩ => ?_)
  cases d with
  | true => exact ha pins s1 σ H1 D I1 q1
  | false => exact hb pins s1 σ H1 D I1 q1
end
abbrev TG := V -> St -> Hp -> (St -> Hp -> Prop) -> Prop
abbrev TGs := List V -> St -> Hp -> (St -> Hp -> Prop) -> Prop
def PG (X : Cx) (target : Expr) (t : TG) : Prop :=
  ∀ (pins : List (Addr × Obj)) (s : Shared) (σ : St) (H : Hp) (v : V) (u : Value) (Q : St -> Hp -> Prop), Inv X pins σ H s -> RelV v u -> t v σ H Q ->
    wpAny (model X.prog X.w) X.A (assign target X.env u) (fun _ s' => ∃ σ' H', Inv X pins σ' H' s' /\ Q σ' H') X.xe s
def PGs (X : Cx) (ts : List Expr) (t : TGs) : Prop :=
  ∀ (pins : List (Addr × Obj)) (s : Shared) (σ : St) (H : Hp) (vs : List V) (us : List Value) (Q : St -> Hp -> Prop), Inv X pins σ H s -> Vals vs us -> t vs σ H Q ->
    wpAny (model X.prog X.w) X.A (assignInOrder ((assignEach ts X.env).map (·.2)) us) (fun _ s' => ∃ σ' H', Inv X pins σ' H' s' /\ Q σ' H') X.xe s
abbrev TSet := V -> V -> V -> Hp -> (Hp -> Prop) -> Prop
abbrev TIp := V -> V -> Hp -> VK -> Prop
section
variable {X : Cx} {pos : Pos}
def zb0 (i : Nat) : TG := fun v σ H Q => Q (σ.set i (some v)) H
theorem zx {i : Nat} {x : Str} (hN : X.N.Nodup) (hi : X.N[i]? = some x) (hx : Loc X.env.scope x) (hf : X.fn x = true \/ X.env.scope.names.lookup x = some .local := by first | exact .inl rfl | exact .inr rfl | assumption) : PG X (.Name x pos) (zb0 i) := by
  intro pins s σ H v u Q I r h;exact wpAny_assign_Name (br I hN hi hx r (fun s' I' => ⟨_, H, I', h⟩) hf)
def gNil : TGs := fun vs σ H Q => vs = [] /\ Q σ H
def gCons (t : TG) (u : TGs) : TGs := fun vs σ H Q => ∃ v r, vs = v :: r /\ t v σ H fun σ' H' => u r σ' H' Q
theorem fc : PGs X [] gNil := by
  intro pins s σ H vs us Q I r h;obtain ⟨e, h⟩ := h;subst e;cases r;exact assignInOrder_nil ⟨σ, H, I, h⟩
theorem sw {e : Expr} {es : List Expr} {t : TG} {u : TGs} (h1 : PG X e t) (h2 : PGs X es u)
    (hs : (assignEach (e :: es) X.env).map (·.2) = assign e X.env :: (assignEach es X.env).map (·.2) := by rfl) : PGs X (e :: es) (gCons t u) := by
  intro pins s σ H vs us Q I r h;obtain ⟨v, vr, e1, h⟩ := h;subst e1
  cases r with
  | cons r rr =>
    rw [hs];refine assignInOrder_cons (thn (h1 pins s σ H _ _ _ I r h) fun _ s1 ⟨σ1, H1, I1, q1⟩ => ?_);exact h2 pins s1 σ1 H1 _ _ Q I1 rr q1
def gTup (K : Fg) (n : Nat) (t : TGs) : TG := fun v σ H Q => ∃ a xs, v = .ref a /\ SqT K H a xs /\ xs.length = n /\ t xs σ H Q
theorem bw {es : List Expr} {k : Nat} {t : TGs} {n : Nat} (hc : X.calm = true) (h : PGs X es t)
    (hn : (assignEach es X.env).length = n := by rfl) (hst : (assignEach es X.env).findIdx? (·.1) = none := by rfl) : PG X (.Tuple es k pos) (gTup X.K n t) := by
  intro pins s σ H v u Q I r hw;obtain ⟨a, xs, e1, hq, hl, hw⟩ := hw;subst e1;cases r;obtain ⟨its, rv, ht, hz⟩ := I.tuple hq;refine assign_Tuple_tuple (I.ok.hd hc) ht (by simp [hn, <- hl, rv.length]) hst fun h' hx => ?_
  have I1 : Inv X pins σ H { s with heap := h' } := I.kept (t' := s.toks) fun b o e => hx b o (Zs (Heap.lt_size e)) e
  exact h pins _ σ H xs _ Q I1 (by simpa using rv) hw
def gSub (to ti : TE) (t : TSet) : TG := fun v σ H Q => to σ H fun o H1 => ti σ H1 fun i H2 => t o i v H2 fun H3 => Q σ H3
def tAsg (te : TE) (g : TG) : TS := fun D σ H => te σ H fun x H1 => g x σ H1 D.nx
theorem zv {i : Nat} {x : Str} {e : Expr} {te : TE} {pos' : Pos} (hN : X.N.Nodup) (hi : X.N[i]? = some x) (hx : Loc X.env.scope x) (he : PE X e te) (hs : swapsWith e (some (.Name x pos')) pos.line X.env = pure false := by rfl) (hf : X.fn x = true \/ X.env.scope.names.lookup x = some .local := by first | exact .inl rfl | exact .inr rfl | assumption) :
    PS X (.Assign [.Name x pos'] e pos) (tAsg te (zb0 i)) := by
  intro pins s σ H D I h;refine wpAny_Assign_Name (thn (he pins s σ H _ I h) fun v s1 ⟨y, H1, I1, r1, q1⟩ => ?_) hs;exact br I1 hN hi hx r1 (fun s2 I2 => ⟨_, H1, I2, q1⟩) hf
def tAugS (to ti te : TE) (tget : V -> V -> Hp -> VK -> Prop) (tip : TIp) (tset : TSet) : TS := fun D σ H => to σ H fun o H1 => ti σ H1 fun i H2 => tget o i H2 fun x H3 => te σ H3 fun y H4 => tip x y H4 fun z H5 => tset o i z H5 fun H6 => D.nx σ H6
def ipI (f : Int -> Int -> Int) : TIp := fun x y H Q => ∃ i j, x = .int i /\ y = .int j /\ Q (.int (f i j)) H
end
section
variable {X : Cx} {pos : Pos}
end
structure It where
  go : Nat -> Hp -> Prop
  yld : Nat -> Hp -> V -> Hp -> Prop
  stop : Nat -> Hp -> Prop
def FpOk (X : Cx) (pins : List (Addr × Obj)) (H : Hp) (b : Addr) : Prop :=
  H b = none /\ b ≠ X.env.locals /\ b ∉ X.fs /\ (b ∈ X.ex \/ X.s₀.heap.objs.size <= b) /\ (∀ x c, X.env.cells.lookup x = some c -> c ≠ b) /\ ∀ p ∈ X.pn ++ pins, p.1 ≠ b
theorem Inv.fpOk {X : Cx} {pins : List (Addr × Obj)} {σ : St} {H H' : Hp} {s : Shared} {b : Addr} (I : Inv X pins σ H s) (hb : s.heap.objs.size <= b) (hn : H' b = none) : FpOk X pins H' b := by
  refine ⟨hn, Yp (Zh I.lt hb), I.nofs hb, .inr (Zd I.sz hb), fun x c e z => ?_, fun p hp z => ?_⟩
  . obtain ⟨v, q⟩ := I.cell x c e
    exact absurd (Zh q.lt (by rw [z]; exact hb)) (ZJ _)
  . exact absurd (Zh (Heap.lt_size (I.pin p hp).1) (by rw [z]; exact hb)) (ZJ _)
structure Turn (P : Program) (w : World) (K : Fg) (tg : Expr) (J : It) (fp : List Addr) (it : Addr) (tn : Nat -> Heap -> Prop) : Prop where
  mem : it ∈ fp
  obj : ∀ i h, tn i h -> ∀ b ∈ fp, ∃ o, h.get? b = some o /\ ∀ v, o.data ≠ .cell v
  keep : ∀ i h h', tn i h -> (∀ b ∈ fp, ∀ o, h.get? b = some o -> h'.get? b = some o) -> tn i h'
  item : ∀ (X : Cx), X.prog = P -> X.w = w -> X.K = K -> X.calm = true -> ∀ (i : Nat) (pins : List (Addr × Obj)) (s : Shared) (σ : St) (H : Hp) (E : Value -> Shared -> Prop), Inv X pins σ H s -> (∀ b ∈ fp, FpOk X pins H b) -> tn i s.heap -> J.go i H ->
    wpAny (model P w) X.A (pyNext (.ref it)) (fun r s1 => ∃ u, r = some u /\
      wpAny (model P w) X.A (letOwnedTupleGo tg (.ref it) u) (fun _ s2 => ∃ x H', Inv X pins σ H' s2 /\ RelV x u /\ J.yld i H x H' /\ tn (i + 1) s2.heap /\ ∀ b ∈ fp, H' b = none) E s1) E s
  done : ∀ (X : Cx), X.prog = P -> X.w = w -> X.K = K -> X.calm = true -> ∀ (i : Nat) (pins : List (Addr × Obj)) (s : Shared) (σ : St) (H : Hp) (E : Value -> Shared -> Prop), Inv X pins σ H s -> (∀ b ∈ fp, FpOk X pins H b) -> tn i s.heap -> J.stop i H ->
    wpAny (model P w) X.A (pyNext (.ref it)) (fun r s1 => r = none /\ Inv X pins σ H s1) E s
  self : ∀ (A : Around) (i : Nat) (s : Shared) (Q : Value -> Shared -> Prop) (E : Value -> Shared -> Prop), tn i s.heap -> Q (.ref it) s -> wpAny (model P w) A (pyIter (.ref it)) Q E s
abbrev TI := St -> Hp -> (It -> Hp -> Prop) -> Prop
def PIE (X : Cx) (pins : List (Addr × Obj)) (σ : St) (tg : Expr) (R : It -> Hp -> Prop) (itv : Value) (s2 : Shared) : Prop :=
  ∃ (it : Addr) (fp : List Addr) (tn : Nat -> Heap -> Prop) (J : It) (H' : Hp), itv = .ref it /\ Inv X pins σ H' s2 /\ Turn X.prog X.w X.K tg J fp it tn /\ tn 0 s2.heap /\ (∀ b ∈ fp, FpOk X pins H' b) /\ R J H'
def PI (X : Cx) (tg iter : Expr) (wi : TI) : Prop :=
  ∀ (pins : List (Addr × Obj)) (s : Shared) (σ : St) (H : Hp) (R : It -> Hp -> Prop), Inv X pins σ H s -> wi σ H R ->
    wpAny (model X.prog X.w) X.A (eval iter X.env) (fun v s1 => wpAny (model X.prog X.w) X.A (pyIter v) (PIE X pins σ tg R) X.xe s1) X.xe s
theorem ix {M : Model} {A : Around} {E : Value -> Shared -> Prop} {s : Shared} {tg : Expr} {it : Addr} {u : Value} {o : Obj} {n : String} {vs : Array Value} {Q : Unit -> Shared -> Prop} (ho : s.heap.get? it = some o) (hc : o.cls = .type n) (hd : o.data = .fields vs)
    (hn : ["enumerate", "zip", "dict_itemiterator", "dict_reverseitemiterator", "odict_iterator", "itertools.zip_longest", "itertools.pairwise"].contains n = false) (hQ : Q () s) : wpAny M A (letOwnedTupleGo tg (.ref it) u) Q E s := by
  unfold letOwnedTupleGo
  cases tg <;> first
    | exact wpAny_pure hQ
    | (cases u <;> first
        | exact wpAny_pure hQ
        | (refine wpAny_bind (wpAny_load ho ?_)
           rw [hc, hd]
           show wpAny M A (if (["enumerate", "zip", "dict_itemiterator", "dict_reverseitemiterator", "odict_iterator", "itertools.zip_longest", "itertools.pairwise"].contains n && vs[0]? == some (rawInt _)) = true then _ else _) Q E s
           rw [if_neg (by intro h; rw [hn, Bool.false_and] at h; cases h)]
           exact wpAny_pure hQ))
def Itl (K : Fg) (a : Addr) : It :=
  ⟨fun i H => ∃ xs x, SqL K H a xs /\ xs[i]? = some x, fun i H x H' => H' = H /\ ∀ xs, SqL K H a xs -> xs[i]? = some x, fun i H => ∃ xs, SqL K H a xs /\ xs.length <= i⟩
def Itt (K : Fg) (a : Addr) : It :=
  ⟨fun i H => ∃ xs x, SqT K H a xs /\ xs[i]? = some x, fun i H x H' => H' = H /\ ∀ xs, SqT K H a xs -> xs[i]? = some x, fun i H => ∃ xs, SqT K H a xs /\ xs.length <= i⟩
def Itr (lo : Int) (n : Nat) : It := ⟨fun i _ => i < n, fun i H x H' => H' = H /\ x = .int (lo + i), fun i _ => n <= i⟩
theorem fv {P : Program} {w : World} {K : Fg} {tg : Expr} (a it : Addr) : Turn P w K tg (Itl K a) [it] it (fun i h => h.IsListIter it a i) where
  mem := by simp
  obj := fun i h st b hb => by
    have e : b = it := by simpa using hb
    subst e;obtain ⟨o, e, c, d⟩ := st;exact ⟨o, e, fun v z => by rw [d] at z; cases z⟩
  keep := fun i h h' st k => st.at fun o e => k it (by simp) o e
  item := by
    intro X hP hw hK hc i pins s σ H E I hf st hg;subst hP hw hK;obtain ⟨xs, x, hq, hx⟩ := hg;obtain ⟨its, rv, p, hz⟩ := I.list hq;obtain ⟨u, hu, ru⟩ := rv.get hx;obtain ⟨f0, f1, f2, f3, f4, f5⟩ := hf it (by simp);refine wpAny_pyNext_list_item st p.isList (x := u) (by simpa using hu) fun h' st' sb => ?_
    have I1 : Inv X pins σ H { s with heap := h' } := I.turned (t' := s.toks) (fun b o hb e => (sb.2 b hb).trans e) f0 f1 f3 f4 f5;obtain ⟨o, e, c, d⟩ := id st';exact ⟨u, rfl, ix (s := { s with heap := h' }) e c d (by decide) ⟨x, H, I1, ru, ⟨rfl, fun ys hy => by rw [I.list_inj hy hq]; exact hx⟩, st', fun b hb => (hf b hb).1⟩⟩
  done := by
    intro X hP hw hK hc i pins s σ H E I hf st hg;subst hP hw hK;obtain ⟨xs, hq, hx⟩ := hg;obtain ⟨its, rv, p, hz⟩ := I.list hq;obtain ⟨f0, f1, f2, f3, f4, f5⟩ := hf it (by simp);have hl := rv.length;exact wpAny_pyNext_list_end (I.ok.hd hc) st p.isList (by simp; omega) fun h' eb => ⟨rfl, I.turned (t' := s.toks) (fun b o hb e => eb b o hb e) f0 f1 f3 f4 f5⟩
  self := fun _ _ _ _ _ st h => wpAny_pyIter_listiter st h
theorem ip {P : Program} {w : World} {K : Fg} {tg : Expr} (a it : Addr) : Turn P w K tg (Itt K a) [it] it (fun i h => h.IsTupleIter it a i) where
  mem := by simp
  obj := fun i h st b hb => by
    have e : b = it := by simpa using hb
    subst e;obtain ⟨o, e, c, d⟩ := st;exact ⟨o, e, fun v z => by rw [d] at z; cases z⟩
  keep := fun i h h' st k => st.at fun o e => k it (by simp) o e
  item := by
    intro X hP hw hK hc i pins s σ H E I hf st hg;subst hP hw hK;obtain ⟨xs, x, hq, hx⟩ := hg;obtain ⟨its, rv, p, hz⟩ := I.tuple hq;obtain ⟨u, hu, ru⟩ := rv.get hx;obtain ⟨f0, f1, f2, f3, f4, f5⟩ := hf it (by simp);refine wpAny_pyNext_tuple_item st (show s.heap.IsTuple a its.toArray from p) (x := u) (by simpa using hu) fun h' st' sb => ?_
    have I1 : Inv X pins σ H { s with heap := h' } := I.turned (t' := s.toks) (fun b o hb e => (sb.2 b hb).trans e) f0 f1 f3 f4 f5;obtain ⟨o, e, c, d⟩ := id st';exact ⟨u, rfl, ix (s := { s with heap := h' }) e c d (by decide) ⟨x, H, I1, ru, ⟨rfl, fun ys hy => by rw [I.tuple_inj hy hq]; exact hx⟩, st', fun b hb => (hf b hb).1⟩⟩
  done := by
    intro X hP hw hK hc i pins s σ H E I hf st hg;subst hP hw hK;obtain ⟨xs, hq, hx⟩ := hg;obtain ⟨its, rv, p, hz⟩ := I.tuple hq;obtain ⟨f0, f1, f2, f3, f4, f5⟩ := hf it (by simp);have hl := rv.length;exact wpAny_pyNext_tuple_end (I.ok.hd hc) st (show s.heap.IsTuple a its.toArray from p) (by simp; omega) fun h' eb => ⟨rfl, I.turned (t' := s.toks) (fun b o hb e => eb b o hb e) f0 f1 f3 f4 f5⟩
  self := fun _ _ _ _ _ st h => wpAny_pyIter_tupleiter st h
theorem zcy {P : Program} {w : World} {K : Fg} {tg : Expr} (it : Addr) (lo : Int) (n : Nat) : Turn P w K tg (Itr lo n) [it] it (fun i h => IsRangeIter h it (lo + (i : Nat) * 1) ((n : Int) - (i : Nat)) 1) where
  mem := by simp
  obj := fun i h st b hb => by
    have e : b = it := by simpa using hb
    subst e
    exact ⟨_, st, fun v z => by
      have z' : Data.fields _ = Data.cell v := z
      cases z'⟩
  keep := fun i h h' st k => k it (by simp) _ st
  item := by
    intro X hP hw hK hc i pins s σ H E I hf st hg;subst hP hw hK;obtain ⟨f0, f1, f2, f3, f4, f5⟩ := hf it (by simp);have W := Walks.range (prog := X.prog) (w := X.w) (I.ok.hd hc) it lo 1 n;refine W.item i s _ _ hg st fun v h' tk hv st' kk => ?_
    obtain ⟨t, rfl⟩ := hv;have I1 : Inv X pins σ H { s with heap := h', toks := tk } := I.turned (fun b o hb e => kk b o (by simpa using hb) e) f0 f1 f3 f4 f5;refine ⟨_, rfl, ix (s := { s with heap := h', toks := tk }) (n := "range_iterator") st' rfl rfl (by decide) ⟨.int (lo + i), H, I1, ⟨t, ?_⟩, ⟨rfl, rfl⟩, st', fun b hb => (hf b hb).1⟩⟩;rw [Int.mul_one]
  done := by
    intro X hP hw hK hc i pins s σ H E I hf st hg;subst hP hw hK;obtain ⟨f0, f1, f2, f3, f4, f5⟩ := hf it (by simp);exact wpAny_pyNext_range_end (I.ok.hd hc) st (by have : n <= i := hg; omega) fun h' eb => ⟨rfl, I.turned (t' := s.toks) (fun b o hb e => eb b o hb e) f0 f1 f3 f4 f5⟩
  self := fun _ _ _ _ _ st h => wpAny_pyIter_rangeiter st h
end L2
namespace L2
open PySem PySem.Spec PyProof.Rows
section
variable {X : Cx} {tg : Expr}
def iList (K : Fg) (tl : TE) : TI := fun σ H R => tl σ H fun x H1 => ∃ a, x = .ref a /\ (∃ xs, SqL K H1 a xs) /\ R (Itl K a) H1
def iTup (K : Fg) (tl : TE) : TI := fun σ H R => tl σ H fun x H1 => ∃ a, x = .ref a /\ (∃ xs, SqT K H1 a xs) /\ R (Itt K a) H1
theorem yg {l : Expr} {tl : TE} (hl : PE X l tl) : PI X tg l (iList X.K tl) := by
  intro pins s σ H R I h;refine thn (hl pins s σ H _ I h) fun v s1 ⟨x, H1, I1, r1, q1⟩ => ?_
  obtain ⟨a, e, ⟨xs, hq⟩, q⟩ := q1;subst e;cases r1;obtain ⟨its, rv, p, hz⟩ := I1.list hq;refine wpAny_pyIter_list p.isList ?_;refine ⟨s1.heap.objs.size, [s1.heap.objs.size], _, _, H1, rfl, I1.kept (t' := s1.toks) fun b o e => Heap.get?_push_of_some _ e, fv a _, ⟨_, Heap.get?_push_size _ rfl, rfl, rfl⟩, fun b hb => ?_, q⟩;have e : b = s1.heap.objs.size := by simpa using hb
  subst e;exact I1.fpOk (Zm _) (I1.hok.fresh (Zm _))
theorem zdb {l : Expr} {tl : TE} (hl : PE X l tl) : PI X tg l (iTup X.K tl) := by
  intro pins s σ H R I h;refine thn (hl pins s σ H _ I h) fun v s1 ⟨x, H1, I1, r1, q1⟩ => ?_
  obtain ⟨a, e, ⟨xs, hq⟩, q⟩ := q1;subst e;cases r1;obtain ⟨its, rv, p, hz⟩ := I1.tuple hq;refine wpAny_pyIter_tuple (show s1.heap.IsTuple a its.toArray from p) ?_;refine ⟨s1.heap.objs.size, [s1.heap.objs.size], _, _, H1, rfl, I1.kept (t' := s1.toks) fun b o e => Heap.get?_push_of_some _ e, ip a _, ⟨_, Heap.get?_push_size _ rfl, rfl, rfl⟩, fun b hb => ?_, q⟩;have e : b = s1.heap.objs.size := by simpa using hb
  subst e;exact I1.fpOk (Zm _) (I1.hok.fresh (Zm _))
theorem zfn {pins : List (Addr × Obj)} {σ : St} {H : Hp} {s : Shared} {R : It -> Hp -> Prop} {E : Value -> Shared -> Prop} {lo hi : Int} {t u v : Tok} {tk : Nat} (I : Inv X pins σ H s) (h1 : -(2 ^ 62) <= lo) (h2 : lo < 2 ^ 62) (h3 : -(2 ^ 62) <= hi) (h4 : hi < 2 ^ 62)
    (q : R (Itr lo (hi - lo).toNat) H) : wpAny (model X.prog X.w) X.A (pyIter (.ref s.heap.objs.size)) (PIE X pins σ tg R) E { s with heap := s.heap.push { cls := .type "range", data := .fields #[.int lo t, .int hi u, .int 1 v] }, toks := tk } := by
  refine wpAny_pyIter_range (IsRange.new ..) (small_one h1 h2 h3 h4) ?_;have I1 : Inv X pins σ H { s with heap := s.heap.push { cls := .type "range", data := .fields #[.int lo t, .int hi u, .int 1 v] }, toks := tk } := I.kept fun b o e => Heap.get?_push_of_some _ e
  refine ⟨(s.heap.push { cls := .type "range", data := .fields #[.int lo t, .int hi u, .int 1 v] }).objs.size, [(s.heap.push { cls := .type "range", data := .fields #[.int lo t, .int hi u, .int 1 v] }).objs.size], _, _, H, rfl,
    I1.kept (t' := tk) fun b o e => Heap.get?_push_of_some _ e, zcy _ lo (hi - lo).toNat, ?_, fun b hb => ?_, q⟩
  . have e1 : lo + ((0 : Nat) : Int) * 1 = lo := by simp
    have e2 : (((hi - lo).toNat : Nat) : Int) - ((0 : Nat) : Int) = Builtin.Range.rangeSize lo hi 1 := by rw [rangeSize_one]; split <;> omega
    show IsRangeIter _ _ (lo + ((0 : Nat) : Int) * 1) ((((hi - lo).toNat : Nat) : Int) - ((0 : Nat) : Int)) 1
    rw [e1, e2];exact Heap.get?_push_size _ rfl
  . have e : b = (s.heap.push { cls := .type "range", data := .fields #[.int lo t, .int hi u, .int 1 v] }).objs.size := by simpa using hb
    subst e;exact I1.fpOk (Zm _) (I1.hok.fresh (Zm _))
def iRng1 (ta : TA) : TI := fun σ H R => ta σ H fun vs H1 => ∃ j : Int, vs = [.int j] /\ -(2 ^ 62) <= j /\ j < 2 ^ 62 /\ R (Itr 0 j.toNat) H1
def iRng2 (ta : TA) : TI := fun σ H R => ta σ H fun vs H1 => ∃ i j : Int, vs = [.int i, .int j] /\ (-(2 ^ 62) <= i /\ i < 2 ^ 62 /\ -(2 ^ 62) <= j /\ j < 2 ^ 62) /\ R (Itr i (j - i).toNat) H1
theorem wp {a : Expr} {ta : TA} {p pos : Pos} (hg : Gl X "range") (hm : X.mg "range" = none) (ha : PA X [a] ta) (hs : starEach [a] X.env = [(false, eval a X.env)] := by rfl) : PI X tg (.Call (.Name "range" p) [a] [] pos) (iRng1 ta) := by
  intro pins s σ H R I h;refine Call_ (mt I hg hm boot_range (PyProof.Rows.callWith_type1 (thn (ha pos pins s σ H _ I h) fun us s1 ⟨vs, H1, I1, r1, q1⟩ => ?_) hs rfl));obtain ⟨j, e, q1, q2, q⟩ := q1;subst e
  cases r1 with
  | cons r rr =>
    cases rr;obtain ⟨t, rfl⟩ := r;exact call_range_1 (zfn I1 (by omega) (by omega) q1 q2 (by simpa using q))
def tFor (wi : TI) (g : TG) (tb : TS) : TS := fun D σ H => wi σ H fun J H1 => ∃ W : Nat -> Nat -> St -> Hp -> Prop, (∃ m, W 0 m σ H1) /\ ∀ i m σ H, W i m σ H ->
  (J.stop i H /\ D.nx σ H) \/ (J.go i H /\ ∃ N : St -> Hp -> Prop, (∀ σ' H', N σ' H' -> ∃ m', m' < m /\ W (i + 1) m' σ' H') /\ ∀ x H', J.yld i H x H' -> g x σ H' fun σ2 H2 => tb { D with nx := N, ct := N, bk := D.nx } σ2 H2)
def mi (fp : List Addr) (h : Heap) : List (Addr × Obj) := fp.filterMap fun b => (h.get? b).map fun o => (b, o)
theorem vn {fp : List Addr} {h : Heap} {b : Addr} {o : Obj} (hb : b ∈ fp) (e : h.get? b = some o) : (b, o) ∈ mi fp h := ZP.mpr ⟨b, hb, by rw [e]; rfl⟩
theorem zeu {fp : List Addr} {h : Heap} {p : Addr × Obj} (hp : p ∈ mi fp h) : p.1 ∈ fp /\ h.get? p.1 = some p.2 := by
  obtain ⟨b, hb, e⟩ := ZP.mp hp
  cases q : h.get? b with
  | none => rw [q] at e; cases e
  | some o =>
    rw [q] at e;have e' : (b, o) = p := Option.some.inj e;subst e';exact ⟨hb, q⟩
theorem Inv.pinned {pins : List (Addr × Obj)} {σ : St} {H : Hp} {s : Shared} {fp : List Addr} (I : Inv X pins σ H s) (hf : ∀ b ∈ fp, FpOk X pins H b) (ho : ∀ b ∈ fp, ∃ o, s.heap.get? b = some o /\ ∀ v, o.data ≠ .cell v) : Inv X (pins ++ mi fp s.heap) σ H s :=
  I.pins_of fun p hp => (ZH.mp hp).elim (fun z => I.pin p (Zu _ z)) fun z => by
    obtain ⟨hb, e⟩ := zeu z;obtain ⟨f0, f1, f2, _⟩ := hf p.1 hb;obtain ⟨o, e', d⟩ := ho p.1 hb;rw [e] at e'; cases e';exact ⟨e, f0, f1, f2, d⟩
theorem Inv.unpinned {pins pl : List (Addr × Obj)} {σ : St} {H : Hp} {s : Shared} (I : Inv X (pins ++ pl) σ H s) : Inv X pins σ H s := I.pins_of fun p hp => I.pin p (Zu _ (ZX _ hp))
theorem xz {iter : Expr} {body : List Stmt} {wi : TI} {g : TG} {tb : TS} {pos : Pos} (hp : PassesOwn (model X.prog X.w) X.A X.env X.xe) (hc : X.calm = true) (hi : PI X tg iter wi) (hg : PG X tg g) (hb : PSs X body tb)
    (hs : ∀ x, foldedSetIterable iter X.env x = pure x := by intro _; rfl) : PS X (.For tg iter body [] pos) (tFor wi g tb) := by
  intro pins s σ H D I h;refine wpAny_For (thn (hi pins s σ H _ I h) fun v s1 h1 => thn h1 fun itv s2 h2 => ?_) hs;obtain ⟨it, fp, tn, J, H2, e, I2, T, st2, f2, W, ⟨m0, w0⟩, turn⟩ := h2;subst e
  -- what stays true of the iterator's objects through the loop
  have stat : ∀ {H' : Hp}, (∀ b ∈ fp, H' b = none) -> ∀ b ∈ fp, FpOk X pins H' b := fun hn b hb => ⟨hn b hb, (f2 b hb).2⟩
  refine codeAny_forLoop_any (fun n s' => ∃ i σ' H', Inv X pins σ' H' s' /\ tn i s'.heap /\ (∀ b ∈ fp, H' b = none) /\ W i n σ' H') ?_ m0 ⟨0, σ, H2, I2, st2, fun b hb => (f2 b hb).1, w0⟩
  rintro n s3 ⟨i, σ3, H3, I3, st3, fr3, w3⟩
  rcases turn i n σ3 H3 w3 with ⟨stop, qn⟩ | ⟨go, N, hN, step⟩
  . refine wpAny_passesOwn hp (thn (T.done X rfl rfl rfl hc i pins s3 σ3 H3 X.xe I3 (stat fr3) st3 stop) fun r s4 ⟨hr, I4⟩ => ?_)
    subst hr;exact wpAny_execs_nil ⟨σ3, H3, I4, qn⟩
  . refine wpAny_passesOwn hp (thn (T.item X rfl rfl rfl hc i pins s3 σ3 H3 X.xe I3 (stat fr3) st3 go) fun r s4 ⟨u, hr, h4⟩ => ?_)
    subst hr;refine wpAny_passesOwn hp (thn h4 fun _ s5 ⟨x, H5, I5, r5, y5, st5, fr5⟩ => ?_);have I5' := I5.pinned (stat fr5) (T.obj _ _ st5);refine wpAny_passesOwn hp (thn (hg _ s5 σ3 H5 x u _ I5' r5 (step x H5 y5)) fun _ s6 ⟨σ6, H6, I6, q6⟩ => ?_);refine wpAny_passesOwn hp (thn (hb _ s6 σ6 H6 _ I6 q6) fun f s7 q7 => ?_)
    have again : ∀ {σ7 : St} {H7 : Hp}, Inv X (pins ++ mi fp s5.heap) σ7 H7 s7 -> N σ7 H7 -> ∃ m, m < n /\ ∃ i σ' H', Inv X pins σ' H' s7 /\ tn i s7.heap /\ (∀ b ∈ fp, H' b = none) /\ W i m σ' H' := fun {σ7 H7} I7 n7 => by
      obtain ⟨m', hm, w7⟩ := hN σ7 H7 n7;refine ⟨m', hm, i + 1, σ7, H7, I7.unpinned, T.keep _ _ _ st5 fun b hb o e => (I7.pin (b, o) (Zu _ (Zu _ (vn hb e)))).1, fun b hb => ?_, w7⟩;obtain ⟨o, e, d⟩ := T.obj _ _ st5 b hb;exact (I7.pin (b, o) (Zu _ (Zu _ (vn hb e)))).2.1
    cases f with
    | next => obtain ⟨σ7, H7, I7, n7⟩ := q7; exact again I7 n7
    | cont => obtain ⟨σ7, H7, I7, n7⟩ := q7; exact again I7 n7
    | brk => obtain ⟨σ7, H7, I7, q7⟩ := q7; exact ⟨σ7, H7, I7.unpinned, q7⟩
    | ret v => obtain ⟨x7, σ7, H7, I7, r7, q7⟩ := q7; exact ⟨x7, σ7, H7, I7.unpinned, r7, q7⟩
end
theorem wv {K : Fg} {a : Addr} {xs : List V} {g : TG} {tb : TS} {D : Ends} {σ : St} {H : Hp} (Pv : Nat -> St -> Hp -> Prop) (h0 : Pv 0 σ H) (hl : ∀ i σ H, i <= xs.length -> Pv i σ H -> SqL K H a xs)
    (hs : ∀ i x σ H, xs[i]? = some x -> Pv i σ H -> g x σ H fun σ2 H2 => tb { D with nx := Pv (i + 1), ct := Pv (i + 1), bk := D.nx } σ2 H2) (hd : ∀ σ H, Pv xs.length σ H -> D.nx σ H) :
    ∃ W : Nat -> Nat -> St -> Hp -> Prop, (∃ m, W 0 m σ H) /\ ∀ i m σ H, W i m σ H ->
      ((Itl K a).stop i H /\ D.nx σ H) \/ ((Itl K a).go i H /\ ∃ N : St -> Hp -> Prop, (∀ σ' H', N σ' H' -> ∃ m', m' < m /\ W (i + 1) m' σ' H') /\ ∀ x H', (Itl K a).yld i H x H' -> g x σ H' fun σ2 H2 => tb { D with nx := N, ct := N, bk := D.nx } σ2 H2) := by
  refine ⟨fun i m σ H => m = xs.length - i /\ i <= xs.length /\ Pv i σ H, ⟨xs.length, by simp, ZE _, h0⟩, ?_⟩
  rintro i m σ H ⟨rfl, hi, p⟩
  have q := hl i σ H hi p
  by_cases hlt : i < xs.length
  . refine .inr ⟨⟨xs, xs[i], q, by simp [hlt]⟩, Pv (i + 1), fun σ' H' p' => ⟨xs.length - (i + 1), by omega, rfl, hlt, p'⟩, fun x H' y => ?_⟩
    obtain ⟨e, y⟩ := y;subst e;exact hs i x σ _ (y xs q) p
  . have e : i = xs.length := by omega
    subst e;exact .inl ⟨⟨xs, q, Zm _⟩, hd σ H p⟩
theorem zhe {K : Fg} {a : Addr} {xs : List V} {g : TG} {tb : TS} {D : Ends} {σ : St} {H : Hp} (Pv : Nat -> St -> Hp -> Prop) (h0 : Pv 0 σ H) (hl : ∀ i σ H, i <= xs.length -> Pv i σ H -> SqT K H a xs)
    (hs : ∀ i x σ H, xs[i]? = some x -> Pv i σ H -> g x σ H fun σ2 H2 => tb { D with nx := Pv (i + 1), ct := Pv (i + 1), bk := D.nx } σ2 H2) (hd : ∀ σ H, Pv xs.length σ H -> D.nx σ H) :
    ∃ W : Nat -> Nat -> St -> Hp -> Prop, (∃ m, W 0 m σ H) /\ ∀ i m σ H, W i m σ H ->
      ((Itt K a).stop i H /\ D.nx σ H) \/ ((Itt K a).go i H /\ ∃ N : St -> Hp -> Prop, (∀ σ' H', N σ' H' -> ∃ m', m' < m /\ W (i + 1) m' σ' H') /\ ∀ x H', (Itt K a).yld i H x H' -> g x σ H' fun σ2 H2 => tb { D with nx := N, ct := N, bk := D.nx } σ2 H2) := by
  refine ⟨fun i m σ H => m = xs.length - i /\ i <= xs.length /\ Pv i σ H, ⟨xs.length, by simp, ZE _, h0⟩, ?_⟩
  rintro i m σ H ⟨rfl, hi, p⟩
  have q := hl i σ H hi p
  by_cases hlt : i < xs.length
  . refine .inr ⟨⟨xs, xs[i], q, by simp [hlt]⟩, Pv (i + 1), fun σ' H' p' => ⟨xs.length - (i + 1), by omega, rfl, hlt, p'⟩, fun x H' y => ?_⟩
    obtain ⟨e, y⟩ := y;subst e;exact hs i x σ _ (y xs q) p
  . have e : i = xs.length := by omega
    subst e;exact .inl ⟨⟨xs, q, Zm _⟩, hd σ H p⟩
theorem qh {lo : Int} {n : Nat} {g : TG} {tb : TS} {D : Ends} {σ : St} {H : Hp} (Pv : Nat -> St -> Hp -> Prop) (h0 : Pv 0 σ H)
    (hs : ∀ i σ H, i < n -> Pv i σ H -> g (.int (lo + i)) σ H fun σ2 H2 => tb { D with nx := Pv (i + 1), ct := Pv (i + 1), bk := D.nx } σ2 H2) (hd : ∀ σ H, Pv n σ H -> D.nx σ H) :
    ∃ W : Nat -> Nat -> St -> Hp -> Prop, (∃ m, W 0 m σ H) /\ ∀ i m σ H, W i m σ H ->
      ((Itr lo n).stop i H /\ D.nx σ H) \/ ((Itr lo n).go i H /\ ∃ N : St -> Hp -> Prop, (∀ σ' H', N σ' H' -> ∃ m', m' < m /\ W (i + 1) m' σ' H') /\ ∀ x H', (Itr lo n).yld i H x H' -> g x σ H' fun σ2 H2 => tb { D with nx := N, ct := N, bk := D.nx } σ2 H2) := by
  refine ⟨fun i m σ H => m = n - i /\ i <= n /\ Pv i σ H, ⟨n, by simp, ZE _, h0⟩, ?_⟩
  rintro i m σ H ⟨rfl, hi, p⟩
  by_cases hlt : i < n
  . refine .inr ⟨hlt, Pv (i + 1), fun σ' H' p' => ⟨n - (i + 1), by omega, rfl, hlt, p'⟩, fun x H' y => ?_⟩
    obtain ⟨e, y⟩ := y;subst e y;exact hs i σ _ hlt p
  . have e : i = n := by omega
    subst e;exact .inl ⟨Zm _, hd σ H p⟩
end L2
namespace L2
open PySem PySem.Spec PyProof.Rows
abbrev R2 := V -> V -> Hp -> VK -> Prop
def OpR (X : Cx) (f : Value -> Value -> Sem Value) (r : R2) : Prop :=
  ∀ (pins : List (Addr × Obj)) (s : Shared) (σ : St) (H : Hp) (x y : V) (v u : Value) (Q : VK), Inv X pins σ H s -> RelV x v -> RelV y u -> r x y H Q ->
    wpAny (model X.prog X.w) X.A (f v u) (EP X pins σ Q) X.xe s
def UnR (X : Cx) (f : Value -> Sem Value) (r : V -> Hp -> VK -> Prop) : Prop :=
  ∀ (pins : List (Addr × Obj)) (s : Shared) (σ : St) (H : Hp) (x : V) (v : Value) (Q : VK), Inv X pins σ H s -> RelV x v -> r x H Q ->
    wpAny (model X.prog X.w) X.A (f v) (EP X pins σ Q) X.xe s
def CallR (X : Cx) (f : Value) (r : List V -> Hp -> VK -> Prop) : Prop :=
  ∀ (pins : List (Addr × Obj)) (s : Shared) (σ : St) (H : Hp) (xs : List V) (us : List Value) (Q : VK), Inv X pins σ H s -> Vals xs us -> r xs H Q ->
    wpAny (model X.prog X.w) X.A (call f us) (EP X pins σ Q) X.xe s
def tOp (r : R2) (ta tb : TE) : TE := fun σ H Q => ta σ H fun x H1 => tb σ H1 fun y H2 => r x y H2 Q
def tUn (r : V -> Hp -> VK -> Prop) (ta : TE) : TE := fun σ H Q => ta σ H fun x H1 => r x H1 Q
def rI (C : Int -> Int -> Prop) (g : Int -> Int -> V) : R2 := fun x y H Q => ∃ i j, x = .int i /\ y = .int j /\ C i j /\ Q (g i j) H
def rI0 (g : Int -> Int -> V) : R2 := fun x y H Q => ∃ i j, x = .int i /\ y = .int j /\ Q (g i j) H
def rU (g : Int -> V) : V -> Hp -> VK -> Prop := fun x H Q => ∃ i, x = .int i /\ Q (g i) H
section
variable {X : Cx} {a b c : Expr} {ta tb tc : TE} {pos : Pos}
theorem binT (ha : PE X a ta) (hb : PE X b tb) {pins : List (Addr × Obj)} {s : Shared} {σ : St} {H : Hp} {R : V -> V -> Hp -> Prop} (I : Inv X pins σ H s)
    (h : ta σ H fun x H1 => tb σ H1 fun y H2 => R x y H2) {Q : Value -> Shared -> Prop} {f : Value -> Value -> Sem Value}
    (hf : ∀ v u s2 x y H2, Inv X pins σ H2 s2 -> RelV x v -> RelV y u -> R x y H2 -> wpAny (model X.prog X.w) X.A (f v u) Q X.xe s2) :
    wpAny (model X.prog X.w) X.A (eval a X.env) (fun v s₁ => wpAny (model X.prog X.w) X.A (eval b X.env) (fun u s₂ => wpAny (model X.prog X.w) X.A (f v u) Q X.xe s₂) X.xe s₁) X.xe s := by
  refine thn (ha pins s σ H _ I h) fun v s1 ⟨x, H1, I1, r1, q1⟩ => ?_
  refine thn (hb pins s1 σ H1 _ I1 q1) fun u s2 ⟨y, H2, I2, r2, q2⟩ => ?_
  exact hf v u s2 x y H2 I2 r1 r2 q2
theorem zo {op : Operator} {r : R2} (ho : OpR X (binaryOp op) r) (ha : PE X a ta) (hb : PE X b tb) : PE X (.BinOp a op b pos) (tOp r ta tb) := by
  intro pins s σ H Q I h;exact wpAny_BinOp (binT ha hb I h fun v u s2 x y H2 I2 rx ry q => ho pins s2 σ H2 x y v u Q I2 rx ry q)
theorem pe_un {op : UnaryOp} {r : V -> Hp -> VK -> Prop} (ho : UnR X (unaryOp op) r) (ha : PE X a ta) : PE X (.UnaryOp op a pos) (tUn r ta) := by
  intro pins s σ H Q I h;exact UnaryOp_ (thn (ha pins s σ H _ I h) fun v s1 ⟨x, H1, I1, r1, q1⟩ => ho pins s1 σ H1 x v Q I1 r1 q1)
theorem opI {f : Value -> Value -> Sem Value} {C : Int -> Int -> Prop} {g : Int -> Int -> Int}
    (rule : ∀ (i j : Int) (t u : Tok) (s : Shared) (Q : Value -> Shared -> Prop) (E : Value -> Shared -> Prop), C i j -> Q (.int (g i j) s.toks) { s with toks := s.toks + 1 } -> wpAny (model X.prog X.w) X.A (f (.int i t) (.int j u)) Q E s) :
    OpR X f (rI C fun i j => .int (g i j)) := by
  intro pins s σ H x y v u Q I rx ry h;obtain ⟨i, j, rfl, rfl, hc, q⟩ := h;obtain ⟨t, rfl⟩ := rx;obtain ⟨t', rfl⟩ := ry;exact rule i j t t' s _ _ hc ⟨.int (g i j), H, I.tok _, ⟨_, rfl⟩, q⟩
theorem opI0 {f : Value -> Value -> Sem Value} {g : Int -> Int -> Int}
    (rule : ∀ (i j : Int) (t u : Tok) (s : Shared) (Q : Value -> Shared -> Prop) (E : Value -> Shared -> Prop), Q (.int (g i j) s.toks) { s with toks := s.toks + 1 } -> wpAny (model X.prog X.w) X.A (f (.int i t) (.int j u)) Q E s) :
    OpR X f (rI0 fun i j => .int (g i j)) := by
  intro pins s σ H x y v u Q I rx ry h;obtain ⟨i, j, rfl, rfl, q⟩ := h;obtain ⟨t, rfl⟩ := rx;obtain ⟨t', rfl⟩ := ry;exact rule i j t t' s _ _ ⟨.int (g i j), H, I.tok _, ⟨_, rfl⟩, q⟩
theorem opB0 {f : Value -> Value -> Sem Value} {g : Int -> Int -> Bool}
    (rule : ∀ (i j : Int) (t u : Tok) (s : Shared) (Q : Value -> Shared -> Prop) (E : Value -> Shared -> Prop), Q (.bool (g i j)) s -> wpAny (model X.prog X.w) X.A (f (.int i t) (.int j u)) Q E s) :
    OpR X f (rI0 fun i j => .bl (g i j)) := by
  intro pins s σ H x y v u Q I rx ry h;obtain ⟨i, j, rfl, rfl, q⟩ := h;obtain ⟨t, rfl⟩ := rx;obtain ⟨t', rfl⟩ := ry;exact rule i j t t' s _ _ ⟨.bl (g i j), H, I, rfl, q⟩
def CDiv (i j : Int) : Prop := 0 < j /\ j < 1073741824
def CPow (i j : Int) : Prop := 0 <= j /\ j <= 1000000 /\ i.natAbs < 2 ^ 64
def CMul (i j : Int) : Prop := (-(2 ^ 64) < i /\ i < 2 ^ 64) \/ (-(2 ^ 64) < j /\ j < 2 ^ 64)
theorem CMul.ok {i j : Int} (h : CMul i j) : IntMulOk i j := by
  rcases h with ⟨h1, h2⟩ | ⟨h1, h2⟩
  . exact .of_left (intBits_le_64 h1 h2)
  . exact .of_right (intBits_le_64 h1 h2)
theorem yy : OpR X (binaryOp .Add) (rI0 fun i j => .int (i + j)) := opI0 fun _ _ _ _ _ _ _ q => add_int q
theorem ir : OpR X (binaryOp .Sub) (rI0 fun i j => .int (i - j)) := opI0 fun _ _ _ _ _ _ _ q => sub_int q
theorem p7 : OpR X (binaryOp .Mult) (rI CMul fun i j => .int (i * j)) := opI fun _ _ _ _ _ _ _ hc q => mul_int q hc.ok
theorem y1 : OpR X (binaryOp .FloorDiv) (rI CDiv fun i j => .int (i / j)) := opI fun i j _ _ _ _ _ hc q => by
  have h1 : (0 : Int) < j := hc.1;have h2 : j < 1073741824 := hc.2;exact floordiv_int (by omega) (by rw [Int.fdiv_eq_ediv_of_nonneg i (by omega)]; exact q) (.inl (PyProof.noPylong_small (by omega)))
theorem yn : OpR X (binaryOp .Mod) (rI (fun _ j => 0 < j) fun i j => .int (i % j)) := opI fun i j _ _ _ _ _ hc q => by
  have h1 : (0 : Int) < j := hc;exact mod_int' (by omega) (by rw [Int.fmod_eq_emod_of_nonneg i (by omega)]; exact q)
theorem iz : OpR X (binaryOp .Pow) (rI CPow fun i j => .int (i ^ j.toNat)) := opI fun _ _ _ _ _ _ _ hc q => pow_int_small hc.1 hc.2.1 hc.2.2 q
theorem unI {f : Value -> Sem Value} {g : Int -> Int}
    (rule : ∀ (i : Int) (t : Tok) (s : Shared) (Q : Value -> Shared -> Prop) (E : Value -> Shared -> Prop), Q (.int (g i) s.toks) { s with toks := s.toks + 1 } -> wpAny (model X.prog X.w) X.A (f (.int i t)) Q E s) :
    UnR X f (rU fun i => .int (g i)) := by
  intro pins s σ H x v Q I rx h;obtain ⟨i, rfl, q⟩ := h;obtain ⟨t, rfl⟩ := rx;exact rule i t s _ _ ⟨.int (g i), H, I.tok _, ⟨_, rfl⟩, q⟩
theorem zd2 : UnR X (unaryOp .USub) (rU fun i => .int (-i)) := unI fun _ _ _ _ _ q => neg_int q
end
def scal : V -> V -> Bool
  | .non, .non => true | .non, .int _ => true | .int _, .non => true | .non, .bl _ => true | .bl _, .non => true | .non, .str _ => true | .str _, .non => true
  | .int _, .int _ => true | .bl _, .bl _ => true | .str _, .str _ => true | .byt _, .byt _ => true
  | .int _, .str _ => true | .str _, .int _ => true | .bl _, .str _ => true | .str _, .bl _ => true
  | _, _ => false
def rEq : R2 := fun x y H Q => scal x y = true /\ Q (.bl (decide (x = y))) H
def rNe : R2 := fun x y H Q => scal x y = true /\ Q (.bl (!decide (x = y))) H
theorem zay {i j : Int} : decide (V.int i = V.int j) = (i == j) := by
  rw [Bool.eq_iff_iff];simp
theorem zdy {i j : Bool} : decide (V.bl i = V.bl j) = (i == j) := by
  rw [Bool.eq_iff_iff];simp
theorem za7 {i j : Str} : decide (V.str i = V.str j) = (i == j) := by
  rw [Bool.eq_iff_iff];simp
theorem zaw {i j : Array UInt8} : decide (V.byt i = V.byt j) = (i.toList == j.toList) := by
  rw [Bool.eq_iff_iff];cases i;cases j;simp
section
variable {X : Cx} {a b c : Expr} {ta tb tc : TE} {pos : Pos}
theorem yl {pins : List (Addr × Obj)} {σ : St} {H : Hp} {s : Shared} {Q : VK} {k k' : Bool} (I : Inv X pins σ H s) (q : Q (.bl k) H) (e : k = k') : EP X pins σ Q (.bool k') s := by
  subst e;exact ⟨.bl k, H, I, rfl, q⟩
theorem xt : OpR X (compareOp .Eq) rEq := by
  intro pins s σ H x y v u Q I rx ry h;obtain ⟨hs, q⟩ := h
  cases x with
  | non =>
    cases rx
    cases y with
    | non => cases ry; exact PySem.EqNone.eq_none_none (yl I q (by simp))
    | bl j => cases ry; exact PySem.EqNone.eq_none_bool (yl I q (by simp))
    | int j => obtain ⟨t', rfl⟩ := ry; exact PySem.EqNone.eq_none_int (yl I q (by simp))
    | str j => obtain ⟨t', rfl⟩ := ry; exact PySem.EqNone.eq_none_str (yl I q (by simp))
    | _ => exact absurd (show false = true from hs) Bool.false_ne_true
  | bl i =>
    cases rx
    cases y with
    | non => cases ry; exact PySem.EqNone.eq_bool_none (yl I q (by simp))
    | bl j => cases ry; exact eq_bool (yl I q zdy)
    | str j => obtain ⟨t', rfl⟩ := ry; exact PySem.EqMixed.eq_bool_str (yl I q (by simp))
    | _ => exact absurd (show false = true from hs) Bool.false_ne_true
  | int i =>
    obtain ⟨t, rfl⟩ := rx
    cases y with
    | non => cases ry; exact PySem.EqNone.eq_int_none (yl I q (by simp))
    | int j => obtain ⟨t', rfl⟩ := ry; exact eq_int (yl I q zay)
    | str j => obtain ⟨t', rfl⟩ := ry; exact PySem.EqMixed.eq_int_str (yl I q (by simp))
    | _ => exact absurd (show false = true from hs) Bool.false_ne_true
  | str i =>
    obtain ⟨t, rfl⟩ := rx
    cases y with
    | non => cases ry; exact PySem.EqNone.eq_str_none (yl I q (by simp))
    | bl j => cases ry; exact PySem.EqMixed.eq_str_bool (yl I q (by simp))
    | int j => obtain ⟨t', rfl⟩ := ry; exact PySem.EqMixed.eq_str_int (yl I q (by simp))
    | str j => obtain ⟨t', rfl⟩ := ry; exact eq_str (yl I q za7)
    | _ => exact absurd (show false = true from hs) Bool.false_ne_true
  | byt i =>
    obtain ⟨t, rfl⟩ := rx
    cases y with
    | byt j => obtain ⟨t', rfl⟩ := ry; exact PySem.W.eq_bytes (yl I q zaw)
    | _ => exact absurd (show false = true from hs) Bool.false_ne_true
  | _ => cases y <;> exact absurd (show false = true from hs) Bool.false_ne_true
theorem vx : OpR X (compareOp .NotEq) rNe := by
  intro pins s σ H x y v u Q I rx ry h;obtain ⟨hs, q⟩ := h
  cases x with
  | non =>
    cases rx
    cases y with
    | non => cases ry; exact PySem.EqNone.ne_none_none (yl I q (by simp))
    | bl j => cases ry; exact PySem.EqNone.ne_none_bool (yl I q (by simp))
    | int j => obtain ⟨t', rfl⟩ := ry; exact PySem.EqNone.ne_none_int (yl I q (by simp))
    | str j => obtain ⟨t', rfl⟩ := ry; exact PySem.EqNone.ne_none_str (yl I q (by simp))
    | _ => exact absurd (show false = true from hs) Bool.false_ne_true
  | bl i =>
    cases rx
    cases y with
    | non => cases ry; exact PySem.EqNone.ne_bool_none (yl I q (by simp))
    | bl j => cases ry; exact ne_bool (yl I q (congrArg not zdy))
    | str j => obtain ⟨t', rfl⟩ := ry; exact PySem.EqMixed.ne_bool_str (yl I q (by simp))
    | _ => exact absurd (show false = true from hs) Bool.false_ne_true
  | int i =>
    obtain ⟨t, rfl⟩ := rx
    cases y with
    | non => cases ry; exact PySem.EqNone.ne_int_none (yl I q (by simp))
    | int j => obtain ⟨t', rfl⟩ := ry; exact ne_int (yl I q (congrArg not zay))
    | str j => obtain ⟨t', rfl⟩ := ry; exact PySem.EqMixed.ne_int_str (yl I q (by simp))
    | _ => exact absurd (show false = true from hs) Bool.false_ne_true
  | str i =>
    obtain ⟨t, rfl⟩ := rx
    cases y with
    | non => cases ry; exact PySem.EqNone.ne_str_none (yl I q (by simp))
    | bl j => cases ry; exact PySem.EqMixed.ne_str_bool (yl I q (by simp))
    | int j => obtain ⟨t', rfl⟩ := ry; exact PySem.EqMixed.ne_str_int (yl I q (by simp))
    | str j => obtain ⟨t', rfl⟩ := ry; exact ne_str (yl I q (congrArg not za7))
    | _ => exact absurd (show false = true from hs) Bool.false_ne_true
  | byt i =>
    obtain ⟨t, rfl⟩ := rx
    cases y with
    | byt j => obtain ⟨t', rfl⟩ := ry; exact PySem.W.ne_bytes (yl I q (congrArg not zaw))
    | _ => exact absurd (show false = true from hs) Bool.false_ne_true
  | _ => cases y <;> exact absurd (show false = true from hs) Bool.false_ne_true
theorem op_lt : OpR X (compareOp .Lt) (rI0 fun i j => .bl (decide (i < j))) := opB0 fun _ _ _ _ _ _ _ q => lt_int q
theorem le : OpR X (compareOp .LtE) (rI0 fun i j => .bl (decide (i <= j))) := opB0 fun _ _ _ _ _ _ _ q => le_int q
theorem op_gt : OpR X (compareOp .Gt) (rI0 fun i j => .bl (decide (j < i))) := opB0 fun _ _ _ _ _ _ _ q => gt_int q
theorem zcr : OpR X (compareOp .GtE) (rI0 fun i j => .bl (decide (j <= i))) := opB0 fun _ _ _ _ _ _ _ q => ge_int q
theorem av : OpR X (compareOp .Is) (fun x y H Q => y = .non /\ Q (.bl (decide (x = .non))) H) := by
  intro pins s σ H x y v u Q I rx ry h;obtain ⟨rfl, q⟩ := h;cases ry;refine is_none_gen (yl I q ?_)
  cases x <;> first
    | (cases rx; rfl)
    | (obtain ⟨t, rfl⟩ := rx; rfl)
theorem OpR.or {f : Value -> Value -> Sem Value} {r r' : R2} (h : OpR X f r) (h' : OpR X f r') : OpR X f (fun x y H Q => r x y H Q \/ r' x y H Q) := by
  intro pins s σ H x y v u Q I rx ry q
  rcases q with q | q
  . exact h pins s σ H x y v u Q I rx ry q
  . exact h' pins s σ H x y v u Q I rx ry q
theorem z9 (b : Expr) {op : CmpOp} (h : op ≠ .In := by decide) (h2 : op ≠ .NotIn := by decide) : behindInMarks op b = false := by
  have e1 : (op == CmpOp.In) = false := by cases op <;> first | rfl | exact absurd rfl h
  have e2 : (op == CmpOp.NotIn) = false := by cases op <;> first | rfl | exact absurd rfl h2
  cases b <;> simp [behindInMarks, e1, e2]
theorem vm {op : CmpOp} {r : R2} (ho : OpR X (compareOp op) r) (ha : PE X a ta) (hb : PE X b tb) (hm : behindInMarks op b = false) : PE X (.Compare a [op] [b] pos) (tOp r ta tb) := by
  intro pins s σ H Q I h;exact wpAny_Compare1 (binT ha hb I h fun v u s2 x y H2 I2 rx ry q => ho pins s2 σ H2 x y v u Q I2 rx ry q) hm
def zcc (t : TE) : TT := fun σ H Q => t σ H fun x H' => ∃ k, x = .bl k /\ Q k H'
theorem z5 {op : CmpOp} {r : R2} (ho : OpR X (compareOp op) r) (ha : PE X a ta) (hb : PE X b tb) (hm : behindInMarks op b = false) : PT X (.Compare a [op] [b] pos) (zcc (tOp r ta tb)) := by
  intro pins s σ H Q I h
  refine wpAny_isTrue_Compare1 (thn (ha pins s σ H _ I h) fun v s1 ⟨x, H1, I1, r1, q1⟩ => thn (hb pins s1 σ H1 _ I1 q1) fun u s2 ⟨y, H2, I2, r2, q2⟩ =>
    thn (ho pins s2 σ H2 x y v u _ I2 r1 r2 q2) fun c s3 ⟨z, H3, I3, r3, k, e, q3⟩ => ?_) hm
  subst e;cases r3;exact wpAny_truthy_bool ⟨H3, I3, q3⟩
def b9 (r r' : R2) (ta tb tc : TE) : TE := fun σ H Q => ta σ H fun x H1 => tb σ H1 fun y H2 => r x y H2 fun z H3 => ∃ k, z = .bl k /\
  (if k = true then tc σ H3 fun w' H4 => r' y w' H4 Q else Q (.bl false) H3)
theorem ig {op op' : CmpOp} {r r' : R2} (ho : OpR X (compareOp op) r) (ho' : OpR X (compareOp op') r') (ha : PE X a ta) (hb : PE X b tb) (hc : PE X c tc)
    (hm : lastMarks [op, op'] [b, c] = false := by with_unfolding_all rfl) : PE X (.Compare a [op, op'] [b, c] pos) (b9 r r' ta tb tc) := by
  intro pins s σ H Q I h
  refine Compare_chain (thn (ha pins s σ H _ I h) fun v s1 ⟨x, H1, I1, r1, q1⟩ => chain_link (thn (hb pins s1 σ H1 _ I1 q1) fun u s2 ⟨y, H2, I2, r2, q2⟩ =>
    thn (ho pins s2 σ H2 x y v u _ I2 r1 r2 q2) fun d s3 ⟨z, H3, I3, r3, k, e, q3⟩ => ?_)) hm
  subst e;cases r3;refine wpAny_truthy_bool ?_
  cases k with
  | false => exact ite_ff ⟨.bl false, H3, I3, rfl, q3⟩
  | true => exact ite_tt (chain_last (thn (hc pins s3 σ H3 _ I3 q3) fun w' s4 ⟨z', H4, I4, r4, q4⟩ => ho' pins s4 σ H4 y z' u w' Q I4 r2 r4 q4))
theorem ah {op op' : CmpOp} {r r' : R2} (ho : OpR X (compareOp op) r) (ho' : OpR X (compareOp op') r') (ha : PE X a ta) (hb : PE X b tb) (hc : PE X c tc)
    (hm : lastMarks [op, op'] [b, c] = false := by with_unfolding_all rfl) : PT X (.Compare a [op, op'] [b, c] pos) (zcc (b9 r r' ta tb tc)) := by
  intro pins s σ H Q I h
  refine isTrue_chain (thn (ha pins s σ H _ I h) fun v s1 ⟨x, H1, I1, r1, q1⟩ => test_link (thn (hb pins s1 σ H1 _ I1 q1) fun u s2 ⟨y, H2, I2, r2, q2⟩ =>
    thn (ho pins s2 σ H2 x y v u _ I2 r1 r2 q2) fun d s3 ⟨z, H3, I3, r3, k, e, q3⟩ => ?_)) hm
  subst e;cases r3;refine wpAny_truthy_bool ?_
  cases k with
  | false =>
    obtain ⟨k', e', q'⟩ := q3;cases e';exact ite_ff ⟨H3, I3, q'⟩
  | true =>
    refine ite_tt (test_last (thn (hc pins s3 σ H3 _ I3 q3) fun w' s4 ⟨z', H4, I4, r4, q4⟩ => thn (ho' pins s4 σ H4 y z' u w' _ I4 r2 r4 q4) fun d' s5 ⟨z2, H5, I5, r5, k2, e2, q5⟩ => ?_));subst e2;cases r5;exact wpAny_truthy_bool ⟨H5, I5, q5⟩
theorem mq : (sizeLine : Nat) < 2 ^ 63 := by rw [sizeLine_eq]; decide
theorem z6 : OpR X (binaryOp .Add) (fun x y H Q => ∃ i j, x = .str i /\ y = .str j /\ i.length + j.length <= sizeLine /\ Q (.str (i ++ j)) H) := by
  intro pins s σ H x y v u Q I rx ry h;obtain ⟨i, j, rfl, rfl, hz, q⟩ := h;obtain ⟨t, rfl⟩ := rx;obtain ⟨t', rfl⟩ := ry;exact add_str (fun t' tk => ⟨.str (i ++ j), H, I.tok _, ⟨_, rfl⟩, q⟩) hz
theorem qy {x : V} {us : List Value} (r : Vals [x] us) : ∃ u, us = [u] /\ RelV x u := by
  cases r with
  | cons r1 r2 => cases r2; exact ⟨_, rfl, r1⟩
theorem zfa : CallR X (.builtin "abs") (fun xs H Q => ∃ i, xs = [.int i] /\ Q (.int (if i < 0 then -i else i)) H) := by
  intro pins s σ H xs us Q I r h;obtain ⟨i, rfl, q⟩ := h;obtain ⟨u, rfl, t, rfl⟩ := qy r;exact call_abs_int fun u tk => ⟨.int (if i < 0 then -i else i), H, I.tok _, ⟨_, rfl⟩, q⟩
end
end L2
namespace L2
open PySem PySem.Spec PyProof.Rows
structure ObjM (h : Heap) (x dx C : Addr) (mA : Str -> Option Value) : Prop where
  obj : h.get? x = some (PySem.W.instObj C dx)
  ns : h.Ns1 dx mA
  ne : dx ≠ x
theorem zdj {h : Heap} {dx : Addr} {mA : Str -> Option Value} (n : h.Ns1 dx mA) : ∃ od, h.get? dx = some od /\ ∀ name, PySem.W.lookIn name od = some (mA name) := by
  obtain ⟨o, es, ep, ho, hd, hk, _, hm⟩ := n;refine ⟨o, ho, fun name => ?_⟩;have e := hm name;unfold nsFind findBy at e;rw [<- Array.find?_toList] at e;unfold PySem.W.lookIn;rw [hd];dsimp only
  split
  . rename_i y q
    rw [q] at e;exact congrArg some e
  . rename_i q
    rw [q] at e
    have a : es.toList.any (·.refKey) = false := by
      rw [List.any_eq_false];intro y hy;obtain ⟨z, t, hkey⟩ := hk y (Array.mem_toList_iff.mp hy);simp [DictEntry.refKey, hkey]
    have a' : ¬ es.toList.any (·.refKey) = true := by rw [a]; exact Bool.false_ne_true
    rw [if_neg a'];exact congrArg some e
theorem ObjM.look {h : Heap} {x dx C : Addr} {mA : Str -> Option Value} (I : ObjM h x dx C mA) : ∃ od, PySem.W.InstAt h x (PySem.W.instObj C dx) C (some od) /\ ∀ name, PySem.W.lookIn name od = some (mA name) :=
  let ⟨od, ho, hl⟩ := zdj I.ns
  ⟨od, ⟨I.obj, rfl, rfl, ho⟩, hl⟩
section
variable {prog : Program} {w : World} {A : Around} {E : Value -> Shared -> Prop} {s : Shared} {K : Fg} {x dx C f : Addr} {mA : Str -> Option Value} {name : Str} {v : Value}
theorem zhq {expr : Bool} {Q : Value -> Shared -> Prop} (X : K.In s.heap) (I : ObjM s.heap x dx C mA) (hg : PySem.W.plainGet K C name = true) (hh : PySem.W.hasDictIn K C = true)
    (ha : PySem.W.findIn K (.ref C) name = some none) (hv : mA name = some v) (hv' : PySem.W.handedIn v = true) (h : Q v { s with toks := s.toks + 1 }) :
    wpAny (model prog w) A (getAttr (.ref x) name expr) Q E s := by
  obtain ⟨od, J, hl⟩ := I.look;exact PySem.W.get_value X J (PySem.W.plainGet_of hg).1 (PySem.W.findObj_own hh ha rfl (by rw [hl, hv])) hv' h
theorem zfv {pl : Sem Bool} {Q : Value × List Value -> Shared -> Prop} (X : K.In s.heap) (I : ObjM s.heap x dx C mA) (hg : PySem.W.plainGet K C name = true)
    (hf : PySem.W.findIn K (.ref C) name = some (some (.ref f))) (ht : PySem.W.isFn K (.ref f) = true) (hv : mA name = none) (h : Q (.ref f, [.ref x]) s) :
    wpAny (model prog w) A (getMethod (.ref x) name pl) Q E s := by
  obtain ⟨od, J, hl⟩ := I.look;exact PySem.W.method_fn X J (PySem.W.plainGet_of hg).1 (PySem.W.plainGet_of hg).2 hf (beq_iff_eq.mp ht) (by show (PySem.W.lookIn name od).map (·.isSome) = some false; rw [hl, hv]; rfl) h
theorem zht {ns : List Str} {Q : Unit -> Shared -> Prop} (X : K.In s.heap) (I : ObjM s.heap x dx C mA)
    (hs : PySem.W.findIn K (.ref C) "__setattr__" = some (some (.builtin "object.__setattr__"))) (hp : PySem.W.plainOver K C = true) (ht : PySem.W.takerIn K C name = some none) (hh : PySem.W.hasDictIn K C = true)
    (hw : PySem.Within mA ns) (hsz : ns.length <= sizeLine)
    (h : ∀ h', ObjM h' x dx C (fun y => if y = name then some v else mA y) -> Heap.SameBut dx s.heap h' -> Q () { s with heap := h', toks := s.toks + 2 }) :
    wpAny (model prog w) A (setAttr (.ref x) name v) Q E s := by
  obtain ⟨od, J, hl⟩ := I.look;refine PySem.W.set_plain X J hs (PySem.W.osa_open (s := { s with toks := s.toks + 1 }) (r := none) X J hp ht fun b => ?_);obtain ⟨cd, hc, hd'⟩ := PySem.W.any_some hh;have hx : s.heap.get? x = some ⟨.ref C, some dx, .plain, #[]⟩ := I.obj;refine wpAny_bind (wpAny_pure (wpAny_bind (wpAny_bind (wpAny_loadPart hx (wpAny_bind (PySem.W.Looks.here (s := { s with toks := s.toks + 1 }) (PySem.W.looks_clsIn X hc) ?_))))));rw [hd'];refine wpAny_pure (a := some dx) (wpAny_bind (wpAny_pure (wpAny_bind ?_)));refine wpAny_nsSet1 (s := { s with toks := s.toks + 1 }) I.ns fun h' hn2 hs2 => ?_
  obtain ⟨oD, esD, epD, hoD, hdD, hcD⟩ := hn2.count (PySem.Within.cons name v hw);refine wpAny_bind (wpAny_lookBehind hoD (by rw [hdD]; exact pastItsLine_dict (Zd hcD (by rw [ZL]; omega))) ?_);exact wpAny_pure (h _ ⟨(hs2.2 _ (Ne.symm I.ne)).trans I.obj, hn2, I.ne⟩ hs2)
theorem zfg {R : Result -> Shared -> Prop} {vs : List Value} {kw : List (Str × Value)} (X : K.In s.heap) (hm : PySem.W.makesIn K C = true)
    (hi : PySem.W.findIn K (.ref C) "__init__" = some (some (.ref f))) (hf : PySem.W.typeIn K (.ref f) = some (.type "function"))
    (h : codeAny (model prog w) (A.under (.builtin "type.__call__" ⟨.ref C :: vs, kw⟩)) (.call (.ref f) ⟨.ref (s.heap.objs.size + 1) :: vs, kw⟩) (PySem.W.InitBack (s.heap.objs.size + 1) R)
      { s with heap := (s.heap.push PySem.W.emptyDict).push (PySem.W.instObj C s.heap.objs.size) }) :
    codeAny (model prog w) A (.call (.ref C) ⟨vs, kw⟩) R s := by
  obtain ⟨hh, g, d, t, os⟩ := s;exact PySem.W.make_core (PySem.W.makes_of X hm) (PySem.W.looks_findIn X hi) (fun self => PySem.W.bind_fn X self hf) (.inl rfl) h
end
def putF (f : Str) (v : V) : List (Str × V) -> List (Str × V)
  | [] => [(f, v)]
  | (g, x) :: r => if g = f then (g, v) :: r else (g, x) :: putF f v r
theorem jx (f g : Str) (v : V) : ∀ fs : List (Str × V), (putF f v fs).lookup g = if g = f then some v else fs.lookup g
  | [] => by
    show List.lookup g [(f, v)] = _
    by_cases h : g = f
    . have hb : (g == f) = true := beq_iff_eq.mpr h
      simp only [List.lookup, hb, if_pos h]
    . have hb : (g == f) = false := beq_eq_false_iff_ne.mpr h
      simp only [List.lookup, hb, if_neg h]
  | (k, x) :: r => by
    have ih := jx f g v r;rw [show putF f v ((k, x) :: r) = (if k = f then (k, v) :: r else (k, x) :: putF f v r) from rfl]
    by_cases hk : k = f
    . rw [if_pos hk]
      by_cases h : g = k
      . have hb : (g == k) = true := beq_iff_eq.mpr h
        simp only [List.lookup, hb, if_pos (h.trans hk)]
      . have hb : (g == k) = false := beq_eq_false_iff_ne.mpr h
        simp only [List.lookup, hb, if_neg (fun e : g = f => h (e.trans hk.symm))]
    . rw [if_neg hk]
      by_cases h : g = k
      . have hb : (g == k) = true := beq_iff_eq.mpr h
        simp only [List.lookup, hb, if_neg (fun e : g = f => hk (h.symm.trans e))]
      . have hb : (g == k) = false := beq_eq_false_iff_ne.mpr h
        simp only [List.lookup, hb];exact ih
theorem k9 (f : Str) (v : V) : ∀ fs : List (Str × V), f ∈ (putF f v fs).map (·.1) /\ ∀ g, g ∈ fs.map (·.1) -> g ∈ (putF f v fs).map (·.1)
  | [] => ⟨by simp [putF], fun g h => by simp at h⟩
  | (k, x) :: r => by
    obtain ⟨i1, i2⟩ := k9 f v r;rw [show putF f v ((k, x) :: r) = (if k = f then (k, v) :: r else (k, x) :: putF f v r) from rfl]
    by_cases hk : k = f
    . rw [if_pos hk]
      subst hk;exact ⟨by simp, fun g h => by simpa using h⟩
    . rw [if_neg hk]
      refine ⟨?_, fun g h => ?_⟩
      . rw [ZM]
        exact Zv _ i1
      . rw [ZM] at h ⊢
        rcases ZK.mp h with e | e
        . exact ZK.mpr (.inl e)
        . exact Zv _ (i2 g e)
theorem j0 (f : Str) (v : V) : ∀ fs : List (Str × V), (putF f v fs).length <= fs.length + 1
  | [] => by simp [putF]
  | (k, x) :: r => by
    have ih := j0 f v r;rw [show putF f v ((k, x) :: r) = (if k = f then (k, v) :: r else (k, x) :: putF f v r) from rfl]
    by_cases hk : k = f
    . rw [if_pos hk, ZL, ZL]; omega
    . rw [if_neg hk, ZL, ZL]; omega
theorem RelO.some_of {v : V} {o : Option Value} (r : RelO (some v) o) : ∃ u, o = some u /\ RelV v u := by
  cases o with
  | none => exact (show False from r).elim
  | some u => exact ⟨u, rfl, r⟩
theorem RelO.none_of {o : Option Value} (r : RelO none o) : o = none := by
  cases o with
  | none => rfl
  | some u => exact (show False from r).elim
theorem zdl {v : V} {u : Value} (r : RelV v u) : PySem.W.handedIn u = true := by
  cases v with
  | non => cases (show u = Value.none from r); rfl
  | bl b => cases (show u = Value.bool b from r); rfl
  | int i => obtain ⟨t, e⟩ := (show ∃ t, u = Value.int i t from r); cases e; rfl
  | str x => obtain ⟨t, e⟩ := (show ∃ t, u = Value.str x t from r); cases e; rfl
  | byt b => obtain ⟨t, e⟩ := (show ∃ t, u = Value.bytes b t from r); cases e; rfl
  | flt b => obtain ⟨t, e⟩ := (show ∃ t, u = Value.float b t from r); cases e; rfl
  | ref a => cases (show u = Value.ref a from r); rfl
  | ty n => cases (show u = Value.type n from r); rfl
section
variable {P : Program} {w : World} {H H' : Hp} {h h' : Heap} {a C dx : Addr} {fs fs' : List (Str × V)}
theorem js (hok : HOk P w H h) (e : H a = some (.ins C dx fs)) : ∃ mA, ObjM h a dx C mA /\ (∀ f, RelO (fs.lookup f) (mA f)) /\ PySem.Within mA (fs.map (·.1)) /\ fs.length <= 1000 /\ H dx = some (.own a) := by
  obtain ⟨d, z, ne, ob, mA, n, r, q⟩ := (show ObjOk P w H h a (.ins C dx fs) from hok a _ e);exact ⟨mA, ⟨ob, n, ne⟩, r, q, z, d⟩
end
structure Cls (K : Fg) (C : Addr) : Prop where
  pg : PySem.W.plainGet K C Str.empty = true
  hd : PySem.W.hasDictIn K C = true
  po : PySem.W.plainOver K C = true
  sa : PySem.W.findIn K (.ref C) "__setattr__" = some (some (.builtin "object.__setattr__"))
theorem Cls.get {K : Fg} {C : Addr} (c : Cls K C) (f : Str) : PySem.W.plainGet K C f = true := c.pg
def NoAttr (K : Fg) (C : Addr) (f : Str) : Prop := PySem.W.findIn K (.ref C) f = some none
theorem NoAttr.taker {K : Fg} {C : Addr} {f : Str} (n : NoAttr K C f) : PySem.W.takerIn K C f = some none := by
  unfold PySem.W.takerIn;rw [show PySem.W.findIn K (.ref C) f = some none from n];rfl
structure Meth (K : Fg) (C : Addr) (m : Str) (f : Addr) : Prop where
  at_ : PySem.W.findIn K (.ref C) m = some (some (.ref f))
  fn : PySem.W.isFn K (.ref f) = true
  kp : PySem.W.keepIn K (.ref f) = true
section
variable {X : Cx} {pins : List (Addr × Obj)} {σ : St} {H : Hp} {s : Shared} {a C dx : Addr} {fs : List (Str × V)} {f : Str} {v : V} {A : Around} {E : Value -> Shared -> Prop}
theorem zbx {b : Bool} {Q : Value -> Shared -> Prop} (I : Inv X pins σ H s) (e : H a = some (.ins C dx fs)) (c : Cls X.K C) (n : NoAttr X.K C f) (l : fs.lookup f = some v)
    (h : ∀ u s', Inv X pins σ H s' -> RelV v u -> Q u s') : wpAny (model X.prog X.w) A (getAttr (.ref a) f b) Q E s := by
  obtain ⟨mA, O, r, _, _, _⟩ := js I.hok e;obtain ⟨u, hu, ru⟩ := RelO.some_of (v := v) (o := mA f) (by rw [<- l]; exact r f);exact zhq I.kIn O (c.get f) c.hd n hu (zdl ru) (h u _ (I.tok _) ru)
theorem zc1 {m : Str} {g : Addr} {pl : Sem Bool} {Q : Value × List Value -> Shared -> Prop} (I : Inv X pins σ H s) (e : H a = some (.ins C dx fs)) (c : Cls X.K C) (k : Meth X.K C m g) (l : fs.lookup m = none)
    (h : Q (.ref g, [.ref a]) s) : wpAny (model X.prog X.w) A (getMethod (.ref a) m pl) Q E s := by
  obtain ⟨mA, O, r, _, _, _⟩ := js I.hok e;have hn : mA m = none := RelO.none_of (by rw [<- l]; exact r m);exact zfv I.kIn O (c.get m) k.at_ k.fn hn h
theorem zc0 {y : V} {u : Value} {Q : Unit -> Shared -> Prop} (I : Inv X pins σ H s) (e : H a = some (.ins C dx fs)) (c : Cls X.K C) (n : NoAttr X.K C f) (hl : fs.length < 1000) (ry : RelV y u)
    (h : ∀ s', Inv X pins σ (upd H a (.ins C dx (putF f y fs))) s' -> Q () s') : wpAny (model X.prog X.w) A (setAttr (.ref a) f u) Q E s := by
  obtain ⟨mA, O, r, wi, _, ho⟩ := js I.hok e;have hz : (fs.map (·.1)).length <= sizeLine := by rw [Za, sizeLine_eq]; omega
  refine zht I.kIn O c.sa c.po n.taker c.hd wi hz fun h' O' sb => h _ ?_
  have hd : ∃ o, h'.get? dx = some o := let ⟨o, _, _, e', _⟩ := O'.ns; ⟨o, e'⟩;refine I.write (x := a) (e := dx) (by rw [e]; exact True.intro) (.inr ho) (fun b q hb z => (sb.2 b hb).trans z) hd ?_;refine ⟨by rw [z8 O.ne]; exact ho, ?_, O.ne, O'.obj, _, O'.ns, fun g => ?_, fun g hg => ?_⟩
  . have := j0 f y fs; omega
  . show RelO ((putF f y fs).lookup g) (if g = f then some u else mA g)
    rw [jx]
    by_cases q : g = f
    . rw [if_pos q, if_pos q]; exact ry
    . rw [if_neg q, if_neg q]; exact r g
  . by_cases q : g = f
    . rw [q]; exact (k9 f y fs).1
    . refine (k9 f y fs).2 g (wi g fun z => hg ?_)
      show (if g = f then some u else mA g) = none
      rw [if_neg q]; exact z
theorem Inv.made (I : Inv X pins σ H s) : Inv X pins σ (upd (upd H s.heap.objs.size (.own (s.heap.objs.size + 1))) (s.heap.objs.size + 1) (.ins C s.heap.objs.size []))
    { s with heap := (s.heap.push PySem.W.emptyDict).push (PySem.W.instObj C s.heap.objs.size) } := by
  have e1 : (s.heap.push PySem.W.emptyDict).get? s.heap.objs.size = some PySem.W.emptyDict := Heap.get?_push_size s.heap rfl
  have e2 : ((s.heap.push PySem.W.emptyDict).push (PySem.W.instObj C s.heap.objs.size)).get? (s.heap.objs.size + 1) = some (PySem.W.instObj C s.heap.objs.size) := by
    have := Heap.get?_push_size (s.heap.push PySem.W.emptyDict) (o := PySem.W.instObj C s.heap.objs.size) rfl
    rwa [Heap.size_push] at this
  have e3 : (s.heap.push PySem.W.emptyDict).Ns s.heap.objs.size (fun _ => none) := ⟨PySem.W.emptyDict, #[], _, e1, rfl, (fun e he => absurd he (by simp)), fun _ => rfl⟩;have I1 := I.laid (a := s.heap.objs.size) (o := .own (s.heap.objs.size + 1)) (h' := s.heap.push PySem.W.emptyDict) (t' := s.toks) (fun b u q => Heap.get?_push_of_some _ q) (Zm _) ⟨_, e1⟩;refine I1.laid (a := s.heap.objs.size + 1) (o := .ins C s.heap.objs.size []) (t' := s.toks) (fun b u q => Heap.get?_push_of_some _ q) (YG (Heap.size_push _ _)) ?_;have ne : s.heap.objs.size ≠ s.heap.objs.size + 1 := Zs (Yt _);refine ⟨by rw [z8 ne, zc], ZE _, ne, e2, fun _ => none, (Heap.Ns1.of_empty e3).at fun o q => Heap.get?_push_of_some _ q, fun _ => True.intro, fun y hy => absurd rfl hy⟩
theorem zgn {prog : Program} {w : World} {env : Env} {e : Expr} {f : Str} {pos : Pos} {s : Shared} {Q : Value -> Shared -> Prop} (hb : attributeBase e f env (eval e env) = eval e env)
    (h : wpAny (model prog w) A (eval e env) (fun o s₁ => wpAny (model prog w) A (getAttr o f true) Q E s₁) E s) : wpAny (model prog w) A (eval (.Attribute e f pos) env) Q E s :=
  Attribute_any_ h (by rw [arm_eval_Attribute, hb])
end
def tFld (K : Fg) (ta : TE) (f : Str) : TE := fun σ H Q => ta σ H fun x H1 => ∃ a C dx fs v, x = .ref a /\ H1 a = some (.ins C dx fs) /\ Cls K C /\ NoAttr K C f /\ fs.lookup f = some v /\ Q v H1
def sFld (K : Fg) (ta tv : TE) (f : Str) : TS := fun D σ H => tv σ H fun y H1 => ta σ H1 fun x H2 => ∃ a C dx fs, x = .ref a /\ H2 a = some (.ins C dx fs) /\ Cls K C /\ NoAttr K C f /\ fs.length < 1000 /\
  D.nx σ (upd H2 a (.ins C dx (putF f y fs)))
section
variable {X : Cx} {o e value : Expr} {f : Str} {pos pos' tpos : Pos} {ta tv : TE}
theorem ky (he : PE X e ta) (hb : attributeBase e f X.env (eval e X.env) = eval e X.env) : PE X (.Attribute e f pos) (tFld X.K ta f) := by
  intro pins s σ H Q I h;refine zgn hb (thn (he pins s σ H _ I h) fun u s1 ⟨x, H1, I1, rx, a, C, dx, fs, v, ex, ea, c, n, l, q⟩ => ?_);subst ex;obtain rfl : u = Value.ref a := rx;exact zbx I1 ea c n l fun u' s2 I2 ru => ⟨v, H1, I2, ru, q⟩
theorem ku (ha : PE X o ta) (hv : PE X value tv) (hs : swapsWith value (some (.Attribute o f pos')) pos.line X.env = pure false) : PS X (.Assign [.Attribute o f pos'] value pos) (sFld X.K ta tv f) := by
  intro pins s σ H D I h;refine plainObj_wpAny_Assign_Attribute (thn (hv pins s σ H _ I h) fun u s1 ⟨y, H1, I1, ry, q⟩ => thn (ha pins s1 σ H1 _ I1 q) fun ov s2 ⟨x, H2, I2, rx, a, C, dx, fs, ex, ea, c, n, l, q2⟩ => ?_) hs;subst ex;obtain rfl : ov = Value.ref a := rx;exact zc0 I2 ea c n l ry fun s3 I3 => ⟨σ, _, I3, q2⟩
end
section
variable {X : Cx} {pins : List (Addr × Obj)} {σ : St} {H : Hp} {s : Shared} {A : Around} {E : Value -> Shared -> Prop} {Q : Value -> Shared -> Prop} {c : Value} {b : Bool}
inductive TyOf (K : Fg) (H : Hp) : V -> Value -> Prop where
  | non : TyOf K H .non (.type "NoneType")
  | bl (x : Bool) : TyOf K H (.bl x) (.type "bool")
  | int (i : Int) : TyOf K H (.int i) (.type "int")
  | str (x : Str) : TyOf K H (.str x) (.type "str")
  | flt (x : UInt64) : TyOf K H (.flt x) (.type "float")
  | lst {a : Addr} {xs : List V} (e : H a = some (.lst xs)) : TyOf K H (.ref a) (.type "list")
  | frz {a : Addr} {o : Obj} {xs : List V} (e : H a = some (.frz o (.lst xs))) : TyOf K H (.ref a) (.type "list")
  | tup {a : Addr} {xs : List V} (e : H a = some (.tup xs)) : TyOf K H (.ref a) (.type "tuple")
  | dK {a : Addr} {kvs : List (Key × V)} (e : H a = some (.dK kvs)) : TyOf K H (.ref a) (.type "dict")
  | dT {a : Addr} {kvs : List (List Key × V)} (e : H a = some (.dT kvs)) : TyOf K H (.ref a) (.type "dict")
  | ins {a C dx : Addr} {fs : List (Str × V)} (e : H a = some (.ins C dx fs)) (cl : Cls K C) (ha : PySem.W.findIn K (.ref C) "__class__" = some (some (.builtin "object.__class__")))
      (hn : PySem.W.specialIn K (.builtin "object.__class__") "__get__" = some (some (.builtin "getset_descriptor.__get__"))) (htk : PySem.W.takesIn K (.builtin "object.__class__") = some true)
      (hm : PySem.W.mroIn K C (.type "object") = some true) : TyOf K H (.ref a) (.ref C)
theorem zee {x : V} {u t : Value} (I : Inv X pins σ H s) (rx : RelV x u) (ty : TyOf X.K H x t) (e : PySem.W.kitOne X.K t c = some b) (h : ∀ tk, Q (.bool b) { s with toks := tk }) :
    wpAny (model X.prog X.w) A (call (.builtin "isinstance") [u, c]) Q E s := by
  cases ty with
  | non => cases (show u = Value.none from rx); exact PySem.W.kia_one PySem.W.kitx_none I.kIn True.intro e (fun z => nomatch z) h
  | bl y => cases (show u = Value.bool y from rx); exact PySem.W.kia_one PySem.W.kitx_bool I.kIn True.intro e (fun z => nomatch z) h
  | int i => obtain ⟨t, q⟩ := (show ∃ t, u = Value.int i t from rx); cases q; exact PySem.W.kia_one PySem.W.kitx_int I.kIn True.intro e (fun z => nomatch z) h
  | str y => obtain ⟨t, q⟩ := (show ∃ t, u = Value.str y t from rx); cases q; exact PySem.W.kia_one PySem.W.kitx_str I.kIn True.intro e (fun z => nomatch z) h
  | flt y => obtain ⟨t, q⟩ := (show ∃ t, u = Value.float y t from rx); cases q; exact PySem.W.kia_one PySem.W.kitx_float I.kIn True.intro e (fun z => nomatch z) h
  | @lst a xs ea =>
    cases (show u = Value.ref a from rx);obtain ⟨_, _, n, _, h1⟩ := (show ObjOk X.prog X.w H s.heap a (.lst xs) from I.hok a _ ea);exact PySem.W.kia_one PySem.W.kitx_list I.kIn ⟨_, h1, rfl⟩ e (fun z => nomatch z) h
  | @frz a ob xs ea =>
    cases (show u = Value.ref a from rx);obtain ⟨_, _, _, n, _, h1⟩ := (show ObjOk X.prog X.w H s.heap a (.frz ob (.lst xs)) from I.hok a _ ea);exact PySem.W.kia_one PySem.W.kitx_list I.kIn ⟨_, h1, rfl⟩ e (fun z => nomatch z) h
  | @tup a xs ea =>
    cases (show u = Value.ref a from rx);obtain ⟨_, _, _, p⟩ := (show ObjOk X.prog X.w H s.heap a (.tup xs) from I.hok a _ ea);obtain ⟨o, h1, h2, _⟩ := p;exact PySem.W.kia_one PySem.W.kitx_tuple I.kIn ⟨o, h1, h2⟩ e (fun z => nomatch z) h
  | @dK a kvs ea =>
    cases (show u = Value.ref a from rx);obtain ⟨_, _, vs, _, p⟩ := (show ObjOk X.prog X.w H s.heap a (.dK kvs) from I.hok a _ ea);obtain ⟨o, es, ep, h1, h2, _⟩ := p;exact PySem.W.kia_one PySem.W.kitx_dict I.kIn ⟨o, h1, h2.1⟩ e (fun z => nomatch z) h
  | @dT a kvs ea =>
    cases (show u = Value.ref a from rx);obtain ⟨_, _, xs, _, o, es, ep, h1, h2, _⟩ := (show ObjOk X.prog X.w H s.heap a (.dT kvs) from I.hok a _ ea);exact PySem.W.kia_one PySem.W.kitx_dict I.kIn ⟨o, h1, h2.1⟩ e (fun z => nomatch z) h
  | @ins a C dx fs ea cl ha hn htk hm =>
    cases (show u = Value.ref a from rx);obtain ⟨mA, O, _⟩ := js I.hok ea;obtain ⟨od, J, _⟩ := O.look;exact PySem.W.kia_one (PySem.W.kitx_own (cl.get _) cl.hd ha hn htk hm) I.kIn J e (fun z => nomatch z) h
end
end L2
namespace L2
open PySem PySem.Spec PyProof.Rows
structure Room (k : Nat) (A : Around) : Prop where
  hd : A.handled = none
  dp : A.depth + 3 * k + 5 < recursionLimit
  un : A.units + 16 * k + 200 < cLine
theorem Room.mono {j k : Nat} {A : Around} (r : Room k A) (h : j <= k) : Room j A := ⟨r.hd, by have := r.dp; omega, by have := r.un; omega⟩
theorem Room.deeper {k : Nat} {A : Around} (r : Room (k + 1) A) (env : Env) : Room k (A.deeper env) :=
  ⟨r.hd, by have := r.dp; show A.depth + 1 + 3 * k + 5 < _; omega, by have := r.un; show A.units + 3 + 16 * k + 200 < _; omega⟩
theorem Room.in1 {k : Nat} {A : Around} (r : Room (k + 1) A) : Room k A.in1 :=
  ⟨r.hd, by have := r.dp; show A.depth + 3 * k + 5 < _; omega, by have := r.un; show A.units + 1 + 16 * k + 200 < _; omega⟩
theorem zci {A : Around} {C : Addr} {us : List Value} {kw : List (Str × Value)} : (A.under (.builtin "type.__call__" ⟨.ref C :: us, kw⟩)).depth = A.depth + 1 := by
  first | rfl | simp [Around.under, Code.weight, Code.isCreation, Code.isGuard, Code.isCaller, Code.frames, Code.isFrame, guardIds]
theorem zbz {A : Around} {C : Addr} {us : List Value} {kw : List (Str × Value)} : (A.under (.builtin "type.__call__" ⟨.ref C :: us, kw⟩)).units = A.units + 1 := by
  first | rfl | simp [Around.under, Code.cUnits, Code.frames, Code.isFrame]
theorem Room.make {k : Nat} {A : Around} (r : Room (k + 1) A) (C : Addr) (us : List Value) (kw : List (Str × Value)) : Room k (A.under (.builtin "type.__call__" ⟨.ref C :: us, kw⟩)) :=
  ⟨r.hd, by have := r.dp; rw [zci]; omega, by have := r.un; rw [zbz]; omega⟩
theorem Room.depth {k : Nat} {A : Around} (r : Room k A) : A.depth < recursionLimit := by have := r.dp; omega
theorem Room.units {k : Nat} {A : Around} (r : Room k A) : A.units + 64 < cLine := by have := r.un; omega
def tNil : TA := fun _ H Q => Q [] H
def tCons (ta : TE) (tr : TA) : TA := fun σ H Q => ta σ H fun x H1 => tr σ H1 fun xs H2 => Q (x :: xs) H2
section
variable {X : Cx} {e : Expr} {es : List Expr} {te : TE} {t : TA} {pos : Pos}
theorem zb : PA X [] tNil := fun _ _ _ _ H Q I h => Calls.spliced_nil ⟨[], H, I, .nil, h⟩
theorem za (ha : PE X e te) (hr : PA X es t) (hs : starEach (e :: es) X.env = (false, eval e X.env) :: starEach es X.env := by rfl) : PA X (e :: es) (tCons te t) := by
  intro pos pins s σ H Q I h;rw [hs]
  show wpAny _ _ (spliced ((false, eval e X.env) :: backTo pos (starEach es X.env))) _ _ s
  refine Calls.spliced_cons (thn (ha pins s σ H _ I h) fun u s1 ⟨x, H1, I1, r1, q1⟩ => ?_);exact thn (hr pos pins s1 σ H1 _ I1 q1) fun us s2 ⟨xs, H2, I2, r2, q2⟩ => ⟨x :: xs, H2, I2, .cons r1 r2, q2⟩
def tTup (t : TA) : TE := fun σ H Q => t σ H fun xs H1 => xs.length <= sizeLine /\ ∀ p, H1 p = none -> Q (.ref p) (upd H1 p (.tup xs))
def tLst (t : TA) : TE := fun σ H Q => t σ H fun xs H1 => xs.length <= sizeLine /\ ∀ p, H1 p = none -> Q (.ref p) (upd H1 p (.lst xs))
theorem y0 {x1} (h : PA X es t) : PE X (.Tuple es x1 pos) (tTup t) := by
  intro pins s σ H Q I hq;refine wpAny_Tuple_spliced (thn (h pos pins s σ H _ I hq) fun us s1 ⟨xs, H1, I1, r, z, q⟩ => ⟨by rw [<- r.length]; exact z, ?_⟩);have hf : H1 s1.heap.objs.size = none := I1.hok.fresh (Zm _);refine ⟨.ref s1.heap.objs.size, upd H1 s1.heap.objs.size (.tup xs), I1.laid (t' := s1.toks) (fun b u e => Heap.get?_push_of_some _ e) (Zm _) ?_, rfl, q _ hf⟩;exact ⟨z, us, r, ⟨_, Heap.get?_push_size _ rfl, rfl, _, rfl, rfl⟩⟩
theorem y3 (h : PA X es t) : PE X (.List es pos) (tLst t) := by
  intro pins s σ H Q I hq;refine wpAny_List_spliced (thn (h pos pins s σ H _ I hq) fun us s1 ⟨xs, H1, I1, r, z, q⟩ => ⟨by rw [<- r.length]; exact z, ?_⟩);have hf : H1 s1.heap.objs.size = none := I1.hok.fresh (Zm _);refine ⟨.ref s1.heap.objs.size, upd H1 s1.heap.objs.size (.lst xs), I1.laid (t' := s1.toks) (fun b u e => Heap.get?_push_of_some _ e) (Zm _) ?_, rfl, q _ hf⟩;exact ⟨z, us, 0, r, Heap.get?_push_size _ rfl⟩
end
abbrev Sp := List V -> Hp -> VK -> XK -> Prop
abbrev CXT := List Env -> Hp -> Shared -> XK -> Value -> Shared -> Prop
structure Env0 (P : Program) (w : World) (K : Fg) (mg : Str -> Option Value) (base : Heap) (A : Around) (outer : List Env) (s : Shared) (H : Hp) : Prop where
  frames : A.frames = some outer
  mod : Mod K mg base
  bs : ∀ b o, base.get? b = some o -> s.heap.get? b = some o /\ H b = none
  bsz : base.objs.size <= s.heap.objs.size
  funs : s.heap.FunFrames base outer
  frf : ∀ b ∈ frs outer, H b = none
  hok : HOk P w H s.heap
  bare : AllBare s.gens
def CE (outer : List Env) (P : Program) (w : World) (H : Hp) (s : Shared) (Q : VK) (u : Value) (s' : Shared) : Prop :=
  ∃ v H', s'.os = s.os /\ AllBare s'.gens /\ Un (frs outer) [] H H' s.heap s'.heap /\ HOk P w H' s'.heap /\ RelV v u /\ Q v H'
def CR (CX : CXT) (outer : List Env) (P : Program) (w : World) (H : Hp) (s : Shared) (Q : VK) (E : XK) (r : Result) (s' : Shared) : Prop :=
  match r with
  | .ok (.ret u) => CE outer P w H s Q u s'
  | .ok _ => False
  | .error e => CX outer H s E e s'
structure FnOk (P : Program) (w : World) (K : Fg) (mg : Str -> Option Value) (base : Heap) (CX : CXT) (k : Nat) (f : Addr) (fd : FuncData) (ps : List Str) (sp : Sp) : Prop where
  len : ∀ vs H Q E, sp vs H Q E -> vs.length = ps.length
  run : ∀ (A : Around) (outer : List Env) (s : Shared) (H : Hp) (args : Args) (us : List Value) (vs : List V) (Q : VK) (E : XK), Room k A -> Env0 P w K mg base A outer s H -> BindsTo s fd args (ps.zip us) -> Vals vs us -> sp vs H Q E ->
    codeAny (model P w) A (.call (.ref f) args) (CR CX outer P w H s Q E) s
theorem FnOk.mono {P : Program} {w : World} {K : Fg} {mg : Str -> Option Value} {base : Heap} {CX : CXT} {j k : Nat} {f : Addr} {fd : FuncData} {ps : List Str} {sp : Sp} (F : FnOk P w K mg base CX j f fd ps sp) (h : j <= k) :
    FnOk P w K mg base CX k f fd ps sp := ⟨F.len, fun A outer s H args us vs Q E hr => F.run A outer s H args us vs Q E (hr.mono h)⟩
theorem FnOk.imp {P : Program} {w : World} {K : Fg} {mg : Str -> Option Value} {base : Heap} {CX : CXT} {k : Nat} {f : Addr} {fd : FuncData} {ps : List Str} {sp sp' : Sp} (F : FnOk P w K mg base CX k f fd ps sp)
    (h : ∀ vs H Q E, sp' vs H Q E -> sp vs H Q E) : FnOk P w K mg base CX k f fd ps sp' :=
  ⟨fun vs H Q E q => F.len vs H Q E (h _ _ _ _ q), fun A outer s H args us vs Q E hr he hb hv hs => F.run A outer s H args us vs Q E hr he hb hv (h _ _ _ _ hs)⟩
theorem Env0.make {P : Program} {w : World} {K : Fg} {mg : Str -> Option Value} {base : Heap} {A : Around} {outer : List Env} {s : Shared} {H : Hp} (e : Env0 P w K mg base A outer s H) (C : Addr) (us : List Value) (kw : List (Str × Value)) :
    Env0 P w K mg base (A.under (.builtin "type.__call__" ⟨.ref C :: us, kw⟩)) outer s H := ⟨by first | exact e.frames | (simpa [Around.under, Code.envs, Code.isFrame, pushEnvs] using e.frames), e.mod, e.bs, e.bsz, e.funs, e.frf, e.hok, e.bare⟩
theorem Env0.in1 {P : Program} {w : World} {K : Fg} {mg : Str -> Option Value} {base : Heap} {A : Around} {outer : List Env} {s : Shared} {H : Hp} (e : Env0 P w K mg base A outer s H) :
    Env0 P w K mg base A.in1 outer s H := ⟨e.frames, e.mod, e.bs, e.bsz, e.funs, e.frf, e.hok, e.bare⟩
section
variable {X : Cx} {pins : List (Addr × Obj)} {σ : St} {H : Hp} {s s' : Shared}
theorem Inv.env0 (I : Inv X pins σ H s) : Env0 X.prog X.w X.K X.mg X.base X.A X.stack s H :=
  ⟨I.ok.frames, I.ok.mod, I.bs, Zd I.ok.bsz I.sz, I.stack, I.stkFree, I.hok, I.bare⟩
theorem Inv.after {Q : VK} {u : Value} (I : Inv X pins σ H s) (h : CE X.stack X.prog X.w H s Q u s') : EP X pins σ Q u s' := by
  obtain ⟨v, H', os, bare, un, hok, r, q⟩ := h;obtain ⟨hh, g, d, t, os'⟩ := s';obtain rfl : os' = s.os := os;exact ⟨v, H', I.call (h' := hh) (g' := g) (d' := d) (t' := t) (ch := []) un hok bare (fun b z => absurd z (by simp)), r, q⟩
end
def zcq (sp : Sp) (dvs : List V) (E : XK) (t : TA) : TE := fun σ H Q => t σ H fun vs H1 => sp (vs ++ dvs) H1 Q E
def cb (C : Addr) (m : Str) (sp : Sp) (dvs : List V) (E : XK) (ta : TE) (t : TA) : TE := fun σ H Q => ta σ H fun x H1 => ∃ a dx fs, x = .ref a /\ H1 a = some (.ins C dx fs) /\ fs.lookup m = none /\
  t σ H1 fun vs H2 => sp (x :: (vs ++ dvs)) H2 Q E
def ce (C : Addr) (sp : Sp) (dvs : List V) (E : XK) (t : TA) : TE := fun σ H Q => t σ H fun vs H1 => ∀ x dx, H1 x = none -> H1 dx = none -> dx ≠ x ->
  sp (.ref x :: (vs ++ dvs)) (upd (upd H1 dx (.own x)) x (.ins C dx [])) (fun v H2 => v = .non /\ Q (.ref x) H2) E
def Binds (K : Fg) (fd : FuncData) (ps : List Str) (ds : List Value) : Prop :=
  ∀ (s : Shared) (us : List Value), K.In s.heap -> (us ++ ds).length = ps.length -> BindsTo s fd ⟨us, []⟩ (ps.zip (us ++ ds))
theorem Binds.all {K : Fg} {fd : FuncData} {ps : List Str} (h : ∀ us : List Value, us.length = ps.length -> bindArgs fd ⟨us, []⟩ = pure (ps.zip us)) : Binds K fd ps [] := fun s us _ hl => by
  rw [ZO] at hl ⊢;exact .of_eq (h us hl)
def qj (CX : CXT) (X : Cx) (E : XK) : Prop := ∀ (pins : List (Addr × Obj)) (σ : St) (H : Hp) (s : Shared) (e : Value) (s' : Shared), Inv X pins σ H s -> CX X.stack H s E e s' -> X.xe e s'
section
variable {X : Cx} {CX : CXT} {k : Nat} {f C : Addr} {fd : FuncData} {ps : List Str} {sp : Sp} {dvs : List V} {ds : List Value} {E : XK} {x m : Str} {p pos apos : Pos} {e o : Expr} {es : List Expr} {ta : TE} {t : TA}
theorem zdg {pins : List (Addr × Obj)} {σ : St} {H : Hp} {s : Shared} {Q : VK} {us : List Value} {vs : List V} (F : FnOk X.prog X.w X.K X.mg X.base CX k f fd ps sp) (hr : Room k X.A) (hb : Binds X.K fd ps ds) (hd : Vals dvs ds) (hx : qj CX X E)
    (I : Inv X pins σ H s) (r : Vals vs us) (h : sp (vs ++ dvs) H Q E) : wpAny (model X.prog X.w) X.A (call (.ref f) us) (EP X pins σ Q) X.xe s := by
  have r2 : Vals (vs ++ dvs) (us ++ ds) := r.append hd;have hl : (us ++ ds).length = ps.length := by rw [<- r2.length]; exact F.len _ _ _ _ h
  refine wpAny_call (codeAny_mono (F.run X.A X.stack s H ⟨us, []⟩ (us ++ ds) (vs ++ dvs) Q E hr I.env0 (hb s us I.kIn hl) r2 h) fun r s' hq => ?_)
  cases r with
  | error e => exact hx pins σ H s e s' I hq
  | ok fl =>
    cases fl with
    | ret u => exact I.after hq
    | next => exact False.elim hq
    | brk => exact False.elim hq
    | cont => exact False.elim hq
theorem zhh (F : FnOk X.prog X.w X.K X.mg X.base CX k f fd ps sp) (hr : Room k X.A) (hg : Gl X x) (hm : X.mg x = some (.ref f)) (hk : PySem.W.keepIn X.K (.ref f) = true) (hb : Binds X.K fd ps ds) (hd : Vals dvs ds) (hx : qj CX X E)
    (ha : PA X (e :: es) t) (hdb : (x == ("__debug__" : Str)) = false := by decide) (he : starEach (e :: es) X.env = (false, eval e X.env) :: starEach es X.env := by rfl) (hpl : (backTo pos (starEach es X.env)).any (·.1) = false := by rfl) :
    PE X (.Call (.Name x p) (e :: es) [] pos) (zcq sp dvs E t) := by
  intro pins s σ H Q I h;refine wpAny_Call_Name_kw (mf I hg hm ?_ hdb);refine PySem.W.callWith_K (h₀ := X.base) I.ok.mod.kin hk (thn (ha pos pins s σ H _ I h) fun us s1 ⟨vs, H1, I1, r, q⟩ => ⟨I1.kIn, ?_⟩) he hpl;exact zdg F hr hb hd hx I1 r q
theorem zgh {pl : Sem Bool} (he : PE X o ta) (c : Cls X.K C) (hm : Meth X.K C m f) (F : FnOk X.prog X.w X.K X.mg X.base CX k f fd ps sp) (hr : Room k X.A) (hb : Binds X.K fd ps ds) (hd : Vals dvs ds) (hx : qj CX X E) (ha : PA X (e :: es) t)
    (hst : starEach (e :: es) X.env = (false, eval e X.env) :: starEach es X.env := by rfl) (hpl : (backTo pos (starEach es X.env)).any (·.1) = false := by rfl)
    (ht : eval (.Call (.Attribute o m apos) (e :: es) [] pos) X.env = (do
      let ov <- eval o X.env
      standAt apos.atName
      let (f, first) <- holding [ov] (getMethod ov m pl)
      callWith pos f first (backTo pos (starEach (e :: es) X.env)) (backToKw pos (keywordEach [] X.env))) := by rfl) :
    PE X (.Call (.Attribute o m apos) (e :: es) [] pos) (cb C m sp dvs E ta t) := by
  intro pins s σ H Q I h;refine PySem.W.methodCall_KW (pl := pl) (thn (he pins s σ H _ I h) fun u s1 ⟨x, H1, I1, rx, a, dx, fs, ex, ea, l, q⟩ => ?_) ht;subst ex;obtain rfl : u = Value.ref a := rx;refine zc1 I1 ea c hm l ?_;refine PySem.W.callWith_K (first := [.ref a]) (h₀ := X.base) I.ok.mod.kin hm.kp (thn (ha pos pins s1 σ H1 _ I1 q) fun us s2 ⟨vs, H2, I2, r, q2⟩ => ⟨I2.kIn, ?_⟩) hst hpl;exact zdg (us := .ref a :: us) (vs := .ref a :: vs) F hr hb hd hx I2 (.cons rfl r) q2
structure Mk (K : Fg) (C f : Addr) : Prop where
  makes : PySem.W.makesIn K C = true
  init : PySem.W.findIn K (.ref C) "__init__" = some (some (.ref f))
  fn : PySem.W.isFn K (.ref f) = true
  kp : PySem.W.keepIn K (.ref C) = true
theorem zez {pins : List (Addr × Obj)} {σ : St} {H : Hp} {s : Shared} {Q : VK} {us : List Value} {vs : List V} (M : Mk X.K C f) (F : FnOk X.prog X.w X.K X.mg X.base CX k f fd ps sp) (hr : Room (k + 1) X.A) (hb : Binds X.K fd ps ds) (hd : Vals dvs ds)
    (hx : qj CX X E) (I : Inv X pins σ H s) (r : Vals vs us)
    (h : ∀ x dx, H x = none -> H dx = none -> dx ≠ x -> sp (.ref x :: (vs ++ dvs)) (upd (upd H dx (.own x)) x (.ins C dx [])) (fun v H2 => v = .non /\ Q (.ref x) H2) E) :
    wpAny (model X.prog X.w) X.A (call (.ref C) us) (EP X pins σ Q) X.xe s := by
  have hq := h (s.heap.objs.size + 1) s.heap.objs.size (I.hok.fresh (YO _)) (I.hok.fresh (Zm _)) (Zs (Yt _));have I2 := Inv.made (C := C) I;have r2 : Vals (V.ref (s.heap.objs.size + 1) :: (vs ++ dvs)) (Value.ref (s.heap.objs.size + 1) :: (us ++ ds)) := .cons rfl (r.append hd)
  have hl : (Value.ref (s.heap.objs.size + 1) :: us ++ ds).length = ps.length := by
    have e := r2.length;rw [F.len _ _ _ _ hq] at e;exact e.symm
  refine wpAny_call (zfg (f := f) I.kIn M.makes M.init (beq_iff_eq.mp M.fn) (codeAny_mono (F.run _ X.stack _ _ ⟨Value.ref (s.heap.objs.size + 1) :: us, []⟩ (Value.ref (s.heap.objs.size + 1) :: (us ++ ds)) _ _ E (hr.make C us [])
    (I2.env0.make C us []) (hb _ (Value.ref (s.heap.objs.size + 1) :: us) I2.kIn hl) r2 hq) fun r s' hq' => ?_))
  cases r with
  | error e => exact hx pins σ _ _ e s' I2 hq'
  | ok fl =>
    cases fl with
    | ret u =>
      obtain ⟨v, H', I3, rv, ev, q3⟩ := I2.after hq';subst ev;exact ⟨rv, ⟨V.ref (s.heap.objs.size + 1), H', I3, rfl, q3⟩⟩
    | next => exact False.elim hq'
    | brk => exact False.elim hq'
    | cont => exact False.elim hq'
theorem zf4 (M : Mk X.K C f) (F : FnOk X.prog X.w X.K X.mg X.base CX k f fd ps sp) (hr : Room (k + 1) X.A) (hg : Gl X x) (hm : X.mg x = some (.ref C)) (hb : Binds X.K fd ps ds) (hd : Vals dvs ds) (hx : qj CX X E)
    (hdb : (x == ("__debug__" : Str)) = false := by decide) : PE X (.Call (.Name x p) [] [] pos) (ce C sp dvs E tNil) := by
  intro pins s σ H Q I h;refine wpAny_Call_Name_kw (mf I hg hm ?_ hdb);exact PySem.W.callWith_K0 I.kIn M.kp (zez (us := []) M F hr hb hd hx I .nil h)
end
section
variable {X : Cx} {CX : CXT} {k : Nat} {f C : Addr} {fd : FuncData} {ps ks : List Str} {sp : Sp} {E : XK} {x m : Str} {p pos apos kpos : Pos} {e o : Expr} {es : List Expr} {kws : List Keyword} {te ta : TE} {t tk : TA} {nm : Option Str}
variable {g : List Value -> List Value -> List Value} {gV : List V -> List V -> List V}
end
structure zr (N P : List Str) (sc : Scope) : Prop where
  kind : sc.kind = .function
  co : sc.isCoroutine = false
  gen : sc.isGenerator = false
  nd : N.Nodup
  pre : N.take P.length = P
  par : ∀ x ∈ P, sc.names.lookup x = some .local \/ sc.names.lookup x = some .cell
  nofree : ∀ y ∈ sc.names, y.2 ≠ .free
theorem ee {kindOf : Str -> Option NameKind} {x : Str} : ∀ {binds : List (Str × Value)} {m : Str -> Option Value}, (∀ v, (x, v) ∉ binds) -> bindL kindOf binds m x = m x
  | [], _, _ => rfl
  | (n, v) :: r, m, h => by
    unfold bindL;rw [ee fun w hw => h w (Zv _ hw)]
    split
    . have : x ≠ n := by rintro rfl; exact h v ZA
      simp [this]
    . rfl
theorem db {kindOf : Str -> Option NameKind} {x : Str} : ∀ {binds : List (Str × Value)} {m : Str -> Option Value}, (∀ v, (x, v) ∉ binds) -> bindC kindOf binds m x = m x
  | [], _, _ => rfl
  | (n, v) :: r, m, h => by
    unfold bindC;rw [db fun w hw => h w (Zv _ hw)]
    split
    . rfl
    . have : x ≠ n := by rintro rfl; exact h v ZA
      simp [this]
theorem dq {kindOf : Str -> Option NameKind} {x : Str} {v : Value} : ∀ {P : List Str} {vs : List Value} {i : Nat} {m : Str -> Option Value}, P.Nodup -> P[i]? = some x -> vs[i]? = some v -> kindOf x = some .local ->
    bindL kindOf (P.zip vs) m x = some v
  | [], _, _, _, _, h, _, _ => by simp at h
  | _ :: _, [], _, _, _, _, h, _ => by simp at h
  | p :: P, w :: vs, 0, m, nd, h1, h2, hk => by
    simp at h1 h2; subst h1; subst h2
    show bindL kindOf ((p, w) :: P.zip vs) m p = _
    unfold bindL;rw [ee fun v hv => (Yc.mp nd).1 (YH hv).1, if_pos hk];simp
  | p :: P, w :: vs, i + 1, m, nd, h1, h2, hk => by
    show bindL kindOf ((p, w) :: P.zip vs) m x = _
    unfold bindL;exact dq (i := i) (Yc.mp nd).2 (by simpa using h1) (by simpa using h2) hk
theorem dc {kindOf : Str -> Option NameKind} {x : Str} {v : Value} : ∀ {P : List Str} {vs : List Value} {i : Nat} {m : Str -> Option Value}, P.Nodup -> P[i]? = some x -> vs[i]? = some v -> kindOf x ≠ some .local ->
    bindC kindOf (P.zip vs) m x = some v
  | [], _, _, _, _, h, _, _ => by simp at h
  | _ :: _, [], _, _, _, _, h, _ => by simp at h
  | p :: P, w :: vs, 0, m, nd, h1, h2, hk => by
    simp at h1 h2; subst h1; subst h2
    show bindC kindOf ((p, w) :: P.zip vs) m p = _
    unfold bindC;rw [db fun v hv => (Yc.mp nd).1 (YH hv).1, if_neg hk];simp
  | p :: P, w :: vs, i + 1, m, nd, h1, h2, hk => by
    show bindC kindOf ((p, w) :: P.zip vs) m x = _
    unfold bindC;exact dc (i := i) (Yc.mp nd).2 (by simpa using h1) (by simpa using h2) hk
def start (N : List Str) (vs : List V) : St := vs.map some ++ List.replicate (N.length - vs.length) none
def cxOf (CX : CXT) (P : Program) (w : World) (K : Fg) (mg : Str -> Option Value) (base : Heap) (N : List Str) (qual : Str) (scope : Scope) (f : Addr) (cd : Value) (A : Around) (outer : List Env) (s : Shared) (H : Hp) (E : XK) : Cx where
  prog := P
  w := w
  K := K
  mg := mg
  base := base
  A := A.deeper (envOfC qual scope s.heap.objs.size f cd)
  N := N
  s₀ := s
  H₀ := H
  env := envOfC qual scope s.heap.objs.size f cd
  outer := outer
  stack := envOfC qual scope s.heap.objs.size f cd :: outer
  ex := []
  calm := true
  fn := fun _ => true
  pn := []
  xe := fun e s' => wpAny (model P w) (A.deeper (envOfC qual scope s.heap.objs.size f cd)) (leaving (envOfC qual scope s.heap.objs.size f cd) e) (fun _ s'' => CX outer H s E e s'') (fun e' s'' => CX outer H s E e' s'') s'
theorem au {sc : Scope} {n : Nat} {x : Str} (h : sc.names.lookup x = some .cell) : ∃ c, (cellsFrom n sc.names []).lookup x = some c := by
  have q := PySem.W.cellsFrom_some sc.names n [] (.inl h);exact Option.isSome_iff_exists.mp q
theorem zer {CX : CXT} {P : Program} {w : World} {K : Fg} {mg : Str -> Option Value} {base : Heap} {N ps : List Str} {qual : Str} {scope : Scope} {f : Addr} {cd : Value} {A : Around} {outer : List Env} {s s1 : Shared} {H : Hp} {E : XK} {us : List Value} {vs : List V}
    (S : zr N ps scope) (hd : A.handled = none) (e0 : Env0 P w K mg base A outer s H) (hl : vs.length = ps.length) (r : Vals vs us)
    (x : InCallC s s.heap.objs.size (bindL (envOfC qual scope s.heap.objs.size f cd).kindOf (ps.zip us) fun _ => none) (cellsFrom (s.heap.objs.size + 1) scope.names []) (bindC (envOfC qual scope s.heap.objs.size f cd).kindOf (ps.zip us) fun _ => none) s1) :
    Inv (cxOf CX P w K mg base N qual scope f cd A outer s H E) [] (start N vs) H s1 := by
  have hpl : ps.length <= N.length := by have := congrArg List.length S.pre; rw [Zj] at this; omega
  obtain ⟨h1, tk, rfl, hk⟩ := x.done;have noA : ∀ b : Addr, b ∉ (cxOf CX P w K mg base N qual scope f cd A outer s H E).ex := fun b z => absurd (show b ∈ ([] : List Addr) from z) (by simp)
  refine ⟨⟨e0.mod, S.kind, rfl, rfl, Zm _, fun y z c h1 h2 => ?_, fun y hy => ?_, fun y c _ h => ?_, fun _ => hd, Around.frames_deeper e0.frames, .inr ⟨rfl, rfl⟩, fun b z => absurd z (noA b), e0.bs, e0.bsz, fun b _ _ => noA b, fun b z => absurd z (noA b), e0.funs, e0.frf⟩,
    rfl, e0.bare, Un.kept hk, ⟨_, x.toInCall.ns, fun i y v h1 h2 h3 => ?_⟩, fun y c h => ⟨_, x.cell y c h⟩, e0.hok.fresh (Zm _), fun y c h => ?_, fun p hp => absurd (show p ∈ ([] : List (Addr × Obj)) from hp) (by simp), e0.hok.kept hk, ?_⟩
  . exact name_of_addr x.apart (PySem.mem_of_lookup h1) (PySem.mem_of_lookup h2)
  . have hy : scope.names.lookup y = some .cell \/ scope.names.lookup y = some .free := hy
    rcases hy with hy | hy
    . exact au hy
    . exact absurd rfl (S.nofree _ (PySem.mem_of_lookup hy))
  . exact YV (x.above y c (PySem.mem_of_lookup h))
  . have hi : i < vs.length := by
      unfold start at h2
      by_cases hi : i < vs.length
      . exact hi
      . rw [Zf (by simpa using hi)] at h2
        rw [Yl] at h2
        split at h2 <;> cases h2
    have ha : vs[i]? = some v := by
      unfold start at h2;rw [Zg (by simpa using hi), Ze] at h2
      cases e : vs[i]? with
      | none => rw [e] at h2; cases h2
      | some a => rw [e] at h2; cases h2; rfl
    obtain ⟨u, hu, rv⟩ := r.get ha
    have hp : ps[i]? = some y := by
      rw [<- S.pre, Yi (by omega)]; exact h1
    have ndP : ps.Nodup := by rw [<- S.pre]; exact S.nd.sublist (YS _ _)
    refine ⟨u, rv, ?_⟩
    rcases S.par y (Zi hp) with k | k
    . exact .inl ⟨k, dq ndP hp hu k⟩
    . obtain ⟨c, e⟩ := au (n := s.heap.objs.size + 1) k
      refine .inr ⟨.inl k, c, e, ?_⟩;have q := x.cell y c e;rw [dc ndP hp hu (by show scope.names.lookup y ≠ _; rw [k]; decide)] at q;exact q
  . exact e0.hok.fresh (YV (x.above y c (PySem.mem_of_lookup h)))
  . unfold start
    show _ = N.length
    rw [Zo, Za, ZI];omega
theorem zch {CX : CXT} {P : Program} {w : World} {K : Fg} {mg : Str -> Option Value} {base : Heap} {k : Nat} {f : Addr} {name qual : Str} {params : Arguments} {body : List Stmt} {scope : Scope} {dV kV doc pm cdv ct oc : Value} {an od : Option Addr}
    {osl : Array (Option Value)} {N ps : List Str} {sp : Sp} (lk : K.lookup f = some ⟨oc, od, .func (PySem.W.fnOf name qual params body scope dV kV doc pm an cdv ct), osl⟩) (hcd : PySem.W.codeIn K cdv qual = true) (S : zr N ps scope)
    (len : ∀ vs H Q E, sp vs H Q E -> vs.length = ps.length)
    (hbody : ∀ (A : Around) (outer : List Env) (s : Shared) (H : Hp) (vs : List V) (Q : VK) (E : XK), Room k (A.deeper (envOfC qual scope s.heap.objs.size f cdv)) -> sp vs H Q E ->
      ∃ t, PSs (cxOf CX P w K mg base N qual scope f cdv A outer s H E) body t /\ t { nx := fun _ H' => Q .non H', rt := Q } (start N vs) H) :
    FnOk P w K mg base CX (k + 1) f (PySem.W.fnOf name qual params body scope dV kV doc pm an cdv ct) ps sp := by
  refine ⟨len, fun A outer s H args us vs Q E hr e0 hb r hsp => ?_⟩;have hl := len _ _ _ _ hsp;have KX : K.In s.heap := e0.mod.kin.keeps fun b o e => (e0.bs b o e).1
  have lim : s.heap.NoLimit := e0.mod.nolimit.keeps fun b o e => (e0.bs b o e).1
  have hkind : ∀ y ∈ ps.zip us, scope.names.lookup y.1 = some .local \/ (scope.names.lookup y.1 = some .cell /\ ((cellsFrom (s.heap.objs.size + 1) scope.names []).lookup y.1).isSome = true) := fun ⟨n, v⟩ hy => by
    rcases S.par n (YH hy).1 with q | q
    . exact .inl q
    . exact .inr ⟨q, PySem.W.cellsFrom_some _ _ _ (.inl q)⟩
  refine codeAny_call_function hr.depth (KX _ _ lk) rfl S.co S.gen rfl (PySem.W.codeRec_of KX hcd) (hb _ _ _ _ ?_);refine wpAny_newFunctionEnv_cells S.kind hkind fun env he s1 x => ?_
  subst he;refine ⟨lim.keeps x.toInCall.keep, codeAny_func ?_⟩;obtain ⟨t, ht, hq⟩ := hbody A outer s H vs Q E (hr.deeper _) hsp;have I : Inv (cxOf CX P w K mg base N qual scope f cdv A outer s H E) [] (start N vs) H s1 := zer S hr.hd e0 hl r x;refine wpAny_mono (ht [] s1 (start N vs) H _ I hq) (fun fl s' hs => ?_) fun e s' hs => hs
  have fin : ∀ {σ' : St} {H' : Hp} {v : V} {u : Value}, Inv (cxOf CX P w K mg base N qual scope f cdv A outer s H E) [] σ' H' s' -> RelV v u -> Q v H' -> CE outer P w H s Q u s' :=
    fun {σ' H' v u} J rv q => ⟨v, H', J.os, J.bare, J.base, J.hok, rv, q⟩
  cases fl with
  | ret u =>
    obtain ⟨v, σ', H', J, rv, q⟩ := hs;exact fin J rv q
  | next =>
    obtain ⟨σ', H', J, q⟩ := hs;exact fin (v := V.non) (u := Value.none) J rfl q
  | brk =>
    obtain ⟨_, _, _, q⟩ := hs;exact False.elim q
  | cont =>
    obtain ⟨_, _, _, q⟩ := hs;exact False.elim q
end L2
namespace L2
open PySem PySem.Spec PyProof.Rows
section
variable {X : Cx} {x : Str} {p pos : Pos} {e : Expr} {es : List Expr} {t : TA} {id T : String} {r : List V -> Hp -> VK -> Prop}
def tCB (r : List V -> Hp -> VK -> Prop) (t : TA) : TE := fun σ H Q => t σ H fun vs H1 => r vs H1 Q
theorem zy (hc : CallR X (.builtin id) r) (hg : Gl X x) (hm : X.mg x = none) (hv : bootBuiltins x = some (.builtin id)) (ha : PA X (e :: es) t) (hn : x ≠ "__name__" := by decide) (hdb : (x == ("__debug__" : Str)) = false := by decide)
    (he : starEach (e :: es) X.env = (false, eval e X.env) :: starEach es X.env := by rfl) (hpl : (backTo pos (starEach es X.env)).any (·.1) = false := by rfl) : PE X (.Call (.Name x p) (e :: es) [] pos) (tCB r t) := by
  intro pins s σ H Q I h;refine wpAny_Call_Name_kw (mt I hg hm hv ?_ hn hdb);exact PyProof.Rows.callWith_builtin1 (thn (ha pos pins s σ H _ I h) fun us s1 ⟨vs, H1, I1, r1, q1⟩ => hc pins s1 σ H1 vs us Q I1 r1 q1) he hpl
theorem yo (hc : CallR X (.type T) r) (hg : Gl X x) (hm : X.mg x = none) (hv : bootBuiltins x = some (.type T)) (ha : PA X (e :: es) t) (hn : x ≠ "__name__" := by decide) (hdb : (x == ("__debug__" : Str)) = false := by decide)
    (he : starEach (e :: es) X.env = (false, eval e X.env) :: starEach es X.env := by rfl) (hpl : (backTo pos (starEach es X.env)).any (·.1) = false := by rfl) : PE X (.Call (.Name x p) (e :: es) [] pos) (tCB r t) := by
  intro pins s σ H Q I h;refine wpAny_Call_Name_kw (mt I hg hm hv ?_ hn hdb);exact PyProof.Rows.callWith_type1 (thn (ha pos pins s σ H _ I h) fun us s1 ⟨vs, H1, I1, r1, q1⟩ => hc pins s1 σ H1 vs us Q I1 r1 q1) he hpl
end
end L2
namespace HT
open PySem PyProof.Rows
section
open PySem.SeqAt
open PySem.AutoSeq1 (wpAny_loadPart')
open PySem.MeetsSeq PySem.MeetsSeq2 PySem.MeetsSeq3
end
section
variable {prog : Program} {w : World} {A : Around} {E : Value -> Shared -> Prop} {s : Shared}
theorem cat_tup {t b : Addr} {vs ws : List Value} {Q : Value -> Shared -> Prop} (ht : IsTup s.heap t vs.toArray) (hb : IsTup s.heap b ws.toArray) (hv : vs ≠ [])
    (h1 : ws = [] -> Q (.ref t) s) (h2 : ws ≠ [] -> Q (.ref s.heap.objs.size) { s with heap := s.heap.push { cls := .type "tuple", data := .seq (vs ++ ws).toArray } })
    (hsz : vs.length + ws.length <= sizeLine) : wpAny (model prog w) A (binaryOp .Add (.ref t) (.ref b)) Q E s := by
  obtain ⟨⟨cls, dd, data, sl⟩, ho, hc, n, hd⟩ := id ht;obtain ⟨⟨cls2, dd2, data2, sl2⟩, ho2, hc2, n2, hd2⟩ := id hb;simp only at hc hd hc2 hd2;subst hc hd hc2 hd2;have e : vs.toArray ++ ws.toArray = (vs ++ ws).toArray := by simp
  by_cases hw : ws = []
  . exact concat_meets ⟨_, ho, rfl⟩ ⟨_, ho2, rfl⟩ noFill_tuple_add seq_tuple_add PySem.F.slot_tuple_add PySem.F.entry_tuple_add (PySem.F.args_tuple_add_2 _ _)
      (tuple_addW1 t b vs.toArray ws.toArray n n2 dd dd2 sl sl2 (by simpa using hv) (by simp [hw])) ⟨ho, ho2, h1 hw⟩
  . refine concat_meets ⟨_, ho, rfl⟩ ⟨_, ho2, rfl⟩ noFill_tuple_add seq_tuple_add PySem.F.slot_tuple_add PySem.F.entry_tuple_add (PySem.F.args_tuple_add_2 _ _)
      (tuple_addW2 t b vs.toArray ws.toArray n n2 dd dd2 sl sl2 (by simpa using hv) (by simpa using hw) (by rw [Zr, Zr]; exact hsz)) ⟨ho, ho2, ?_⟩
    rw [e];exact h2 hw
def sIx (n d : Nat) : Option Int -> Nat
  | none => d
  | some v => if v < 0 then (v + (n : Int)).toNat else min v.toNat n
theorem sIx_none (n d : Nat) : sIx n d none = d := rfl
theorem sIx_nat (n d k : Nat) : sIx n d (some (k : Int)) = min k n := by
  show (if (k : Int) < 0 then ((k : Int) + (n : Int)).toNat else min (k : Int).toNat n) = min k n
  rw [if_neg (by omega), Zw]
end
end HT
namespace L2
open PySem PySem.Spec PyProof.Rows
abbrev TO := St -> Hp -> (Option Int -> Hp -> Prop) -> Prop
def PO (X : Cx) (e : Option Expr) (t : TO) : Prop :=
  ∀ (pins : List (Addr × Obj)) (s : Shared) (σ : St) (H : Hp) (Q : Option Int -> Hp -> Prop), Inv X pins σ H s -> t σ H Q ->
    wpAny (model X.prog X.w) X.A (evalPart e X.env) (fun u s' => ∃ o H', Inv X pins σ H' s' /\ IsPart u o /\ Q o H') X.xe s
def zbi : TO := fun _ H Q => Q none H
def tPart (t : TE) : TO := fun σ H Q => t σ H fun x H1 => ∃ i, x = .int i /\ Q (some i) H1
theorem zb5 {ns : List Int} : ∀ {us : List Value}, Vals (ns.map V.int) us -> IntsAre us ns := by
  induction ns with
  | nil => intro us r; rw [Yq] at r; cases r; exact .nil
  | cons n ns ih =>
    intro us r;rw [ZM] at r
    cases r with
    | cons r1 r2 =>
      obtain ⟨t, e⟩ := r1;subst e;exact .cons n t (ih r2)
section
variable {X : Cx} {e : Expr} {te : TE} {lo hi : Option Expr} {tl th : TO} {pos p2 : Pos}
theorem pz : PO X none zbi := by
  intro pins s σ H Q I h;rw [evalPart_none];exact wpAny_pure ⟨none, H, I, .none, h⟩
theorem px (h : PE X e te) : PO X (some e) (tPart te) := by
  intro pins s σ H Q I hw;rw [evalPart_some];refine thn (h pins s σ H _ I hw) fun u s1 ⟨x, H1, I1, r1, q1⟩ => ?_
  obtain ⟨i, rfl, q⟩ := q1;obtain ⟨t, rfl⟩ := r1;exact ⟨some i, H1, I1, .int i t, q⟩
def SlR (X : Cx) (r : V -> Option Int -> Option Int -> Hp -> VK -> Prop) : Prop :=
  ∀ (pins : List (Addr × Obj)) (s : Shared) (σ : St) (H : Hp) (x : V) (v vl vu : Value) (lo hi : Option Int) (sl : Addr) (Q : VK), Inv X pins σ H s -> RelV x v -> s.heap.IsSliceOf sl vl vu .none -> IsPart vl lo -> IsPart vu hi -> r x lo hi H Q ->
    ∃ T id, typeLookup (.type T) "__getitem__" = pure (some (.builtin id)) /\ s.TypeIs v T /\ wpAny (model X.prog X.w) X.A (getItem v (.ref sl)) (EP X pins σ Q) X.xe s
theorem SlR.or {r r' : V -> Option Int -> Option Int -> Hp -> VK -> Prop} (h : SlR X r) (h' : SlR X r') : SlR X (fun x lo hi H Q => r x lo hi H Q \/ r' x lo hi H Q) := by
  intro pins s σ H x v vl vu lo hi sl Q I rx hs pl pu q
  rcases q with q | q
  . exact h pins s σ H x v vl vu lo hi sl Q I rx hs pl pu q
  . exact h' pins s σ H x v vl vu lo hi sl Q I rx hs pl pu q
def tSl (r : V -> Option Int -> Option Int -> Hp -> VK -> Prop) (te : TE) (tl th : TO) : TE := fun σ H Q => te σ H fun x H1 => tl σ H1 fun l H2 => th σ H2 fun u H3 => r x l u H3 Q
theorem rc {r : V -> Option Int -> Option Int -> Hp -> VK -> Prop} (hr : SlR X r) (he : PE X e te) (hl : PO X lo tl) (hu : PO X hi th) : PE X (.Subscript e (.Slice lo hi none p2) pos) (tSl r te tl th) := by
  intro pins s σ H Q I h;refine Subscript_ (thn (he pins s σ H _ I h) fun v s1 ⟨x, H1, I1, r1, q1⟩ => ?_);refine wpAny_Slice (thn (hl pins s1 σ H1 _ I1 q1) fun vl s2 ⟨l, H2, I2, pl, q2⟩ => thn (hu pins s2 σ H2 _ I2 q2) fun vu s3 ⟨u, H3, I3, pu, q3⟩ => ?_);rw [evalPart_none];refine wpAny_pure ?_;have I4 : Inv X pins σ H3 { s3 with heap := s3.heap.push { cls := .type "slice", data := .fields #[vl, vu, .none] } } := I3.kept (t' := s3.toks) fun b ob q => Heap.get?_push_of_some _ q
  obtain ⟨T, id, hT, ht, hg⟩ := hr pins { s3 with heap := s3.heap.push { cls := .type "slice", data := .fields #[vl, vu, .none] } } σ H3 x v vl vu l u s3.heap.objs.size Q I4 r1 (Heap.IsSliceOf.new ..) pl pu q3
  show wpAny (model X.prog X.w) X.A (subscriptTail e (.Slice lo hi none p2) v (.ref s3.heap.objs.size)) (EP X pins σ Q) X.xe { s3 with heap := s3.heap.push { cls := .type "slice", data := .fields #[vl, vu, .none] } }
  exact tail_any (ops := [.ref s3.heap.objs.size, v]) ht hT hg (by with_unfolding_all rfl)
def cutV (xs : List V) (lo hi : Option Int) : List V := (xs.drop (HT.sIx xs.length 0 lo)).take (HT.sIx xs.length xs.length hi - HT.sIx xs.length 0 lo)
theorem zaq (xs : List V) (lo hi : Option Int) : (cutV xs lo hi).length <= xs.length := by
  unfold cutV;rw [Zj, ZU];omega
def rSlT (K : Fg) : V -> Option Int -> Option Int -> Hp -> VK -> Prop := fun x lo hi H Q => ∃ a xs, x = .ref a /\ SqT K H a xs /\
  ¬ (HT.sIx xs.length 0 lo = 0 /\ HT.sIx xs.length xs.length hi = xs.length) /\ ∀ p, H p = none -> Q (.ref p) (upd H p (.tup (cutV xs lo hi)))
def rCatT (K : Fg) : R2 := fun x y H Q => ∃ a b xs ys, x = .ref a /\ y = .ref b /\ SqT K H a xs /\ SqT K H b ys /\ xs ≠ [] /\ xs.length + ys.length <= sizeLine /\
  (ys = [] -> Q (.ref a) H) /\ (ys ≠ [] -> ∀ p, H p = none -> Q (.ref p) (upd H p (.tup (xs ++ ys))))
theorem Vals.nil_iff {xs : List V} {us : List Value} (r : Vals xs us) : us = [] ↔ xs = [] := by
  cases r with
  | nil => simp
  | cons _ _ => simp
theorem zgr : OpR X (binaryOp .Add) (rCatT X.K) := by
  intro pins s σ H x y v u Q I rx ry h;obtain ⟨a, b, xs, ys, rfl, rfl, ha, hb, hx, hz, q1, q2⟩ := h;cases rx;cases ry;obtain ⟨its, r1, p1, _⟩ := I.tuple ha;obtain ⟨its2, r2, p2, _⟩ := I.tuple hb;refine HT.cat_tup p1 p2 (fun z => hx (r1.nil_iff.mp z)) (fun z => ⟨.ref a, H, I, rfl, q1 (r2.nil_iff.mp z)⟩) (fun z => ?_) (by rw [<- r1.length, <- r2.length]; exact hz);refine ⟨.ref s.heap.objs.size, _, I.laid (t' := s.toks) (o := .tup (xs ++ ys)) (fun b ob q => Heap.get?_push_of_some _ q) (Zm _) ?_, rfl, q2 (fun w => z (r2.nil_iff.mpr w)) _ (I.hok.fresh (Zm _))⟩;exact ⟨by rw [Zo]; exact hz, _, r1.append r2, IsTupD.new _ _⟩
end
end L2
namespace L2
open PySem PySem.Spec PyProof.Rows
def ixN (n : Nat) (i : Int) : Option Nat := if 0 <= i then (if i < n then some i.toNat else none) else if -(n : Int) <= i then some (i + n).toNat else none
def atI {α : Type} (xs : List α) (i : Int) : Option α := (ixN xs.length i).bind fun j => xs[j]?
theorem zf5 {n : Nat} {i : Int} {j : Nat} (h : ixN n i = some j) : seqIndex? i n = some j /\ j < n /\ -(n : Int) <= i /\ i < n := by
  unfold ixN at h
  by_cases h0 : 0 <= i
  . rw [if_pos h0] at h
    by_cases h1 : i < n
    . rw [if_pos h1] at h
      have e : i.toNat = j := Option.some.inj h;exact ⟨by rw [seqIndex_of h0 h1, e], by omega, by omega, h1⟩
    . rw [if_neg h1] at h; cases h
  . rw [if_neg h0] at h
    by_cases h1 : -(n : Int) <= i
    . rw [if_pos h1] at h
      have e : (i + n).toNat = j := Option.some.inj h;exact ⟨by rw [seqIndex_neg (by omega) h1, e], by omega, h1, by omega⟩
    . rw [if_neg h1] at h; cases h
theorem g9 {α : Type} {xs : List α} {i : Int} {v : α} (h : atI xs i = some v) : ∃ j, seqIndex? i xs.length = some j /\ xs[j]? = some v /\ j < xs.length /\ -(xs.length : Int) <= i /\ i < xs.length := by
  unfold atI at h
  cases e : ixN xs.length i with
  | none => rw [e] at h; cases h
  | some j =>
    rw [e] at h;obtain ⟨h1, h2, h3, h4⟩ := zf5 e;exact ⟨j, h1, h, h2, h3, h4⟩
theorem zn {α : Type} {xs : List α} {j : Nat} {v : α} (h : xs[j]? = some v) : atI xs (j : Int) = some v := by
  have hj : j < xs.length := (Zc.mp h).1
  have e : ixN xs.length (j : Int) = some j := by
    unfold ixN;rw [if_pos (by omega), if_pos (by omega)]; simp
  unfold atI; rw [e]; exact h
def zgc (b : Expr) : Prop := ∀ o i, subscripted b false o i = operate [o, i] (getItem o i)
def IxR (X : Cx) (r : R2) : Prop :=
  ∀ (value slice : Expr) (pins : List (Addr × Obj)) (s : Shared) (σ : St) (H : Hp) (x y : V) (v u : Value) (Q : VK), Inv X pins σ H s -> RelV x v -> RelV y u -> r x y H Q ->
    subscripted slice false v u = operate [v, u] (getItem v u) -> wpAny (model X.prog X.w) X.A (subscriptTail value slice v u) (EP X pins σ Q) X.xe s
def MtR (X : Cx) (id : String) (r : V -> List V -> Hp -> VK -> Prop) : Prop :=
  ∀ (pins : List (Addr × Obj)) (s : Shared) (σ : St) (H : Hp) (x : V) (xs : List V) (v : Value) (us : List Value) (Q : VK), Inv X pins σ H s -> RelV x v -> Vals xs us -> r x xs H Q ->
    wpAny (model X.prog X.w) X.A (call (.builtin id) (v :: us)) (EP X pins σ Q) X.xe s
section
variable {X : Cx} {a b : Expr} {ta tb : TE} {pos : Pos}
theorem IxR.or {r r' : R2} (h : IxR X r) (h' : IxR X r') : IxR X (fun x y H Q => r x y H Q \/ r' x y H Q) := by
  intro value slice pins s σ H x y v u Q I rx ry q hs
  rcases q with q | q
  . exact h value slice pins s σ H x y v u Q I rx ry q hs
  . exact h' value slice pins s σ H x y v u Q I rx ry q hs
theorem MtR.or {id : String} {r r' : V -> List V -> Hp -> VK -> Prop} (h : MtR X id r) (h' : MtR X id r') : MtR X id (fun x xs H Q => r x xs H Q \/ r' x xs H Q) := by
  intro pins s σ H x xs v us Q I rx rs q
  rcases q with q | q
  . exact h pins s σ H x xs v us Q I rx rs q
  . exact h' pins s σ H x xs v us Q I rx rs q
theorem zu {r : R2} (hr : IxR X r) (ha : PE X a ta) (hb : PE X b tb) (hs : zgc b) : PE X (.Subscript a b pos) (tOp r ta tb) := by
  intro pins s σ H Q I h;exact Subscript_ (binT ha hb I h fun v u s2 x y H2 I2 rx ry q => hr a b pins s2 σ H2 x y v u Q I2 rx ry q (hs _ _))
def rIxL (K : Fg) : R2 := fun x y H Q => ∃ p xs i v, x = .ref p /\ y = .int i /\ SqL K H p xs /\ atI xs i = some v /\ Q v H
def rIxT (K : Fg) : R2 := fun x y H Q => ∃ p xs i v, x = .ref p /\ y = .int i /\ SqT K H p xs /\ atI xs i = some v /\ Q v H
def rIxS : R2 := fun x y H Q => ∃ z i c, x = .str z /\ y = .int i /\ z.length <= sizeLine /\ atI z.cps.toList i = some c /\ Q (.str ⟨#[c]⟩) H
theorem z3 : IxR X (rIxL X.K) := by
  intro value slice pins s σ H x y v u Q I rx ry h hs;obtain ⟨p, xs, i, z, rfl, rfl, hq, he, q⟩ := h;cases rx;obtain ⟨t, rfl⟩ := ry;obtain ⟨its, r, pl, hz⟩ := I.list hq;obtain ⟨j, h1, h2, h3, h4, h5⟩ := g9 he;obtain ⟨w, ew, rw'⟩ := r.get h2;have hl := r.length;have hn := mq;have fin : EP X pins σ Q w s := ⟨z, H, I, rw', q⟩
  by_cases h0 : 0 <= i
  . have hj : i.toNat = j := by
      rw [seqIndex_of h0 h5] at h1;exact Option.some.inj h1
    exact item_listR pl.isList h0 (by omega) (by rw [hj]; simpa using ew) fin hs
  . have hj : (i + (its.toArray.size : Int)).toNat = j := by
      rw [seqIndex_neg (by omega) h4] at h1;rw [Zr, <- hl];exact Option.some.inj h1
    exact subscriptTail_builtinR (x := w) pl.isList.typeIs slot_list_getitem.lookup
      (wpAny_getItem_list_neg (Q := fun r s' => r = w /\ EP X pins σ Q r s') pl.isList (by omega) (by rw [Zr] <;> omega) (by omega) (by rw [hj]; simpa using ew) ⟨rfl, fin⟩) hs
theorem yb : IxR X (rIxT X.K) := by
  intro value slice pins s σ H x y v u Q I rx ry h hs;obtain ⟨p, xs, i, z, rfl, rfl, hq, he, q⟩ := h;cases rx;obtain ⟨t, rfl⟩ := ry;obtain ⟨its, r, pl, hz⟩ := I.tuple hq;obtain ⟨j, h1, h2, h3, h4, h5⟩ := g9 he;obtain ⟨w, ew, rw'⟩ := r.get h2;have hl := r.length;have hn := mq;have fin : EP X pins σ Q w s := ⟨z, H, I, rw', q⟩
  exact subscriptTail_builtinR (x := w) pl.typeIs slot_tuple_getitem.lookup
    (getItem_tuple (j := j) (Q := fun r s' => r = w /\ EP X pins σ Q r s') pl (by omega) (by omega) (by rw [Zr, <- hl]; exact h1) (by simpa using ew) ⟨rfl, fin⟩) hs
theorem cq : IxR X rIxS := by
  intro value slice pins s σ H x y v u Q I rx ry h hs;obtain ⟨z, i, c, rfl, rfl, hz, he, q⟩ := h;obtain ⟨t, rfl⟩ := rx;obtain ⟨t', rfl⟩ := ry;obtain ⟨j, h1, h2, h3, h4, h5⟩ := g9 he;have hl : z.cps.toList.length = z.length := by simp [Str.length]
  rw [hl] at h1 h4 h5;have hn := mq
  exact tail_any (typeIs_str s z t) slot_str_getitem.lookup (getItem_str (c := c) (by
    have e1 : decide (i < -(2 ^ 63 : Int)) = false := decide_eq_false (by omega);have e2 : decide (i ≥ 2 ^ 63) = false := decide_eq_false (by omega)
    rw [e1, e2, Bool.or_false]) (by rw [h1]; simpa using h2) ⟨.str ⟨#[c]⟩, H, I.tok _, ⟨_, rfl⟩, q⟩) hs
theorem Inv.lst {pins : List (Addr × Obj)} {σ : St} {H : Hp} {s : Shared} {p : Addr} {xs : List V} (I : Inv X pins σ H s) (h : H p = some (.lst xs)) :
    ∃ (its : List Value) (n : Nat), Vals xs its /\ s.heap.get? p = some { cls := .type "list", data := .seq its.toArray n } /\ xs.length <= sizeLine := by
  obtain ⟨z, its, n, r, e⟩ := I.hok p _ h;exact ⟨its, n, r, e, z⟩
def rSetL : V -> V -> V -> Hp -> (Hp -> Prop) -> Prop := fun o i v H Q => ∃ p xs k j, o = .ref p /\ i = .int k /\ H p = some (.lst xs) /\ ixN xs.length k = some j /\ Q (upd H p (.lst (xs.set j v)))
theorem ac (lo hi : Option Int) (n : Nat) : (sliceBounds lo hi none n).1 = ((HT.sIx n 0 lo : Nat) : Int) /\ (sliceBounds lo hi none n).2.1 = ((HT.sIx n n hi : Nat) : Int) /\ (sliceBounds lo hi none n).2.2 = 1 := by
  refine ⟨?_, ?_, rfl⟩
  . cases lo with
    | none => simp [sliceBounds, HT.sIx]
    | some i =>
      simp only [sliceBounds, HT.sIx, Option.getD_none, show (1 : Int) > 0 by decide, if_true]
      by_cases h : i < 0
      . simp only [h, if_true] <;> omega
      . simp only [h, if_false] <;> omega
  . cases hi with
    | none => simp [sliceBounds, HT.sIx]
    | some i =>
      simp only [sliceBounds, HT.sIx, Option.getD_none, show (1 : Int) > 0 by decide, if_true]
      by_cases h : i < 0
      . simp only [h, if_true] <;> omega
      . simp only [h, if_false] <;> omega
theorem d0 (its : List Value) (lo hi : Option Int) : slicePick its.toArray lo hi none = ((its.drop (HT.sIx its.length 0 lo)).take (HT.sIx its.length its.length hi - HT.sIx its.length 0 lo)).toArray := by
  obtain ⟨h1, h2, h3⟩ := ac lo hi its.toArray.size;unfold slicePick;rw [h1, h2, h3];simp only [sliceRange_one, pick_run, Zr] <;> rfl
def rSlL (K : Fg) : V -> Option Int -> Option Int -> Hp -> VK -> Prop := fun x lo hi H Q => ∃ a xs, x = .ref a /\ SqL K H a xs /\ ∀ p, H p = none -> Q (.ref p) (upd H p (.lst (cutV xs lo hi)))
theorem ml : SlR X (rSlL X.K) := by
  intro pins s σ H x v vl vu lo hi sl Q I rx hs pl pu h;obtain ⟨a, xs, rfl, hx, q⟩ := h;cases rx;obtain ⟨its, r, ht, hz⟩ := I.list hx;have hlen := r.length;refine ⟨"list", _, slot_list_getitem.lookup, ht.isList.typeIs, ?_⟩;refine wpAny_getItem_list_slice ht.isList hs pl pu .none (by simp) ?_ (by rw [Zr] <;> omega);rw [d0, <- hlen];refine ⟨.ref s.heap.objs.size, _, I.laid (t' := s.toks) (o := .lst (cutV xs lo hi)) (fun b ob q => Heap.get?_push_of_some _ q) (Zm _) ?_, rfl, q _ (I.hok.fresh (Zm _))⟩;exact ⟨Zd (zaq xs lo hi) hz, _, 0, (r.drop (HT.sIx xs.length 0 lo)).take (HT.sIx xs.length xs.length hi - HT.sIx xs.length 0 lo), Heap.get?_push_size _ rfl⟩
def xf : V -> Bool
  | .non => true
  | .bl _ => true
  | .int _ => true
  | .str _ => true
  | _ => false
def eqV : V -> V -> Bool
  | .non, .non => true
  | .bl a, .bl b => a == b
  | .bl a, .int b => (if a then 1 else 0) == b
  | .int a, .bl b => a == (if b then 1 else 0)
  | .int a, .int b => a == b
  | .str a, .str b => a == b
  | _, _ => false
theorem eqAt_V {A : Around} {s : Shared} {y x : V} {u v : Value} (ry : RelV y u) (rx : RelV x v) (fy : xf y = true) (fx : xf x = true) : SeqAt.EqAt A s u v (eqV y x) := by
  cases y with
  | non =>
    cases ry
    cases x with
    | non => cases rx; exact SeqAt.EqAt.same _
    | bl b => cases rx; exact SeqAt.EqAt.none_bool b
    | int b => obtain ⟨t, rfl⟩ := rx; exact SeqAt.EqAt.none_int b t
    | str b => obtain ⟨t, rfl⟩ := rx; exact SeqAt.EqAt.none_str b t
    | _ => exact absurd (show false = true from fx) Bool.false_ne_true
  | bl a =>
    cases ry
    cases x with
    | non => cases rx; exact SeqAt.EqAt.bool_none a
    | bl b => cases rx; exact SeqAt.EqAt.bool_bool a b
    | int b => obtain ⟨t, rfl⟩ := rx; exact SeqAt.EqAt.bool_int a b t
    | str b => obtain ⟨t, rfl⟩ := rx; exact SeqAt.EqAt.bool_str a b t
    | _ => exact absurd (show false = true from fx) Bool.false_ne_true
  | int a =>
    obtain ⟨t', rfl⟩ := ry
    cases x with
    | non => cases rx; exact SeqAt.EqAt.int_none a t'
    | bl b => cases rx; exact SeqAt.EqAt.int_bool a t' b
    | int b => obtain ⟨t, rfl⟩ := rx; exact SeqAt.EqAt.int_int a t' b t
    | str b => obtain ⟨t, rfl⟩ := rx; exact SeqAt.EqAt.int_str a t' b t
    | _ => exact absurd (show false = true from fx) Bool.false_ne_true
  | str a =>
    obtain ⟨t', rfl⟩ := ry
    cases x with
    | non => cases rx; exact SeqAt.EqAt.str_none a t'
    | bl b => cases rx; exact SeqAt.EqAt.str_bool a t' b
    | int b => obtain ⟨t, rfl⟩ := rx; exact SeqAt.EqAt.str_int a t' b t
    | str b => obtain ⟨t, rfl⟩ := rx; exact SeqAt.EqAt.str_str a t' b t
    | _ => exact absurd (show false = true from fx) Bool.false_ne_true
  | _ => exact absurd (show false = true from fy) Bool.false_ne_true
def eqU (x : V) (u : Value) : Bool := match u with
  | .none => eqV .non x
  | .bool b => eqV (.bl b) x
  | .int i _ => eqV (.int i) x
  | .str z _ => eqV (.str z) x
  | _ => false
theorem im {x y : V} {u : Value} (r : RelV y u) (f : xf y = true) : eqU x u = eqV y x := by
  cases y with
  | non => cases r; rfl
  | bl b => cases r; rfl
  | int i => obtain ⟨t, rfl⟩ := r; rfl
  | str z => obtain ⟨t, rfl⟩ := r; rfl
  | _ => exact absurd (show false = true from f) Bool.false_ne_true
theorem mh {x : V} : ∀ {xs : List V} {us : List Value}, Vals xs us -> xs.all xf = true -> us.any (eqU x) = xs.any fun y => eqV y x
  | _, _, .nil, _ => rfl
  | y :: xs, u :: us, .cons r t, f => by
    rw [YR, Bool.and_eq_true] at f;rw [YC, YC, im r f.1, mh t f.2]
theorem ue {A : Around} {s : Shared} {x : V} {v : Value} (rx : RelV x v) (fx : xf x = true) : ∀ {xs : List V} {us : List Value}, Vals xs us -> xs.all xf = true -> ∀ u ∈ us, SeqAt.EqAt A s u v (eqU x u)
  | _, _, .nil, _ => fun u hu => by cases hu
  | y :: xs, u :: us, .cons r t, f => fun u' hu => by
    rw [YR, Bool.and_eq_true] at f
    rcases ZK.mp hu with rfl | hu
    . rw [im r f.1]; exact eqAt_V r rx f.1 fx
    . exact ue rx fx t f.2 u' hu
def inV (x : V) (xs : List V) : Bool := xs.any fun y => eqV y x
def rIn (K : Fg) (neg : Bool) : R2 := fun x y H Q => ∃ p xs, y = .ref p /\ (SqL K H p xs \/ SqT K H p xs) /\ xf x = true /\ xs.all xf = true /\ Q (.bl (if neg then !inV x xs else inV x xs)) H
theorem zex : OpR X (compareOp .In) (rIn X.K false) := by
  intro pins s σ H x y v u Q I rx ry h;obtain ⟨p, xs, rfl, hq, fx, fs, q⟩ := h;cases ry
  rcases hq with hq | hq
  . obtain ⟨its, r, pl, hz⟩ := I.list hq
    refine SeqAt.in_listAt (eqU x) pl.isList (fun w hw => ue rx fx r fs w (by simpa using hw)) ⟨.bl _, H, I, rfl, ?_⟩;rw [show its.toArray.any (eqU x) = its.any (eqU x) by simp, mh r fs];exact q
  . obtain ⟨its, r, pl, hz⟩ := I.tuple hq
    refine SeqAt.in_tupleAt (eqU x) pl (fun w hw => ue rx fx r fs w (by simpa using hw)) ⟨.bl _, H, I, rfl, ?_⟩;rw [show its.toArray.any (eqU x) = its.any (eqU x) by simp, mh r fs];exact q
theorem sk : OpR X (compareOp .NotIn) (rIn X.K true) := by
  intro pins s σ H x y v u Q I rx ry h;obtain ⟨p, xs, rfl, hq, fx, fs, q⟩ := h;cases ry
  rcases hq with hq | hq
  . obtain ⟨its, r, pl, hz⟩ := I.list hq
    refine SeqAt.notIn_listAt (eqU x) pl.isList (fun w hw => ue rx fx r fs w (by simpa using hw)) ⟨.bl _, H, I, rfl, ?_⟩;rw [show its.toArray.any (eqU x) = its.any (eqU x) by simp, mh r fs];exact q
  . obtain ⟨its, r, pl, hz⟩ := I.tuple hq
    refine SeqAt.notIn_tupleAt (eqU x) pl (fun w hw => ue rx fx r fs w (by simpa using hw)) ⟨.bl _, H, I, rfl, ?_⟩;rw [show its.toArray.any (eqU x) = its.any (eqU x) by simp, mh r fs];exact q
theorem yc : CallR X (.builtin "len") (fun xs H Q => ∃ p ys, xs = [.ref p] /\ (SqL X.K H p ys \/ SqT X.K H p ys) /\ Q (.int ys.length) H) := by
  intro pins s σ H xs us Q I r h;obtain ⟨p, ys, rfl, hq, q⟩ := h;obtain ⟨u, rfl, rx⟩ := qy r;cases rx;have hn := mq
  rcases hq with hq | hq
  . obtain ⟨its, r', pl, hz⟩ := I.list hq
    have hlen := r'.length;exact Calls.call_len_list pl.isList (by simp only [Zr] <;> omega) ⟨.int ys.length, H, I.tok _, ⟨s.toks + 1, by rw [Zr, hlen]⟩, q⟩
  . obtain ⟨its, r', pl, hz⟩ := I.tuple hq
    have hlen := r'.length;exact len_tuple pl (by simp only [Zr] <;> omega) ⟨.int ys.length, H, I.tok _, ⟨s.toks + 1, by rw [Zr, hlen]⟩, q⟩
theorem kr : CallR X (.builtin "len") (fun xs H Q => ∃ z, xs = [.str z] /\ z.length <= sizeLine /\ Q (.int z.length) H) := by
  intro pins s σ H xs us Q I r h;obtain ⟨z, rfl, hz, q⟩ := h;obtain ⟨u, rfl, t, rfl⟩ := qy r;have hn := mq;exact len_str (by omega) ⟨.int z.length, H, I.tok _, ⟨_, rfl⟩, q⟩
theorem CallR.or {f : Value} {r r' : List V -> Hp -> VK -> Prop} (h : CallR X f r) (h' : CallR X f r') : CallR X f (fun xs H Q => r xs H Q \/ r' xs H Q) := by
  intro pins s σ H xs us Q I rs q
  rcases q with q | q
  . exact h pins s σ H xs us Q I rs q
  . exact h' pins s σ H xs us Q I rs q
theorem d3 : CallR X (.type "tuple") (fun xs H Q => ∃ p ys, xs = [.ref p] /\ ((SqL X.K H p ys /\ ∀ l, H l = none -> Q (.ref l) (upd H l (.tup ys))) \/ (SqT X.K H p ys /\ Q (.ref p) H))) := by
  intro pins s σ H xs us Q I r h;obtain ⟨p, ys, rfl, h⟩ := h;obtain ⟨u, rfl, rx⟩ := qy r;cases rx
  rcases h with ⟨hq, q⟩ | ⟨hq, q⟩
  . obtain ⟨its, r', pl, hz⟩ := I.list hq
    have hlen := r'.length;refine call_tuple_list pl.isList (fun h' kp => ?_) (by simp only [Zr] <;> omega);have I1 : Inv X pins σ H { s with heap := h' } := I.kept (t' := s.toks) kp
    have I2 : Inv X pins σ (upd H h'.objs.size (.tup ys)) { s with heap := h'.push { cls := .type "tuple", data := .seq its.toArray } } :=
      I1.laid (t' := s.toks) (fun b o e => Heap.get?_push_of_some _ e) (Zm _) (show ObjOk X.prog X.w _ _ _ (.tup ys) from ⟨hz, its, r', IsTupD.new _ _⟩)
    exact ⟨.ref h'.objs.size, _, I2, rfl, q _ (I1.hok.fresh (Zm _))⟩
  . obtain ⟨its, r', pl, hz⟩ := I.tuple hq
    exact call_tuple_same pl ⟨.ref p, H, I, rfl, q⟩
def tyV (K : Fg) (T : String) (x : V) (H : Hp) : Prop := match x with
  | .str _ => T = "str"
  | .int _ => T = "int"
  | .ref p => (T = "list" /\ ∃ xs, SqL K H p xs) \/ (T = "tuple" /\ ∃ o, K.lookup p = some o /\ o.cls = .type "tuple" /\ o.dict = none) \/
      (T = "dict" /\ ((∃ kvs, H p = some (.dK kvs)) \/ ∃ kvs, H p = some (.dT kvs))) \/ (T = "set" /\ ∃ S n, H p = some (.set S n))
  | _ => False
theorem tyV_is {pins : List (Addr × Obj)} {σ : St} {H : Hp} {s : Shared} {T : String} {x : V} {v : Value} (I : Inv X pins σ H s) (r : RelV x v) (ty : tyV X.K T x H) :
    s.TypeIs v T /\ ∀ a, v = .ref a -> ∃ ob, s.heap.get? a = some ob /\ ob.dict = none := by
  cases x with
  | str z =>
    obtain ⟨t, rfl⟩ := r;cases (show T = "str" from ty);exact ⟨typeIs_str s z t, fun _ e => nomatch e⟩
  | int i =>
    obtain ⟨t, rfl⟩ := r;cases (show T = "int" from ty);exact ⟨typeIs_int s i t, fun _ e => nomatch e⟩
  | ref p =>
    cases r
    rcases ty with ⟨rfl, xs, hq⟩ | ⟨rfl, o, hk, hc, hd⟩ | ⟨rfl, hk⟩ | ⟨rfl, S, n, hk⟩
    . obtain ⟨its, _, pl, _⟩ := I.list hq
      refine ⟨pl.isList.typeIs, fun a e => ?_⟩;cases e;obtain ⟨o, n, e, c, hd, _⟩ := pl;exact ⟨o, e, hd⟩
    . refine ⟨⟨o, I.kIn p o hk, hc⟩, fun a e => ?_⟩
      cases e;exact ⟨o, I.kIn _ o hk, hd⟩
    . have z : ∃ o, s.heap.get? p = some o /\ o.ExactDict := by
        rcases hk with ⟨kvs, hk⟩ | ⟨kvs, hk⟩
        . obtain ⟨_, _, _, _, o, _, _, e, ex, _⟩ := I.hok p _ hk
          exact ⟨o, e, ex⟩
        . obtain ⟨_, _, _, _, o, _, _, e, ex, _⟩ := I.hok p _ hk
          exact ⟨o, e, ex⟩
      obtain ⟨o, e, ex⟩ := z;refine ⟨⟨o, e, ex.1⟩, fun a e2 => ?_⟩;cases e2;exact ⟨o, e, ex.2.1⟩
    . obtain ⟨o, _, _, _, e, ex, _⟩ := I.hok p _ hk
      refine ⟨⟨o, e, ex.1⟩, fun a e2 => ?_⟩;cases e2;exact ⟨o, e, ex.2.1⟩
  | _ => exact False.elim ty
def tBM0 (K : Fg) (T : String) (r : V -> List V -> Hp -> VK -> Prop) (to : TE) : TE := fun σ H Q => to σ H fun x H1 => tyV K T x H1 /\ r x [] H1 Q
def tBM (K : Fg) (T : String) (r : V -> List V -> Hp -> VK -> Prop) (to : TE) (t : TA) : TE := fun σ H Q => to σ H fun x H1 => tyV K T x H1 /\ t σ H1 fun xs H2 => r x xs H2 Q
variable {o e : Expr} {es : List Expr} {to : TE} {t : TA} {name : Str} {apos cpos : Pos} {T id : String} {r : V -> List V -> Hp -> VK -> Prop}
theorem xa (pa : PlainAttrs T) (slot : Slot T name id) (hty : typeOf (.builtin id) = pure (.type "method_descriptor")) (hm : MtR X id r) (ho : PE X o to) (ha : PA X (e :: es) t)
    (hbase : attributeBase o name X.env (eval o X.env) = eval o X.env := by rfl)
    (hfew : ((backTo cpos (starEach (e :: es) X.env)).all (fun x => !x.1) && (backToKw cpos (keywordEach [] X.env)).all (fun x => x.1.isSome)
      && decide ((e :: es).length + ([] : List Keyword).length + (if ([] : List Keyword).isEmpty then 0 else 1) < 30)) = true := by rfl)
    (hline : (apos.endLine == cpos.line) = true := by rfl) (hs : starEach (e :: es) X.env = (false, eval e X.env) :: starEach es X.env := by rfl) (hplain : (backTo cpos (starEach es X.env)).any (·.1) = false := by rfl) :
    PE X (.Call (.Attribute o name apos) (e :: es) [] cpos) (tBM X.K T r to t) := by
  intro pins s σ H Q I h;refine wpAny_Call_method_late hbase hfew hline rfl (thn (ho pins s σ H _ I h) fun v s1 ⟨x, H1, I1, r1, ty, q1⟩ => ?_);obtain ⟨h1, h2⟩ := tyV_is I1 r1 ty;refine ⟨T, id, pa, slot, hty, h1, h2, ?_⟩;have hA := ha cpos pins s1 σ H1 _ I1 q1;rw [hs] at hA ⊢;refine Calls.callWith_builtin (by show (false || (backTo cpos (starEach es X.env)).any (·.1)) = false; rw [hplain] <;> rfl) (Calls.evalArgs_plain ?_);exact thn hA fun us s2 ⟨vs, H2, I2, r2, q2⟩ => hm pins s2 σ H2 x vs v us Q I2 r1 r2 q2
end
end L2
namespace L2
open PySem PySem.Spec PyProof.Rows
def MtM (X : Cx) (id : String) (r : V -> List V -> Hp -> VK -> Prop) : Prop :=
  ∀ (pins : List (Addr × Obj)) (s : Shared) (σ : St) (H : Hp) (x : V) (xs : List V) (v : Value) (us : List Value) (Q : VK), Inv X pins σ H s -> RelV x v -> Vals xs us -> r x xs H Q ->
    wpAny (model X.prog X.w) X.A (call (.builtin id) (v :: us)) (EP X pins σ Q) X.xe s
theorem Vals.one : ∀ {x : V} {us : List Value}, Vals [x] us -> ∃ u, us = [u] /\ RelV x u
  | _, _, .cons r .nil => ⟨_, rfl, r⟩
theorem Vals.two : ∀ {x y : V} {us : List Value}, Vals [x, y] us -> ∃ u v, us = [u, v] /\ RelV x u /\ RelV y v
  | _, _, _, .cons r (.cons q .nil) => ⟨_, _, rfl, r, q⟩
theorem Vals.zero : ∀ {us : List Value}, Vals [] us -> us = []
  | _, .nil => rfl
theorem Vals.reverse {xs : List V} {us : List Value} (h : Vals xs us) : Vals xs.reverse us.reverse := by
  induction h with
  | nil => exact .nil
  | cons r t ih => rw [List.reverse_cons, List.reverse_cons]; exact Vals.append ih (.cons r .nil)
section
variable {X : Cx} {pins : List (Addr × Obj)} {σ : St} {H : Hp} {s : Shared} {l b : Addr} {xs ys zs : List V}
theorem Inv.lset {its its' : List Value} {n : Nat} {f : Array Value -> Array Value} {t' : Nat} (I : Inv X pins σ H s) (hH : H l = some (.lst xs))
    (e : s.heap.get? l = some { cls := .type "list", data := .seq its.toArray n }) (hf : f its.toArray = its'.toArray) (hv : Vals ys its') (hz : ys.length <= sizeLine) :
    Inv X pins σ (upd H l (.lst ys)) { s with heap := s.heap.update l (Obj.mapSeq f), toks := t' } := by
  have q := PySem.IsL.update e f;rw [hf] at q;refine I.write (x := l) (e := l) (by rw [hH]; exact trivial) (.inl rfl) (fun b' u hb hu => (Heap.get?_update_other s.heap (Obj.mapSeq f) (Ne.symm hb)).trans hu) ⟨_, q⟩ ?_;exact ⟨hz, its', _, hv, q⟩
theorem Inv.lnew {its : List Value} {t' : Nat} (I : Inv X pins σ H s) (hv : Vals ys its) (hz : ys.length <= sizeLine) :
    Inv X pins σ (upd H s.heap.objs.size (.lst ys)) { s with heap := s.heap.push { cls := .type "list", data := .seq its.toArray }, toks := t' } :=
  I.laid (fun _ _ q => Heap.get?_push_of_some _ q) (Zm _) ⟨hz, its, 0, hv, Heap.get?_push_size _ rfl⟩
theorem Inv.fresh (I : Inv X pins σ H s) : H s.heap.objs.size = none := I.hok.fresh (Zm _)
theorem Inv.lstM (I : Inv X pins σ H s) (hH : H l = some (.lst xs)) : xs.length <= sizeLine /\ ∃ (its : List Value) (n : Nat), Vals xs its /\ xs.length = its.length /\ s.heap.get? l = some { cls := .type "list", data := .seq its.toArray n } := by
  obtain ⟨z, its, n, r, e⟩ := I.hok l _ hH;exact ⟨z, its, n, r, r.length, e⟩
theorem zfc {n : Nat} (h : n <= sizeLine) : Builtin.List.listTooLong n = false := by
  unfold Builtin.List.listTooLong;exact decide_eq_false (by omega)
end
section
variable {X : Cx}
def zbr : V -> List V -> Hp -> VK -> Prop := fun x vs H Q => ∃ l xs y, x = .ref l /\ vs = [y] /\ H l = some (.lst xs) /\ xs.length < sizeLine /\ Q .non (upd H l (.lst (xs ++ [y])))
theorem ug : MtM X "list.append" zbr := by
  intro pins s σ H x vs v us Q I rx rv h;obtain ⟨l, xs, y, rfl, rfl, hH, hz, q⟩ := h;cases rx;obtain ⟨u, rfl, ru⟩ := rv.one;obtain ⟨z, its, n, r, hl, e⟩ := I.lstM hH;refine call_meets F.slot_list_append ⟨_, e, rfl⟩ F.entry_list_append (F.args_list_append_2 _ _) (PySem.list_append l its.toArray n u (by rw [Zr]; omega)) ⟨e, ?_⟩;refine ⟨.non, _, I.lset (its' := its ++ [u]) hH e (by simp) (r.append (.cons ru .nil)) ?_, rfl, q⟩;rw [Zo, Yd];omega
def zbl : V -> List V -> Hp -> VK -> Prop := fun x vs H Q => ∃ l b xs zs, x = .ref l /\ vs = [.ref b] /\ H l = some (.lst xs) /\ H b = some (.lst zs) /\ xs.length + zs.length <= sizeLine /\ Q .non (upd H l (.lst (xs ++ zs)))
theorem zdm : MtM X "list.extend" zbl := by
  intro pins s σ H x vs v us Q I rx rv h;obtain ⟨l, b, xs, zs, rfl, rfl, hH, hB, hz, q⟩ := h;cases rx;obtain ⟨u, rfl, ru⟩ := rv.one;cases ru;obtain ⟨z, its, n, r, hl, e⟩ := I.lstM hH;obtain ⟨z2, its2, n2, r2, hl2, e2⟩ := I.lstM hB;have hsz : its.toArray.size + its2.toArray.size <= sizeLine := by rw [Zr, Zr]; omega
  have hlong : ¬ (!its.toArray.isEmpty && Builtin.List.listTooLong (its.toArray.size + its2.toArray.size)) = true := by
    rw [zfc hsz, Bool.and_false];exact Bool.false_ne_true
  refine call_meets F.slot_list_extend ⟨_, e, rfl⟩ F.entry_list_extend (F.args_list_extend_2 _ _)
    (AutoSeq1.list_extend_list_list_0 l its.toArray n b its2.toArray n2 hlong (by rw [Zr]; omega) (by omega)) ⟨e, e2, ?_⟩
  refine ⟨.non, _, I.lset (its' := its ++ its2) hH e (by simp) (r.append r2) ?_, rfl, q⟩;rw [Zo];omega
def rCat : R2 := fun x y H Q => ∃ l b xs zs, x = .ref l /\ y = .ref b /\ H l = some (.lst xs) /\ H b = some (.lst zs) /\ xs.length + zs.length <= sizeLine /\ ∀ p, H p = none -> Q (.ref p) (upd H p (.lst (xs ++ zs)))
theorem kt : OpR X (binaryOp .Add) rCat := by
  intro pins s σ H x y v u Q I rx ry h;obtain ⟨l, b, xs, zs, rfl, rfl, hH, hB, hz, q⟩ := h;cases rx;cases ry;obtain ⟨z, its, n, r, hl, e⟩ := I.lstM hH;obtain ⟨z2, its2, n2, r2, hl2, e2⟩ := I.lstM hB;refine PySem.P.add_list e e2 ?_ (by rw [Zr, Zr]; omega);have ea : its.toArray ++ its2.toArray = (its ++ its2).toArray := by simp
  rw [ea];exact ⟨.ref _, _, I.lnew (t' := s.toks) (r.append r2) (by rw [Zo]; omega), rfl, q _ I.fresh⟩
def rRep : R2 := fun x y H Q => ∃ l k xs, x = .ref l /\ y = .int k /\ H l = some (.lst xs) /\ -(2 ^ 63) <= k /\ k < 2 ^ 63 /\ xs.length * k.toNat <= sizeLine /\
  ∀ p, H p = none -> Q (.ref p) (upd H p (.lst (List.replicate k.toNat xs).flatten))
end
section
variable {prog : Program} {w : World} {A : Around} {E : Value -> Shared -> Prop} {s : Shared}
set_option maxRecDepth 100000 in
end
section
variable {X : Cx}
end
end L2
namespace Att
open PySem PySem.W PySem.Calls PyProof.Rows
theorem i6 {P : Params} {h : Heap} : ∀ (ns : List Int) (vs : List Value), WellAll P h vs (ns.map WData.int) -> IntsAre vs ns := by
  intro ns
  induction ns with
  | nil =>
    intro vs w;rw [Yq] at w;cases w;exact .nil
  | cons n ns ih =>
    intro vs w;rw [ZM] at w
    cases w with
    | cons a b =>
      cases a;exact .cons _ _ (ih _ b)
theorem zdh {l : OpenLaw} {n : Nat} (hn : l.most = some n) {P : Params} {h : Heap} {args : List WData} {vals : List Value}
    (hpre : l.row.toRowW.claim.pre args = true) (hwl : WellAll P h vals args) :
    ∃ a vs ns, vals = [Value.ref a] /\ args = [WData.list (ns.map WData.int)] /\ h.get? a = some { cls := .type "list", data := .seq vs.toArray } /\ IntsAre vs ns /\ ns.length <= n := by
  have hsh : WShape.hasAll [] args [.list .int] = true := (pre_splitW hpre).1;have hc : l.pre.holds [] { args := args } = true := (pre_splitW hpre).2;obtain ⟨d, r, rfl, h1, h2⟩ := hasAllW_cons hsh;obtain rfl := hasAllW_nil h2;obtain ⟨xs, rfl, h3⟩ := hasW_list h1;obtain ⟨ns, rfl⟩ := items_int h3
  have hlen : ns.length <= n := by
    unfold OpenLaw.pre at hc
    have h4 : (WTm.not (.lt (.lit (.int (n : Int))) (.len (.arg 0)))).holds [] { args := [.list (ns.map .int)] } = true := by
      have h4 := (holds_andW hc).1;rw [hn] at h4;exact h4
    have h5 := condW_of h4 (w_not (w_lt w_lit (w_len_list (w_arg rfl))));rw [Za] at h5;refine Nat.le_of_not_lt fun q => ?_
    have q' : (n : Int) < ((ns.length : Nat) : Int) := by omega
    first
      | (rw [decide_eq_true q'] at h5; exact absurd h5 (by decide))
      | (simp at h5; omega)
  cases hwl with
  | cons w1 w2 =>
    cases w2
    cases w1 with
    | list ho hall => exact ⟨_, _, ns, rfl, rfl, ho, i6 ns _ hall, hlen⟩
theorem zea (l : OpenLaw) (args : List WData) : l.row.toRowW.claim.post args (.bool true) args = true :=
  postW_of (r := l.row.toRowW) (X := (true == true))
    (show WShape.has [] (.bool true) .bool = true by first | rfl | decide | simp [WShape.has, WShape.arms, WShape.armsAll])
    (show (WTm.eq .res (.lit (.bool true))).value [] { args := args, res := some (.bool true), after := args } = some (.bool (true == true)) from w_eq_bool (w_res rfl) w_lit) rfl
theorem zal {l : OpenLaw} {n : Nat} {q : Program} {loose : List Str} {XP : (Str -> Option Value) -> Heap -> Prop} {YP : World -> Heap -> Prop} {d : DefRec}
    (hn : l.most = some n) (hdf : d.params.defaults = [])
    (call : ∀ (w : World) (s₀ s₁ : Shared) (mg mb : Str -> Option Value) (fa : Addr) (o : Obj) (pm cd doc : Value) (a : Addr) (vs : List Value) (ns : List Int),
      Ground q loose [] XP w s₀ mg mb s₁.heap -> YP w s₁.heap ->
      s₁.heap.get? fa = some o -> o.data = .func (docDef d.name d.params d.body d.scope pm cd doc) -> s₁.heap.CodeRec cd d.name -> mg d.name = some (.ref fa) ->
      s₁.heap.get? a = some { cls := .type "list", data := .seq vs.toArray } -> IntsAre vs ns -> ns.length <= n -> s₁.gens = #[] ->
      codeAny (model l.prog w) callerA (.call (.ref fa) ⟨[.ref a], []⟩) (fun r s' => r = .ok (.ret (.bool true)) /\ OldK s₁.heap s'.heap /\ s'.os = s₁.os /\ AllBare s'.gens) s₁) :
    WalkO q loose XP YP l.row.toRowW d [] (fun f vs => PySem.call f vs) := by
  intro w s₀ s₁ mg mb G Y fa o pm cd doc dV kV ho hd hcd hD hmg hg args vals as hpre hlay hrd hwl hlo;obtain rfl : dV = .none := Dflts.none hD hdf;obtain rfl : kV = .none := Dflts.noKw hD;obtain ⟨a, vs, ns, rfl, rfl, hobj, hints, hlen⟩ := zdh hn hpre hwl;refine enter_call (codeAny_mono (call w s₀ s₁ mg mb fa o pm cd doc a vs ns G Y ho (fd_plain hd) hcd hmg hobj hints hlen hg) fun r s' hq => ?_);obtain ⟨rfl, h2, h3, h4⟩ := hq;exact ⟨.inl ⟨.bool true, .bool true, [], rfl, fun _ => rfl, .bool true, zea l _, fun _ => ⟨List.Pairwise.nil, fun _ hm => (nomatch hm)⟩⟩, h2, h3, h4⟩
section
variable {prog : Program} {w : World} {A : Around} {E : Value -> Shared -> Prop} {s : Shared} {K : Frag}
def ledger (h : Heap) (L d : Addr) : List (Addr × Obj) := (List.range h.objs.size).filterMap fun a => if a = L \/ a = d then none else (h.get? a).map fun o => (a, o)
end
end Att
namespace L2
open PySem PySem.Spec PyProof.Rows
theorem di : ∀ {vs : List Value} {ns : List Int}, IntsAre vs ns -> Vals (ns.map V.int) vs
  | _, _, .nil => .nil
  | _, _, .cons n t h => .cons ⟨t, rfl⟩ (di h)
def Only (H : Hp) : Prop := ∀ b, H b = none \/ ∃ o xs, H b = some (.frz o (.lst xs))
theorem zft {P : Program} {w : World} {K : Fg} {mg mb : Str -> Option Value} {CX : CXT} {k : Nat} {fa a : Addr} {fd : FuncData} {x : Str} {sp : Sp} {s₁ : Shared} {vs : List Value} {ns : List Int}
    (KX : K.In s₁.heap) (hns : s₁.heap.Ns mainGlobals mg) (hb : s₁.heap.Ns builtinsNs mb) (hbb : ∀ x : Str, x ≠ "__name__" -> mb x = bootBuiltins x) (hlim : s₁.heap.NoLimit) (hg : s₁.gens = #[])
    (ha : s₁.heap.get? a = some { cls := .type "list", data := .seq vs.toArray }) (hi : IntsAre vs ns) (hl : ns.length <= sizeLine) (hr : Room k callerA)
    (F : ∀ base : Heap, K.In base -> base.Ns mainGlobals mg -> FnOk P w K mg base CX k fa fd [x] sp) (hbind : ∀ (s : Shared) (u : Value), BindsTo s fd ⟨[u], []⟩ [(x, u)])
    (hsp : ∀ H : Hp, Only H -> SqL K H a (ns.map V.int) -> sp [.ref a] H (fun v _ => v = .bl true) fun _ _ _ => False)
    (hCX : ∀ H e s', CX [] H s₁ (fun _ _ _ => False) e s' -> False) :
    codeAny (model P w) callerA (.call (.ref fa) ⟨[.ref a], []⟩) (fun r s' => r = .ok (.ret (.bool true)) /\ OldK s₁.heap s'.heap /\ s'.os = s₁.os /\ AllBare s'.gens) s₁ := by
  have rv := di hi;have lenV := hi.length
  -- from an abstract heap in which nothing but the script may be tracked
  have core : ∀ H : Hp, Only H -> SqL K H a (ns.map V.int) -> HOk P w H s₁.heap -> (∀ b, H b ≠ none -> b = a) -> (H a ≠ none -> K.lookup a = none) ->
      codeAny (model P w) callerA (.call (.ref fa) ⟨[.ref a], []⟩) (fun r s' => r = .ok (.ret (.bool true)) /\ OldK s₁.heap s'.heap /\ s'.os = s₁.os /\ AllBare s'.gens) s₁ := by
    intro H hO hS hok hA hK;have base_of : ∀ {b : Addr} {o : Obj}, s₁.heap.get? b = some o -> H b = none -> (hidT s₁.heap H).get? b = some o := fun e n => zfe e n
    have noA : ∀ {b : Addr} {o : Obj} {es : Array DictEntry} {ep : Nat}, s₁.heap.get? b = some o -> o.data = .dict es ep -> H b = none := fun {b o es ep} e d => by
      cases q : H b with
      | none => rfl
      | some u =>
        have e' : b = a := hA b (by rw [q]; simp);subst e';rw [ha] at e; cases e;have d' : Data.seq vs.toArray _ = Data.dict es ep := d;cases d'
    have nsK : ∀ {b : Addr} {m : Str -> Option Value}, s₁.heap.Ns b m -> (hidT s₁.heap H).Ns b m := fun {b m} ⟨o, es, ep, e, d, r⟩ => ⟨o, es, ep, base_of e (noA e d), d, r⟩
    have hKb : K.In (hidT s₁.heap H) := fun b o e => base_of (KX b o e) (by
      cases q : H b with
      | none => rfl
      | some u =>
        have e' : b = a := hA b (by rw [q]; simp);subst e'
        rw [hK (by rw [q]; simp)] at e; cases e)
    have hM : Mod K mg (hidT s₁.heap H) := ⟨hKb, nsK hns, ⟨mb, nsK hb, hbb⟩, let ⟨mc, h1, h2⟩ := hlim; ⟨mc, nsK h1, h2⟩⟩;have e0 : Env0 P w K mg (hidT s₁.heap H) callerA [] s₁ H := ⟨rfl, hM, fun b o e => zg4 e, YG (zef _ _), trivial, fun b hb => absurd (show b ∈ ([] : List Addr) from hb) (by simp), hok, .of_eq hg⟩;refine codeAny_mono ((F _ hKb (nsK hns)).run callerA [] s₁ H ⟨[.ref a], []⟩ [.ref a] [.ref a] _ _ hr e0 (hbind s₁ (.ref a)) (.cons rfl .nil) (hsp H hO hS)) fun r s' h => ?_
    cases r with
    | error e => exact (hCX H e s' h).elim
    | ok fl =>
      cases fl with
      | next => exact False.elim h
      | brk => exact False.elim h
      | cont => exact False.elim h
      | ret u =>
        obtain ⟨v, H', os, bare, un, hok', r', q⟩ := h;have q' : v = .bl true := q;subst q';obtain rfl : u = Value.bool true := r';refine ⟨rfl, OldK.of_keep fun b o e => ?_, os, bare⟩
        cases q : H b with
        | none => exact un.keep b o e q (by intro z; exact absurd (show b ∈ ([] : List Addr) from z) (by simp)) (by simp)
        | some u =>
          rcases hO b with z | ⟨ob, xs, z⟩
          . rw [q] at z; cases z
          . have z2 := un.frzs b ob _ z
            obtain ⟨e1, _⟩ := hok b _ z;obtain ⟨e2, _⟩ := hok' b _ z2;rw [e] at e1; cases e1;exact e2
  cases hk : K.lookup a with
  | some o =>
    -- the script is one of the module's own objects
    have e := KX a o hk;rw [ha] at e;cases e;refine core (fun _ => none) (fun _ => .inl rfl) (.inr ⟨_, vs.toArray, _, hk, rfl, rfl, rfl, by rw [Zr, lenV]; exact hl, by simpa using rv⟩) (fun b u z => by have z' : (none : Option HO) = some u := z; cases z') (fun b z => absurd rfl z) fun z => absurd rfl z
  | none =>
    refine core (fun b => if b = a then some (.frz { cls := .type "list", data := .seq vs.toArray } (.lst (ns.map V.int))) else none) (fun b => ?_) (.inl (.inr ⟨{ cls := .type "list", data := .seq vs.toArray }, if_pos rfl⟩)) (fun b u z => ?_) (fun b z => ?_) fun _ => hk
    . by_cases hb : b = a
      . exact .inr ⟨_, _, if_pos hb⟩
      . exact .inl (if_neg hb)
    . by_cases hb : b = a
      . have z' := (if_pos hb).symm.trans z
        cases z';subst hb;exact ⟨ha, by rw [Za]; exact hl, vs, _, rv, ha⟩
      . have z' := (if_neg hb).symm.trans z
        cases z'
    . by_cases hb : b = a
      . exact hb
      . exact absurd (if_neg hb) z
end L2
namespace L2
open PySem PySem.Spec PyProof.Rows
abbrev KOf {K : Fg} {h : Heap} (_ : K.In h) : Fg := K
theorem zgi {l : PySem.W.OpenLaw} {n k : Nat} {q : Program} {loose : List Str} {XP : (Str -> Option Value) -> Heap -> Prop} {YP : World -> Heap -> Prop} {d : DefRec} {K : Params -> Fg} {CX : World -> CXT} {sp : World -> Sp} {x : Str}
    (hn : l.most = some n) (hn2 : n <= sizeLine) (hdf : d.params.defaults = []) (hr : Room k callerA)
    (hY : ∀ (w : World) (h : Heap), YP w h -> (K w.params).In h)
    (F : ∀ (w : World) (mg : Str -> Option Value) (fa : Addr) (h : Heap), (K w.params).In h -> h.Ns mainGlobals mg -> mg d.name = some (.ref fa) ->
      ∃ fd : FuncData, (∀ (s : Shared) (u : Value), BindsTo s fd ⟨[u], []⟩ [(x, u)]) /\
        ∀ base : Heap, (K w.params).In base -> base.Ns mainGlobals mg -> FnOk l.prog w (K w.params) mg base (CX w) k fa fd [x] (sp w))
    (hsp : ∀ (w : World) (H : Hp) (a : Addr) (ns : List Int), ns.length <= n -> Only H -> SqL (K w.params) H a (ns.map V.int) -> sp w [.ref a] H (fun v _ => v = .bl true) fun _ _ _ => False)
    (hCX : ∀ (w : World) (H : Hp) (s : Shared) (e : Value) (s' : Shared), CX w [] H s (fun _ _ _ => False) e s' -> False) :
    PySem.W.WalkO q loose XP YP l.row.toRowW d [] (fun f vs => PySem.call f vs) := by
  refine Att.zal hn hdf fun w s₀ s₁ mg mb fa o pm cd doc a vs ns G Y ho hd hcd hmg hobj hints hlen hg => ?_
  have KX := hY w _ Y;obtain ⟨fd, hb, hF⟩ := F w mg fa _ KX G.T.g hmg;exact zft KX G.T.g G.T.b G.T.builtins G.T.nolimit hg hobj hints (Zd hlen hn2) hr hF hb (fun H hO hS => hsp w H a ns hlen hO hS) fun H e s' => hCX w H s₁ e s'
theorem zfq {l : PySem.W.OpenLaw} {n k : Nat} {q : Program} {loose : List Str} {XP : (Str -> Option Value) -> Heap -> Prop} {YP : World -> Heap -> Prop} {d : DefRec} {K : Params -> Fg} {CX : CXT} {sp : Fg -> Sp} {x : Str}
    (hn : l.most = some n) (hn2 : n <= sizeLine) (hdf : d.params.defaults = []) (hr : Room k callerA)
    (hY : ∀ (w : World) (h : Heap), YP w h -> (K w.params).In h)
    (F : ∀ (w : World) (mg : Str -> Option Value) (fa : Addr) (h : Heap), (K w.params).In h -> h.Ns mainGlobals mg -> mg d.name = some (.ref fa) ->
      ∃ fd : FuncData, (∀ (s : Shared) (u : Value), BindsTo s fd ⟨[u], []⟩ [(x, u)]) /\
        ∀ base : Heap, (K w.params).In base -> base.Ns mainGlobals mg -> FnOk l.prog w (K w.params) mg base CX k fa fd [x] (sp (K w.params)))
    (hsp : ∀ (K : Fg) (H : Hp) (a : Addr) (ns : List Int), ns.length <= n -> Only H -> SqL K H a (ns.map V.int) -> sp K [.ref a] H (fun v _ => v = .bl true) fun _ _ _ => False)
    (hCX : ∀ (H : Hp) (s : Shared) (e : Value) (s' : Shared), CX [] H s (fun _ _ _ => False) e s' -> False) :
    PySem.W.WalkO q loose XP YP l.row.toRowW d [] (fun f vs => PySem.call f vs) :=
  zgi (K := K) (CX := fun _ => CX) (sp := fun w => sp (K w.params)) hn hn2 hdf hr hY F (fun w H a ns h1 h2 h3 => hsp (K w.params) H a ns h1 h2 h3) fun _ H s e s' => hCX H s e s'
end L2
namespace L2
open PySem PySem.Spec PyProof.Rows
def wb (s : Stmt) : Arguments := match s with
  | .FunctionDef _ a _ _ _ _ _ _ _ _ => a
  | _ => { posonlyargs := [], args := [], vararg := none, kwonlyargs := [], kw_defaults := [], kwarg := none, defaults := [] }
def ya (s : Stmt) : List Stmt := match s with
  | .FunctionDef _ _ b _ _ _ _ _ _ _ => b
  | _ => []
def zh (s : Stmt) : Scope := match s with
  | .FunctionDef _ _ _ _ _ _ sc _ _ _ => sc
  | _ => { kind := .function, names := [], isGenerator := false, isCoroutine := false }
abbrev CX0 : CXT := fun _ _ _ _ _ _ => False
abbrev E0 : XK := fun _ _ _ => False
theorem pass0 {X : Cx} : qj CX0 X E0 := fun _ _ _ _ _ _ _ h => h.elim
structure Fun (K : Fg) (x qual : Str) (st : Stmt) (f : Addr) (fd : FuncData) : Prop where
  ex : ∃ (oc : Value) (od : Option Addr) (kV doc pm : Value) (an : Option Addr) (cdv ct : Value) (osl : Array (Option Value)),
    fd = PySem.W.fnOf x qual (wb st) (ya st) (zh st) .none kV doc pm an cdv ct /\ K.lookup f = some ⟨oc, od, .func fd, osl⟩ /\ PySem.W.codeIn K cdv qual = true
  kp : PySem.W.keepIn K (.ref f) = true
section
variable {P : Program} {w : World} {K : Fg} {mg : Str -> Option Value} {base : Heap}
theorem Fun.ok {x qual : Str} {st : Stmt} {f : Addr} {fd : FuncData} {N ps : List Str} {k : Nat} {sp : Sp} (F : Fun K x qual st f fd) (S : zr N ps (zh st)) (len : ∀ vs H Q E, sp vs H Q E -> vs.length = ps.length)
    (hbody : ∀ (cdv : Value) (A : Around) (outer : List Env) (s : Shared) (H : Hp) (vs : List V) (Q : VK) (E : XK), Room k (A.deeper (envOfC qual (zh st) s.heap.objs.size f cdv)) -> sp vs H Q E ->
      ∃ t, PSs (cxOf CX0 P w K mg base N qual (zh st) f cdv A outer s H E).nox (ya st) t /\ t { nx := fun _ H' => Q .non H', rt := Q } (start N vs) H) : FnOk P w K mg base CX0 (k + 1) f fd ps sp := by
  obtain ⟨oc, od, kV, doc, pm, an, cdv, ct, osl, rfl, lk, hcd⟩ := F.ex;refine zch lk hcd S len fun A outer s H vs Q E hr hsp => ?_
  obtain ⟨t, h, q⟩ := hbody cdv A outer s H vs Q E hr hsp;exact ⟨t, h.nox, q⟩
theorem Fun.binds {x qual : Str} {st : Stmt} {f : Addr} {fd : FuncData} {ps : List Str} (F : Fun K x qual st f fd)
    (h : ∀ (kV doc pm : Value) (an : Option Addr) (cdv ct : Value) (us : List Value), us.length = ps.length -> bindArgs (PySem.W.fnOf x qual (wb st) (ya st) (zh st) .none kV doc pm an cdv ct) ⟨us, []⟩ = pure (ps.zip us)) : Binds K fd ps [] := by
  obtain ⟨oc, od, kV, doc, pm, an, cdv, ct, osl, rfl, lk, hcd⟩ := F.ex;exact .all (h kV doc pm an cdv ct)
theorem mr {x qual : Str} {st : Stmt} {f : Addr} {oc : Value} {od an : Option Addr} {osl : Array (Option Value)} {kV doc pm cdv ct : Value} (l : K.lookup f = some ⟨oc, od, .func (PySem.W.fnOf x qual (wb st) (ya st) (zh st) .none kV doc pm an cdv ct), osl⟩)
    (c : PySem.W.codeIn K cdv qual = true) (k : PySem.W.keepIn K (.ref f) = true) : Fun K x qual st f (PySem.W.fnOf x qual (wb st) (ya st) (zh st) .none kV doc pm an cdv ct) := ⟨⟨oc, od, kV, doc, pm, an, cdv, ct, osl, rfl, l, c⟩, k⟩
end
section
variable {X : Cx}
theorem pv (i : Nat) {x : Str} {pos : Pos} (hN : X.N[i]? = some x := by rfl) (hv : Vis X.env.scope x := by first | exact Or.inl rfl | exact Or.inr (Or.inl rfl) | exact Or.inr (Or.inr rfl)) (hd : (x == ("__debug__" : Str)) = false := by decide)
    (hcd : (x == ("__classdict__" : Str)) = false := by decide) : PE X (.Name x pos) (tVar i) := pe_var hN hv hd hcd
end
theorem iteF {A B : Prop} (h : B) : if false = true then A else B := by
  rw [if_neg Bool.false_ne_true];exact h
theorem iteT {A B : Prop} (h : A) : if true = true then A else B := by
  rw [if_pos rfl];exact h
theorem ite2 {c A B : Prop} [Decidable c] (h1 : c -> A) (h2 : ¬ c -> B) : if c then A else B := by
  by_cases h : c
  . rw [if_pos h]
    exact h1 h
  . rw [if_neg h]
    exact h2 h
theorem zcd {c A B : Prop} [Decidable c] (hc : c) (h : B) : if (!decide c) = true then A else B := by
  rw [decide_eq_true hc];exact iteF h
def Same (H H' : Hp) : Prop := ∀ b o, H b = some o -> H' b = some o
theorem Same.refl (H : Hp) : Same H H := fun _ _ h => h
theorem Same.trans {H H1 H2 : Hp} (a : Same H H1) (b : Same H1 H2) : Same H H2 := fun c o h => b c o (a c o h)
theorem Same.free {H H' : Hp} (e : Same H H') {l : Addr} (h : H' l = Option.none) : H l = Option.none := by
  cases q : H l with
  | none => rfl
  | some o =>
    rw [e l o q] at h;cases h
theorem Same.seq {K : Fg} {H H' : Hp} {a : Addr} {xs : List V} (e : Same H H') (h : SqL K H a xs) : SqL K H' a xs := by
  rcases h with (h | ⟨o, h⟩) | h
  . exact .inl (.inl (e _ _ h))
  . exact .inl (.inr ⟨o, e _ _ h⟩)
  . exact .inr h
end L2
namespace L2
open PySem PySem.Spec PyProof.Rows
section
variable {κ : Type} [DecidableEq κ]
def valV (kvs : List (κ × V)) (k : κ) : Option V := (kvs.find? fun kv => decide (kv.1 = k)).map (·.2)
def putK (kvs : List (κ × V)) (k : κ) (v : V) : List (κ × V) :=
  if (kvs.any fun kv => decide (kv.1 = k)) = true then kvs.map (fun kv => if kv.1 = k then (kv.1, v) else kv) else kvs ++ [(k, v)]
def cf (kvs : List (κ × V)) (k : κ) : List (κ × V) := kvs.filter fun kv => decide (kv.1 ≠ k)
theorem m8 {p : κ × V} {r : List (κ × V)} {k : κ} (e : p.1 = k) : valV (p :: r) k = some p.2 := by simp [valV, Ye, e]
theorem m7 {p : κ × V} {r : List (κ × V)} {k : κ} (e : ¬ p.1 = k) : valV (p :: r) k = valV r k := by simp [valV, Ye, e]
theorem ll (k : κ) : ∀ kvs : List (κ × V), (kvs.any fun kv => decide (kv.1 = k)) = (valV kvs k).isSome
  | [] => rfl
  | p :: r => by
    rw [YC]
    by_cases e : p.1 = k
    . simp only [m8 e, decide_eq_true e, Bool.true_or, Option.isSome_some]
    . rw [m7 e, decide_eq_false e, Bool.false_or]; exact ll k r
theorem zan (kvs : List (κ × V)) (k : κ) (v : V) : (putK kvs k v).length <= kvs.length + 1 := by
  unfold putK
  split
  . rw [Za]; omega
  . rw [Zo, ZL, List.length_nil]; omega
theorem ze7 {kvs : List (κ × V)} {k : κ} (v : V) (h : valV kvs k = none) : putK kvs k v = kvs ++ [(k, v)] := by
  unfold putK;rw [ll, h];exact if_neg (by decide)
theorem RelO.isSome_eq {o : Option V} {u : Option Value} (r : RelO o u) : o.isSome = u.isSome := by
  cases o with
  | none => cases u with
    | none => rfl
    | some _ => exact (show False from r).elim
  | some _ => cases u with
    | none => exact (show False from r).elim
    | some _ => rfl
theorem RelO.getD {o : Option V} {u : Option Value} {d : V} {d' : Value} (r : RelO o u) (rd : RelV d d') : RelV (o.getD d) (u.getD d') := by
  cases o with
  | none => cases u with
    | none => exact rd
    | some _ => exact (show False from r).elim
  | some _ => cases u with
    | none => exact (show False from r).elim
    | some _ => exact r
theorem KV.val {kvs : List (κ × V)} {vs : List (κ × Value)} (r : KV kvs vs) (k : κ) : RelO (valV kvs k) (valueAt vs k) := by
  unfold KV at r
  induction r with
  | nil => exact True.intro
  | @cons p q ps qs h t ih =>
    obtain ⟨h1, h2⟩ := h
    by_cases e : p.1 = k
    . have e' : q.1 = k := h1.symm.trans e
      have b : valueAt (q :: qs) k = some q.2 := by simp [valueAt, Ye, e']
      rw [m8 e, b]; exact h2
    . have e' : ¬ q.1 = k := fun z => e (h1.trans z)
      have b : valueAt (q :: qs) k = valueAt qs k := by simp [valueAt, Ye, e']
      rw [m7 e, b]; exact ih
theorem KV.any {kvs : List (κ × V)} {vs : List (κ × Value)} (r : KV kvs vs) (k : κ) : (kvs.any fun kv => decide (kv.1 = k)) = vs.any fun kv => decide (kv.1 = k) := by
  unfold KV at r
  induction r with
  | nil => rfl
  | cons h t ih => rw [YC, YC, ih, h.1]
theorem KV.repl {kvs : List (κ × V)} {vs : List (κ × Value)} (r : KV kvs vs) (k : κ) {y : V} {u : Value} (ry : RelV y u) :
    KV (kvs.map fun kv => if kv.1 = k then (kv.1, y) else kv) (vs.map fun kv => if kv.1 = k then (kv.1, u) else kv) := by
  unfold KV at r ⊢
  induction r with
  | nil => exact .nil
  | @cons p q ps qs h t ih =>
    rw [ZM, ZM];refine .cons ?_ ih;obtain ⟨h1, h2⟩ := h
    by_cases e : p.1 = k
    . rw [if_pos e, if_pos (h1.symm.trans e)]; exact ⟨h1, ry⟩
    . rw [if_neg e, if_neg (fun z => e (h1.trans z))]; exact ⟨h1, h2⟩
theorem KV.put {kvs : List (κ × V)} {vs : List (κ × Value)} (r : KV kvs vs) (k : κ) {y : V} {u : Value} (ry : RelV y u) : KV (putK kvs k y) (stored vs k u) := by
  unfold putK stored;rw [r.any k]
  by_cases e : (vs.any fun kv => decide (kv.1 = k)) = true
  . rw [if_pos e, if_pos e]; exact r.repl k ry
  . rw [if_neg e, if_neg e]; exact Paired.snoc r ⟨rfl, ry⟩
theorem KV.drop {kvs : List (κ × V)} {vs : List (κ × Value)} (r : KV kvs vs) (k : κ) : KV (cf kvs k) (without vs k) := by
  unfold KV at r ⊢;unfold cf without
  induction r with
  | nil => exact .nil
  | @cons p q ps qs h t ih =>
    obtain ⟨h1, h2⟩ := h;rw [YE, YE]
    by_cases e : p.1 = k
    . have a : ¬ decide (p.1 ≠ k) = true := by simp [e]
      have b : ¬ decide (q.1 ≠ k) = true := by simp [h1.symm.trans e]
      rw [if_neg a, if_neg b]; exact ih
    . have e' : ¬ q.1 = k := fun z => e (h1.trans z)
      have a : decide (p.1 ≠ k) = true := by simp [e]
      have b : decide (q.1 ≠ k) = true := by simp [e']
      rw [if_pos a, if_pos b]; exact .cons ⟨h1, h2⟩ ih
theorem KV.keys {kvs : List (κ × V)} {vs : List (κ × Value)} (r : KV kvs vs) : kvs.map (·.1) = vs.map (·.1) := by
  unfold KV at r
  induction r with
  | nil => rfl
  | cons h t ih => rw [ZM, ZM, ih, h.1]
theorem KV.length {kvs : List (κ × V)} {vs : List (κ × Value)} (r : KV kvs vs) : kvs.length = vs.length := Paired.length r
end
theorem jd {P : Program} {w : World} {k : Key} {u : Value} (r : RelV (kV k) u) : (xq P w).is k u = true := by
  cases k with
  | inl i => obtain ⟨t, e⟩ := (show ∃ t, u = Value.int i t from r); subst e; exact zai P w i t
  | inr x => obtain ⟨t, e⟩ := (show ∃ t, u = Value.str x t from r); subst e; exact nw P w x t
theorem f8 {P : Program} {w : World} : ∀ {ks : List Key} {us : List Value}, Vals (ks.map kV) us -> ItemsAre (xq P w) ks us
  | [], _, r => by rw [Yq] at r; cases r; exact .nil
  | k :: ks, _, r => by
    rw [ZM] at r
    cases r with
    | cons h t => exact .cons (jd h) (f8 t)
abbrev KT (H : Hp) : List (List Key × V) -> List (List Key × Addr × Value) -> Prop := Paired fun p q => p.1 = q.1 /\ H q.2.1 = some (.tup (p.1.map kV)) /\ RelV p.2 q.2.2
theorem KT.val {H : Hp} {kvs : List (List Key × V)} {xs : List (List Key × Addr × Value)} (r : KT H kvs xs) (k : List Key) : RelO (valV kvs k) ((atKey xs k).map (·.2)) := by
  induction r with
  | nil => exact True.intro
  | @cons p q ps qs h t ih =>
    obtain ⟨h1, _, h2⟩ := h
    by_cases e : p.1 = k
    . have e' : q.1 = k := h1.symm.trans e
      have b : atKey (q :: qs) k = some q.2 := by simp [atKey, Ye, e']
      rw [m8 e, b]; exact h2
    . have e' : ¬ q.1 = k := fun z => e (h1.trans z)
      have b : atKey (q :: qs) k = atKey qs k := by simp [atKey, Ye, e']
      rw [m7 e, b]; exact ih
theorem KT.repl {H : Hp} {kvs : List (List Key × V)} {xs : List (List Key × Addr × Value)} (r : KT H kvs xs) (k : List Key) {y : V} {u : Value} (ry : RelV y u) :
    KT H (kvs.map fun kv => if kv.1 = k then (kv.1, y) else kv) (xs.map (putAt k u)) := by
  induction r with
  | nil => exact .nil
  | @cons p q ps qs h t ih =>
    rw [ZM, ZM];refine .cons ?_ ih;obtain ⟨h1, h2, h3⟩ := h;unfold putAt
    by_cases e : p.1 = k
    . rw [if_pos e, if_pos (h1.symm.trans e)]; exact ⟨h1, h2, ry⟩
    . rw [if_neg e, if_neg (fun z => e (h1.trans z))]; exact ⟨h1, h2, h3⟩
theorem KT.put {H : Hp} {kvs : List (List Key × V)} {xs : List (List Key × Addr × Value)} (r : KT H kvs xs) (k : List Key) {b : Addr} {y : V} {u : Value} (hb : H b = some (.tup (k.map kV))) (ry : RelV y u) :
    KT H (putK kvs k y) (storedH xs k b u) := by
  have e : (kvs.any fun kv => decide (kv.1 = k)) = (atKey xs k).isSome := by
    rw [ll, (r.val k).isSome_eq, Option.isSome_map]
  unfold putK storedH;rw [e]
  by_cases q : (atKey xs k).isSome = true
  . rw [if_pos q, if_pos q]; exact r.repl k ry
  . rw [if_neg q, if_neg q]; exact Paired.snoc r ⟨rfl, hb, ry⟩
theorem KT.keeps {H H' : Hp} {kvs : List (List Key × V)} {xs : List (List Key × Addr × Value)} (r : KT H kvs xs) (ht : ∀ b ys, H b = some (.tup ys) -> H' b = some (.tup ys)) : KT H' kvs xs :=
  Paired.mapP r fun _ _ z => ⟨z.1, ht _ _ z.2.1, z.2.2⟩
section
variable {P : Program} {w : World} {H : Hp} {h : Heap} {a : Addr}
theorem rd_of {u : HO} (ok : HOk P w H h) (e : Rd H a u) : ObjOk P w H h a u := e.ok ok
theorem zcp {kvs : List (Key × V)} (ok : HOk P w H h) (e : Rd H a (.dK kvs)) : kvs.length <= sizeLine /\ (a == sysModules) = false /\ ∃ vs, KV kvs vs /\ h.DictOf (xq P w) a vs :=
  show ObjOk P w H h a (.dK kvs) from rd_of ok e
theorem i8 {ks : List Key} (ok : HOk P w H h) (e : H a = some (.tup (ks.map kV))) : (tupleKind (xq P w)).is h ks a := by
  obtain ⟨_, its, r, o, h1, h2, n, h3⟩ := (show ObjOk P w H h a (.tup (ks.map kV)) from ok a _ e);exact ⟨o, its.toArray, n, h1, h2, h3.1, by simpa using f8 r⟩
theorem zb2 {kvs : List (List Key × V)} (ok : HOk P w H h) (e : Rd H a (.dT kvs)) : kvs.length <= sizeLine /\ (a == sysModules) = false /\
    ∃ xs, KT H kvs xs /\ h.DictOfH (tupleKind (xq P w)) a xs := by
  obtain ⟨z, y, xs, r, o, es, ep, h1, h2, h3, h4, h5⟩ := (show ObjOk P w H h a (.dT kvs) from rd_of ok e);refine ⟨z, y, xs, r, o, es, ep, h1, h2, h3, h4, fun x hx => ?_, h5⟩
  have all : ∀ {l : List (List Key × V)} {m : List (List Key × Addr × Value)}, KT H l m -> ∀ x ∈ m, (tupleKind (xq P w)).is h x.1 x.2.1 := by
    intro l m q
    induction q with
    | nil => intro x hx; exact nomatch hx
    | @cons p q ps qs hq t ih =>
      intro x hx
      rcases ZK.mp hx with e | hx
      . subst e
        exact i8 ok (by rw [<- hq.1]; exact hq.2.1)
      . exact ih x hx
  exact all r x hx
end
def DGet (H : Hp) (a : Addr) (y : V) (r : Option V) : Prop :=
  (∃ kvs k, Rd H a (.dK kvs) /\ y = kV k /\ r = valV kvs k) \/ ∃ kvs k b, Rd H a (.dT kvs) /\ y = .ref b /\ H b = some (.tup (k.map kV)) /\ r = valV kvs k
def DPut (H : Hp) (a : Addr) (y v : V) (H' : Hp) : Prop :=
  (∃ kvs k, H a = some (.dK kvs) /\ y = kV k /\ kvs.length < sizeLine /\ H' = upd H a (.dK (putK kvs k v))) \/
  ∃ kvs k b, H a = some (.dT kvs) /\ y = .ref b /\ H b = some (.tup (k.map kV)) /\ kvs.length < sizeLine /\ H' = upd H a (.dT (putK kvs k v))
theorem DGet.k {H : Hp} {a : Addr} {kvs : List (Key × V)} {k : Key} (e : H a = some (.dK kvs)) : DGet H a (kV k) (valV kvs k) := .inl ⟨kvs, k, .inl e, rfl, rfl⟩
theorem DGet.t {H : Hp} {a b : Addr} {kvs : List (List Key × V)} {k : List Key} (e : H a = some (.dT kvs)) (eb : H b = some (.tup (k.map kV))) : DGet H a (.ref b) (valV kvs k) := .inr ⟨kvs, k, b, .inl e, rfl, eb, rfl⟩
theorem DPut.k {H : Hp} {a : Addr} {kvs : List (Key × V)} {k : Key} {v : V} (e : H a = some (.dK kvs)) (hl : kvs.length < sizeLine) : DPut H a (kV k) v (upd H a (.dK (putK kvs k v))) := .inl ⟨kvs, k, e, rfl, hl, rfl⟩
theorem DPut.t {H : Hp} {a b : Addr} {kvs : List (List Key × V)} {k : List Key} {v : V} (e : H a = some (.dT kvs)) (eb : H b = some (.tup (k.map kV))) (hl : kvs.length < sizeLine) :
    DPut H a (.ref b) v (upd H a (.dT (putK kvs k v))) := .inr ⟨kvs, k, b, e, rfl, eb, hl, rfl⟩
section
variable {X : Cx} {pins : List (Addr × Obj)} {σ : St} {H : Hp} {s : Shared} {a : Addr} {y v : V} {u r : Value} {o : Option V} {A : Around} {E : Value -> Shared -> Prop}
theorem Inv.big (I : Inv X pins σ H s) : sysModules < s.heap.objs.size := by
  have h : mainGlobals < s.heap.objs.size := (I.mod.glob.keeps I.bk).lt;exact Nat.lt_trans (by decide) h
theorem zdv {Q : Value -> Shared -> Prop} (hu : A.units + 1 < cLine) (I : Inv X pins σ H s) (g : DGet H a y (some v)) (ry : RelV y u) (h : ∀ w' s', Inv X pins σ H s' -> RelV v w' -> Q w' s') :
    wpAny (model X.prog X.w) A (getItem (.ref a) u) Q E s := by
  rcases g with ⟨kvs, k, e, ey, l⟩ | ⟨kvs, k, b, e, ey, eb, l⟩
  . subst ey
    obtain ⟨z, hd, vs, rel, dd⟩ := zcp I.hok e;obtain ⟨w', hw, rw'⟩ := RelO.some_of (v := v) (o := valueAt vs k) (by rw [l]; exact rel.val k);exact wpAny_getItem_of (jd ry) dd.mapOf hw (h w' _ (I.tok _) rw')
  . subst ey
    cases (show u = Value.ref b from ry);obtain ⟨z, hd, xs, rel, dd⟩ := zb2 I.hok e;obtain ⟨w', hw, rw'⟩ := RelO.some_of (v := v) (o := (atKey xs k).map (·.2)) (by rw [l]; exact rel.val k);obtain ⟨p, hp, hp2⟩ := Option.map_eq_some_iff.mp hw;refine wpAny_getItem_heap (tupleKind_room_in1 hu) (i8 I.hok eb) dd hp ?_;rw [hp2];exact h w' _ (I.tok _) rw'
theorem zhc {Q : Value -> Shared -> Prop} (hu : A.units + 1 < cLine) (I : Inv X pins σ H s) (g : DGet H a y o) (ry : RelV y u) (h : ∀ s', Inv X pins σ H s' -> Q (.bool (!o.isSome)) s') :
    wpAny (model X.prog X.w) A (compareOp .NotIn u (.ref a)) Q E s := by
  rcases g with ⟨kvs, k, e, ey, l⟩ | ⟨kvs, k, b, e, ey, eb, l⟩
  . subst ey
    obtain ⟨z, hd, vs, rel, dd⟩ := zcp I.hok e;refine wpAny_notIn_of (jd ry) hd dd.mapOf ?_;rw [<- (rel.val k).isSome_eq, <- l];exact h _ (I.tok _)
  . subst ey
    cases (show u = Value.ref b from ry);obtain ⟨z, hd, xs, rel, dd⟩ := zb2 I.hok e;refine wpAny_notIn_heap (tupleKind_room_in1 hu) (i8 I.hok eb) hd dd ?_;have q := (rel.val k).isSome_eq;rw [Option.isSome_map] at q;rw [<- q, <- l];exact h _ (I.tok _)
end
section
variable {X : Cx} {pins : List (Addr × Obj)} {σ : St} {H : Hp} {s : Shared} {a : Addr} {kvs : List (Key × V)} {k : Key} {u : Value} {A : Around} {E : Value -> Shared -> Prop}
end
def NoSl (i : Expr) : Prop := ∀ ov iv, subscripted i false ov iv = operate [ov, iv] (getItem ov iv)
theorem zbj {prog : Program} {w : World} {A : Around} {E : Value -> Shared -> Prop} {s : Shared} {env : Env} {value slice : Expr} {pos : Pos} {T id : String} {Q : Value -> Shared -> Prop}
    (hl : typeLookup (.type T) "__getitem__" = pure (some (.builtin id))) (hs : NoSl slice)
    (h : wpAny (model prog w) A (eval value env) (fun o s₁ => wpAny (model prog w) A (eval slice env) (fun i s₂ => s₂.TypeIs o T /\ wpAny (model prog w) A (getItem o i) Q E s₂) E s₁) E s) :
    wpAny (model prog w) A (eval (.Subscript value slice pos) env) Q E s := by
  refine Subscript_ (wpAny_mono h (fun o s₁ h₁ => wpAny_mono h₁ (fun i s₂ h₂ => ?_) fun _ _ x => x) fun _ _ x => x);obtain ⟨hT, h₂⟩ := h₂;unfold subscriptTail;refine wpAny_bind ?_;rw [getitemInPython_of_ne hT.not_modules];refine wpAny_bind (wpAny_specialOf hT hl ?_)
  have fin : wpAny (model prog w) A (subscripted slice false o i) (fun r s₃ => wpAny (model prog w) A (letTemporaryGo value o r >>= fun _ => pure r) Q E s₃) E s₂ := by
    rw [hs o i];exact wpAny_operating (wpAny_mono h₂ (fun r s₃ h₃ => wpAny_bind (wpAny_letTemporaryGo (wpAny_pure h₃))) fun _ _ x => x)
  first
    | exact wpAny_pure (wpAny_bind fin)
    | exact wpAny_bind (wpAny_pure (wpAny_bind fin))
    | exact wpAny_bind fin
theorem zag {X : Cx} {pins : List (Addr × Obj)} {σ : St} {H : Hp} {s : Shared} {a : Addr} {y : V} {o : Option V} (I : Inv X pins σ H s) (g : DGet H a y o) : s.TypeIs (.ref a) "dict" := by
  rcases g with ⟨kvs, k, e, _, _⟩ | ⟨kvs, k, b, e, _, _, _⟩
  . obtain ⟨_, _, vs, _, dd⟩ := zcp I.hok e
    exact dd.typeIs
  . obtain ⟨_, _, xs, _, dd⟩ := zb2 I.hok e
    exact dd.typeIs
def tDGet (td ty : TE) : TE := fun σ H Q => td σ H fun x H1 => ty σ H1 fun y H2 => ∃ a v, x = .ref a /\ DGet H2 a y (some v) /\ Q v H2
section
variable {X : Cx} {o i e value : Expr} {pos pos' tpos : Pos} {td ty tv : TE}
theorem zhn (hu : X.A.units + 1 < cLine) (ho : PE X o td) (hi : PE X i ty) (hs : NoSl i) : PE X (.Subscript o i pos) (tDGet td ty) := by
  intro pins s σ H Q I h;refine zbj PySem.F.slot_dict_getitem.lookup hs (thn (ho pins s σ H _ I h) fun u s1 ⟨x, H1, I1, rx, q1⟩ => thn (hi pins s1 σ H1 _ I1 q1) fun iv s2 ⟨y, H2, I2, ry, a, v, ex, g, q2⟩ => ?_);subst ex;obtain rfl : u = Value.ref a := rx;exact ⟨zag I2 g, zdv hu I2 g ry fun w' s3 I3 rw' => ⟨v, H2, I3, rw', q2⟩⟩
end
def tDNewK : TE := fun _ H Q => ∀ p, H p = none -> Q (.ref p) (upd H p (.dK []))
def tDNewT : TE := fun _ H Q => ∀ p, H p = none -> Q (.ref p) (upd H p (.dT []))
section
variable {X : Cx} {pos : Pos}
end
section
variable {X : Cx} {pins : List (Addr × Obj)} {σ : St} {H : Hp} {s : Shared} {a : Addr} {y d : V} {u r : Value} {o : Option V} {A : Around} {E : Value -> Shared -> Prop}
end
section
variable {X : Cx} {o e f : Expr} {apos cpos : Pos} {td ty tx : TE}
end
section
variable {X : Cx} {pins : List (Addr × Obj)} {σ : St} {H : Hp} {s : Shared} {a : Addr} {kvs : List (Key × V)} {A : Around} {E : Value -> Shared -> Prop}
end
section
variable {X : Cx} {pins : List (Addr × Obj)} {σ : St} {H : Hp} {s : Shared} {a : Addr} {y : V} {u : Value} {A : Around} {E : Value -> Shared -> Prop}
end
end L2
namespace L2
open PySem PySem.Spec PyProof.Rows
section
variable {X : Cx}
end
section
variable {κ : Type} [DecidableEq κ]
theorem zgz {kvs : List (κ × V)} {k : κ} {v : V} (h : valV kvs k = some v) : k ∈ kvs.map (·.1) := by
  have q : (kvs.any fun kv => decide (kv.1 = k)) = true := by
    rw [ll, h]
    all_goals rfl
  obtain ⟨p, hp, e⟩ := Yu.mp q;exact Zp.mpr ⟨p, hp, of_decide_eq_true e⟩
end
end L2
namespace L2
open PySem PySem.Spec PyProof.Rows
def gy (ns : List (Str × NameKind)) (y n : Str) : Bool := match ns.lookup y with
  | some .free => y == n
  | some .local => false
  | some .cell => false
  | _ => true
def wy (ns : List (Str × NameKind)) : List Str -> List Str -> Bool
  | [], [] => true
  | y :: ys, n :: ms => gy ns y n && wy ns ys ms
  | _, _ => false
def qg (ns : List (Str × NameKind)) (env : Env) : Bool := ns.all fun y => !(y.2 == .free) || (env.kindOf y.1 == some .cell || env.kindOf y.1 == some .free)
def pq (ns : List (Str × NameKind)) : Bool := ns.all fun y => !(y.2 == .cell) && (!(y.2 == .local) || ns.lookup y.1 == some .local)
theorem ge {ns : List (Str × NameKind)} : ∀ {N2 N : List Str} {i : Nat} {y : Str}, wy ns N2 N = true -> N2[i]? = some y -> gy ns y y = true /\ (ns.lookup y = some .free -> N[i]? = some y)
  | [], [], _, _, _, e => by simp at e
  | y' :: ys, n :: ms, 0, y, h, e => by
    simp at e; subst e;unfold wy at h;rw [Bool.and_eq_true] at h;refine ⟨?_, fun hf => ?_⟩
    . have h1 := h.1
      unfold gy at h1 ⊢
      split at h1 <;> first | rfl | (exact absurd h1 Bool.false_ne_true) | (exact beq_self_eq_true _)
    . have h1 := h.1
      unfold gy at h1;rw [hf] at h1;have e : y' = n := eq_of_beq h1;simp [e]
  | y' :: ys, n :: ms, i + 1, y, h, e => by
    unfold wy at h;rw [Bool.and_eq_true] at h;obtain ⟨h1, h2⟩ := ge (i := i) (y := y) h.2 (by simpa using e);exact ⟨h1, fun hf => by simpa using h2 hf⟩
  | [], _ :: _, _, _, h, _ => by cases h
  | _ :: _, [], _, _, h, _ => by cases h
theorem qv {ns : List (Str × NameKind)} {env : Env} (h : qg ns env = true) {y : Str × NameKind} (hy : y ∈ ns) (hf : y.2 = .free) : env.kindOf y.1 = some .cell \/ env.kindOf y.1 = some .free := by
  have q := ZR.mp h y hy;rw [hf] at q
  simpa using q
theorem lg {ns : List (Str × NameKind)} (h : pq ns = true) : ∀ y ∈ ns, y.2 ≠ .cell := fun y hy e => by
  have q := ZR.mp h y hy;rw [e] at q;simp at q
theorem me {ns : List (Str × NameKind)} (h : pq ns = true) : ∀ y ∈ ns, y.2 = .local -> ns.lookup y.1 = some .local := fun y hy e => by
  have q := ZR.mp h y hy;rw [e] at q
  simpa using q
theorem su {env : Env} {x : Str} : ∀ {ns : List (Str × NameKind)}, (ns.map fun (n, k) => if (k == NameKind.free && env.scope.kind == .function && env.kindOf n == some .cell) then (n, NameKind.cell) else (n, k)).lookup x =
    (ns.lookup x).map fun k => if (k == NameKind.free && env.scope.kind == .function && env.kindOf x == some .cell) then NameKind.cell else k
  | [] => rfl
  | (n, k) :: r => by
    have ih := @su env x r
    show List.lookup x ((if (k == NameKind.free && env.scope.kind == .function && env.kindOf n == some .cell) = true then (n, NameKind.cell) else (n, k)) :: _) = _
    cases hx : x == n with
    | true =>
      have e : x = n := eq_of_beq hx;subst e;simp only [ZF, beq_self_eq_true]
      by_cases hc : (k == NameKind.free && env.scope.kind == .function && env.kindOf x == some .cell) = true
      . rw [if_pos hc]; simp only [ZF, beq_self_eq_true, YI]; rw [if_pos hc]
      . rw [if_neg hc]; simp only [ZF, beq_self_eq_true, YI]; rw [if_neg hc]
    | false =>
      simp only [ZF, hx]
      by_cases hc : (k == NameKind.free && env.scope.kind == .function && env.kindOf n == some .cell) = true
      . rw [if_pos hc]; simp only [ZF, hx]; exact ih
      . rw [if_neg hc]; simp only [ZF, hx]; exact ih
theorem m5 {scope : Scope} {env : Env} (h : ∀ y ∈ scope.names, y.2 = .free -> ∃ c, env.cells.lookup y.1 = some c) :
    ∃ cl, closureFor scope env = pure cl /\ (∀ x c, cl.lookup x = some c -> env.cells.lookup x = some c) /\ (∀ y ∈ scope.names, y.2 = .free -> ∃ c, cl.lookup y.1 = some c) := by
  have all : ∀ (ns : List (Str × NameKind)) (cs : List (Str × Addr)), (∀ y ∈ ns, y.2 = .free -> ∃ c, env.cells.lookup y.1 = some c) -> (∀ x c, cs.lookup x = some c -> env.cells.lookup x = some c) ->
      ∃ cl, (forIn ns cs fun x r => (if (x.2 == NameKind.free) = true then do let a <- cellOf env x.1; pure (ForInStep.yield ((x.1, a) :: r)) else pure (ForInStep.yield r) : Sem (ForInStep (List (Str × Addr))))) = pure cl /\
        (∀ x c, cl.lookup x = some c -> env.cells.lookup x = some c) /\ (∀ x, (cs.lookup x).isSome = true -> (cl.lookup x).isSome = true) /\ (∀ y ∈ ns, y.2 = .free -> ∃ c, cl.lookup y.1 = some c) := by
    intro ns
    induction ns with
    | nil => intro cs _ hc; exact ⟨cs, rfl, hc, fun _ z => z, fun _ z => nomatch z⟩
    | cons y r ih =>
      intro cs hh hc;have hr : ∀ z ∈ r, z.2 = .free -> ∃ c, env.cells.lookup z.1 = some c := fun z hz => hh z (Zv _ hz)
      by_cases hf : y.2 = .free
      . obtain ⟨c, ec⟩ := hh y ZA hf
        have hc' : ∀ x d, ((y.1, c) :: cs).lookup x = some d -> env.cells.lookup x = some d := fun x d e => by
          rw [ZF] at e
          cases hx : x == y.1 with
          | true =>
            rw [hx] at e;have e2 : x = y.1 := eq_of_beq hx;cases e;rw [e2]; exact ec
          | false =>
            rw [hx] at e;exact hc x d e
        obtain ⟨cl, e1, e2, e3, e4⟩ := ih ((y.1, c) :: cs) hr hc';refine ⟨cl, ?_, e2, fun x hx => e3 x ?_, fun z hz hzf => ?_⟩
        . rw [List.forIn_cons]
          have ek : (y.2 == NameKind.free) = true := by rw [hf]; rfl
          simp only [ek, if_true, cellOf, ec, pure_bind];exact e1
        . rw [ZF]; split <;> first | rfl | exact hx
        . rcases ZK.mp hz with rfl | hz
          . have := e3 z.1 (by rw [ZF, beq_self_eq_true]; rfl)
            exact Option.isSome_iff_exists.mp this
          . exact e4 z hz hzf
      . obtain ⟨cl, e1, e2, e3, e4⟩ := ih cs hr hc
        refine ⟨cl, ?_, e2, e3, fun z hz hzf => ?_⟩
        . rw [List.forIn_cons]
          have ek : (y.2 == NameKind.free) = false := by simpa using hf
          simp only [ek, Bool.false_eq_true, if_false, pure_bind];exact e1
        . rcases ZK.mp hz with rfl | hz
          . exact absurd hzf hf
          . exact e4 z hz hzf
  obtain ⟨cl, e1, e2, _, e4⟩ := all scope.names [] h (fun _ _ z => by cases z);refine ⟨cl, ?_, e2, e4⟩;unfold closureFor
  first
    | (rw [show (forIn scope.names ([] : List (Str × Addr)) _ : Sem (List (Str × Addr))) = pure cl from e1]; rfl)
    | (simp only [bind_pure]; exact e1)
    | (show (forIn scope.names [] _ >>= _) = _; exact (congrArg (fun t => t >>= fun cs => pure cs) e1))
structure Dyn where
  cl : List (Str × Addr)
  C : Addr
  s₀ : Shared
  H₀ : Hp
  fp : List Addr
abbrev z7 (X : Cx) (scope : Scope) (N' : List Str) (d : Dyn) : Cx where
  prog := X.prog
  w := X.w
  K := X.K
  mg := X.mg
  base := X.base
  A := X.A
  N := N'
  s₀ := d.s₀
  H₀ := d.H₀
  env := compEnvC scope d.cl d.C X.env
  outer := X.stack
  stack := X.stack
  ex := d.fp
  fn := fun _ => false
  calm := true
  pn := []
  xe := fun _ _ => False
theorem zao {prog : Program} {w : World} {A : Around} {R : Result -> Shared -> Prop} {s : Shared} {elt target iter : Expr} {ifs : List Expr} {scope : Scope} {pos : Pos} {it acc : Value} {env : Env} (I : Nat -> Shared -> Prop)
    (turn : ∀ n s, I n s -> wpAny (model prog w) A (pyNext it) (fun r s₁ => match r with
      | none => R (.ok .next) s₁
      | some v => wpAny (model prog w) A (letOwnedTupleGo target it v) (fun _ s₁' => wpAny (model prog w) A (assign target env v) (fun _ s₂ =>
          wpAny (model prog w) A (forIn ifs true fun c r => if r = true then do let ok <- isTrue c env (eval c env); pure (ForInStep.yield ok) else pure (ForInStep.yield r)) (fun ok s₃ =>
            if ok = true then wpAny (model prog w) A (eval elt env) (fun x s₄ =>
              wpAny (model prog w) A (call (.builtin "list.append") [acc, x]) (fun _ s₅ => ∃ m, m < n /\ I m s₅) (fun _ _ => False) s₄) (fun _ _ => False) s₃
            else ∃ m, m < n /\ I m s₃) (fun _ _ => False) s₂) (fun _ _ => False) s₁') (fun _ _ => False) s₁) (fun _ _ => False) s)
    (n : Nat) (h : I n s) :
    codeAny (model prog w) A (.compLoop (.ListComp elt [⟨target, iter, ifs, 0⟩] scope pos) 0 it acc env) R s := by
  refine codeAny_loop rfl I (fun n s hI => ?_) n h
  show wpAny _ A ((compTurn (.ListComp elt [⟨target, iter, ifs, 0⟩] scope pos) 0 it acc env).onRaise (fun x => do noteFrame x env; theTreesLotGoes x)) _ _ s
  refine wpAny_noted ?_;rw [compTurn_list];refine wpAny_bind (wpAny_standAt (wpAny_bind (wpAny_mono (turn n s hI) (fun r s₁ h₁ => ?_) fun _ _ f => f.elim)))
  cases r with
  | none => exact wpAny_pure h₁
  | some v =>
    refine wpAny_bind (wpAny_mono h₁ (fun _ s₁' h₁' => ?_) fun _ _ f => f.elim);refine wpAny_bind (wpAny_mono h₁' (fun _ s₂ h₂ => wpAny_bind (wpAny_mono h₂ (fun ok s₃ h₃ => ?_) fun _ _ f => f.elim)) fun _ _ f => f.elim)
    cases ok with
    | false => exact wpAny_pure ⟨rfl, h₃⟩
    | true =>
      exact wpAny_bind (wpAny_bind (wpAny_mono h₃ (fun x s₄ h₄ => wpAny_bind (wpAny_mono h₄ (fun _ s₅ h₅ => wpAny_pure (wpAny_pure ⟨rfl, h₅⟩)) fun _ _ f => f.elim)) fun _ _ f => f.elim))
def PTs (X : Cx) (ifs : List Expr) (t : TT) : Prop :=
  ∀ (pins : List (Addr × Obj)) (s : Shared) (σ : St) (H : Hp) (Q : Bool -> Hp -> Prop), Inv X pins σ H s -> t σ H Q ->
    wpAny (model X.prog X.w) X.A (forIn ifs true fun c r => if r = true then do let ok <- isTrue c X.env (eval c X.env); pure (ForInStep.yield ok) else pure (ForInStep.yield r)) (TP X pins σ Q) X.xe s
def tAll : TT := fun _ H Q => Q true H
theorem yi {X : Cx} : PTs X [] tAll := fun _ _ _ H _ I h => wpAny_tests_nil ⟨H, I, h⟩
theorem zf8 {X : Cx} {c : Expr} {t : TT} (h : PT X c t) : PTs X [c] t := fun pins s σ H Q I q => wpAny_tests_one (h pins s σ H Q I q)
def oy (J : It) (σ : St) (k : Nat) (g : TG) (tt : TT) (te : TE) (H1 : Hp) (Fin : List V -> Hp -> Prop) : Prop :=
  ∃ W : Nat -> Nat -> List V -> Hp -> Prop, (∃ m, W 0 m [] H1) /\ ∀ i m ys H, W i m ys H -> ys.length <= sizeLine /\
    ((J.stop i H /\ Fin ys H) \/ (J.go i H /\ ∃ N : List V -> Hp -> Prop, (∀ ys' H', N ys' H' -> ∃ m', m' < m /\ W (i + 1) m' ys' H') /\ ∀ x H', J.yld i H x H' -> g x (List.replicate k none ++ σ) H' fun σ2 H2 => σ2.drop k = σ /\
      tt σ2 H2 fun b H3 => if b = true then te σ2 H3 fun v H4 => N (ys ++ [v]) H4 else N ys H3))
abbrev lobj (its : List Value) : Obj := { cls := .type "list", data := .seq its.toArray its.length }
section
variable {X : Cx} {pins : List (Addr × Obj)} {σ : St} {H2 : Hp} {s₂ : Shared} {scope : Scope} {ts N2 : List Str} {cl : List (Str × Addr)} {C D : Addr} {fp : List Addr}
theorem zge (I2 : Inv X pins σ H2 s₂) (hc : X.calm = true) (f2 : ∀ b ∈ fp, FpOk X pins H2 b /\ b < s₂.heap.objs.size) (hkind : scope.kind = .function) (hown : pq scope.names = true) (hfree : qg scope.names X.env = true)
    (hcl1 : ∀ x c, cl.lookup x = some c -> X.env.cells.lookup x = some c) (hcl2 : ∀ y ∈ scope.names, y.2 = .free -> ∃ c, cl.lookup y.1 = some c) (hC : s₂.heap.objs.size <= C) :
    (z7 X scope (ts ++ N2) ⟨cl, C, s₂, H2, fp⟩).Ok := by
  refine ⟨I2.ok.mod, hkind, I2.ok.glob, I2.ok.blt, hC, fun x y c e1 e2 => I2.ok.inj x y c (hcl1 _ _ e1) (hcl1 _ _ e2), fun x hx => ?_, fun x c z _ => absurd (show false = true from z) Bool.false_ne_true, fun _ => I2.ok.hd hc, I2.ok.frames, .inl rfl, fun b hb => ?_, I2.bs, Zd I2.ok.bsz I2.sz, fun b o e hb => ?_, fun b hb hfs => ?_, I2.stack, I2.stkFree⟩
  . have hx' : (relabel scope X.env).names.lookup x = some .cell \/ (relabel scope X.env).names.lookup x = some .free := hx
    have e0 : (relabel scope X.env).names.lookup x = _ := su (env := X.env) (x := x) (ns := scope.names);rw [e0] at hx'
    cases q : scope.names.lookup x with
    | none => rw [q] at hx'; simp at hx'
    | some k =>
      rw [q] at hx';simp only [YI, Option.some.injEq] at hx';have hm : (x, k) ∈ scope.names := PySem.mem_of_lookup q
      have hk : k = .free := by
        have nc := lg hown _ hm
        split at hx'
        . rename_i hcond
          simp only [Bool.and_eq_true] at hcond;exact eq_of_beq hcond.1.1
        . rcases hx' with z | z
          . exact absurd z nc
          . exact z
      exact hcl2 _ hm hk
  . obtain ⟨⟨f0, f1, f3, f4, f5, f6⟩, hlt⟩ := f2 b hb
    exact ⟨Zs (Zh hlt hC), fun x c e => f5 x c (hcl1 x c e)⟩
  . obtain ⟨⟨f0, f1, f3, f4, f5, f6⟩, hlt⟩ := f2 b hb
    rcases f4 with z | z
    . exact I2.ok.noex b o e z
    . exact absurd (Zh (Heap.lt_size e) (Zd I2.ok.bsz z)) (ZJ _)
  . obtain ⟨⟨f0, f1, f3, f4, f5, f6⟩, hlt⟩ := f2 b hb
    rcases ZK.mp (I2.stkSub b hfs) with z | z
    . exact f1 z
    . exact f3 z
theorem i4 (I2 : Inv X pins σ H2 s₂) (hc : X.calm = true) (f2 : ∀ b ∈ fp, FpOk X pins H2 b /\ b < s₂.heap.objs.size) (hkind : scope.kind = .function) (hown : pq scope.names = true) (hfree : qg scope.names X.env = true) (hout : wy scope.names N2 X.N = true)
    (hcl1 : ∀ x c, cl.lookup x = some c -> X.env.cells.lookup x = some c) (hcl2 : ∀ y ∈ scope.names, y.2 = .free -> ∃ c, cl.lookup y.1 = some c) (hC : s₂.heap.objs.size <= C) (hDC : D ≠ C) (hD : s₂.heap.objs.size <= D)
    {h₁ : Heap} {tk : Nat} {m : Str -> Option Value} (hn : h₁.Ns C m) (old : ∀ b o, s₂.heap.get? b = some o -> h₁.get? b = some o) (hacc : h₁.get? D = some (lobj [])) :
    Inv (z7 X scope (ts ++ N2) ⟨cl, C, s₂, H2, fp⟩) [(D, lobj [])] (List.replicate ts.length none ++ σ) H2 { s₂ with heap := h₁, toks := tk } := by
  have ok := zge (ts := ts) (N2 := N2) I2 hc f2 hkind hown hfree hcl1 hcl2 hC
  have hlN : ∀ {a b : List Str}, wy scope.names a b = true -> a.length = b.length := by
    intro a
    induction a with
    | nil => intro b h; cases b with | nil => rfl | cons _ _ => cases h
    | cons y ys ih =>
      intro b h
      cases b with
      | nil => cases h
      | cons n ms =>
        unfold wy at h;rw [Bool.and_eq_true] at h;rw [ZL, ZL, ih h.2]
  refine ⟨ok, rfl, I2.bare, Un.kept old, ⟨m, hn, fun i x v e1 e2 e3 => ?_⟩, fun x c e => ?_, ?_, fun x c e => I2.freeC x c (hcl1 x c e), fun p hp => ?_, I2.hok.kept old, ?_⟩
  . by_cases hi : i < ts.length
    . rw [Zg (by simpa using hi), Yl] at e2
      split at e2 <;> cases e2
    . have hi' : ts.length <= i := ZD.mp hi
      rw [Zf (by simpa using hi')] at e2;rw [ZI] at e2;have e1' : (ts ++ N2)[i]? = some x := e1;rw [Zf hi'] at e1';obtain ⟨k1, k2⟩ := ge hout e1';have e0 : (relabel scope X.env).names.lookup x = _ := su (env := X.env) (x := x) (ns := scope.names);have e3' : (relabel scope X.env).names.lookup x = some .local \/ (relabel scope X.env).names.lookup x = some .cell \/ (relabel scope X.env).names.lookup x = some .free := e3;rw [e0] at e3'
      cases q : scope.names.lookup x with
      | none => rw [q] at e3'; simp at e3'
      | some k =>
        have hm : (x, k) ∈ scope.names := PySem.mem_of_lookup q
        have hk : k = .free := by
          unfold gy at k1;rw [q] at k1 e3'
          cases k with
          | free => rfl
          | «local» => cases k1
          | cell => cases k1
          | _ => exfalso; revert e3'; simp
        subst hk;obtain ⟨mo, hmo, hl⟩ := I2.loc;have hkv := qv hfree hm rfl;have vis : Vis X.env.scope x := hkv.elim (fun z => .inr (.inl z)) fun z => .inr (.inr z)
        obtain ⟨u, r, l⟩ := hl _ x v (k2 q) e2 vis;refine ⟨u, r, .inr ⟨?_, ?_⟩⟩
        . show (relabel scope X.env).names.lookup x = some .cell \/ (relabel scope X.env).names.lookup x = some .free
          rw [e0, q];simp only [YI, Option.some.injEq]
          split
          . exact .inl rfl
          . exact .inr rfl
        . rcases l with ⟨kl, _⟩ | ⟨_, c, ec, z⟩
          . exfalso
            rcases hkv with z | z <;> (rw [kl] at z; cases z)
          . obtain ⟨c', ec'⟩ := hcl2 _ hm rfl
            have := hcl1 _ _ ec';rw [ec] at this;cases this;obtain ⟨o, ho, hd⟩ := z;exact ⟨c, ec', o, old _ _ ho, hd⟩
  . obtain ⟨v, o, ho, hd⟩ := I2.cell x c (hcl1 x c e)
    exact ⟨v, o, old _ _ ho, hd⟩
  . exact I2.hok.fresh hC
  . have e : p = (D, lobj []) := by simpa using hp
    subst e;refine ⟨hacc, I2.hok.fresh hD, hDC, fun z => ?_, fun v z => by cases z⟩
    rcases ZK.mp (I2.stkSub D z) with z | z
    . exact absurd (Zh I2.lt (by rw [<- z]; exact hD)) (ZJ _)
    . exact I2.nofs hD z
  . show (List.replicate ts.length none ++ σ).length = (ts ++ N2).length
    rw [Zo, Zo, ZI, I2.len, hlN hout]
theorem bd (I2 : Inv X pins σ H2 s₂) (f2 : ∀ b ∈ fp, FpOk X pins H2 b) (hD : s₂.heap.objs.size <= D) {σ' : St} {H' : Hp} {s' : Shared} {its : List Value} {ys : List V} {pl : List (Addr × Obj)}
    (J : Inv (z7 X scope (ts ++ N2) ⟨cl, C, s₂, H2, fp⟩) pl σ' H' s') (hp : s'.heap.get? D = some (lobj its)) (hn : H' D = none) (hv : Vals ys its) (hz : ys.length <= sizeLine) : Inv X pins σ (upd H' D (.lst ys)) s' := by
  have neD : ∀ b o, s₂.heap.get? b = some o -> b ≠ D := fun b o e => Zs (Zh (Heap.lt_size e) hD)
  have neH : ∀ b o, H2 b = some o -> b ≠ D := fun b o e => Zs (Zh (I2.hok.lt e) hD)
  have u := J.base
  have un : Un (frs X.stack) fp H2 (upd H' D (.lst ys)) s₂.heap s'.heap :=
    ⟨u.keep, u.slot, fun b o e n hx => by rw [z8 (neD b o e)]; exact u.free b o e n hx, u.there, fun b xs e => by rw [z8 (neH b _ e)]; exact u.tups b xs e, fun b o v e => by rw [z8 (neH b _ e)]; exact u.frzs b o v e,
      fun b ps e => by rw [z8 (neH b _ e)]; exact u.tbls b ps e⟩
  have hok : HOk X.prog X.w (upd H' D (.lst ys)) s'.heap := fun b o e => by
    by_cases hb : b = D
    . subst hb
      rw [zc] at e;cases e;exact ⟨hz, its, its.length, hv, hp⟩
    . rw [z8 hb] at e
      exact (J.hok b o e).stay (fun c v _ q => q) (fun c q => by rw [z8 (xb q hn)]; exact q) fun c xs q => by rw [z8 (xb q hn)]; exact q
  exact I2.call' (ch := fp) J.os un hok J.bare fun b hb => by
    obtain ⟨f0, f1, f3, f4, f5, f6⟩ := f2 b hb;exact ⟨f4, f1, f5, f6⟩
theorem iq {E : Value -> Shared -> Prop} {tg elt iter : Expr} {ifs : List Expr} {pos : Pos} {it : Addr} {tn : Nat -> Heap -> Prop} {J : It} {g : Dyn -> TG} {tt : Dyn -> TT} {te : Dyn -> TE} {RR : Value -> Addr -> Result -> Shared -> Prop} {Fin : List V -> Hp -> Prop}
    (I2 : Inv X pins σ H2 s₂) (hc : X.calm = true) (T : Turn X.prog X.w X.K tg J fp it tn) (st : tn 0 s₂.heap) (f2 : ∀ b ∈ fp, FpOk X pins H2 b) (hkind : scope.kind = .function) (hown : pq scope.names = true) (hfree : qg scope.names X.env = true) (hout : wy scope.names N2 X.N = true)
    (hcl1 : ∀ x c, cl.lookup x = some c -> X.env.cells.lookup x = some c) (hcl2 : ∀ y ∈ scope.names, y.2 = .free -> ∃ c, cl.lookup y.1 = some c)
    (hg : ∀ d, PG (z7 X scope (ts ++ N2) d) tg (g d)) (ht : ∀ d, PTs (z7 X scope (ts ++ N2) d) ifs (tt d)) (he : ∀ d, PE (z7 X scope (ts ++ N2) d) elt (te d))
    (hW : ∀ d, oy J σ ts.length (g d) (tt d) (te d) H2 Fin)
    (hRR : ∀ D C s' H' ys, s₂.heap.objs.size <= C -> C ≠ D -> Inv X pins σ (upd H' D (.lst ys)) s' -> H' D = none -> H' C = none -> (∃ m, s'.heap.Ns C m) -> ys.length <= sizeLine -> Fin ys H' -> RR (.ref D) C (.ok .next) s') :
    wpAny (model X.prog X.w) X.A (newList []) (fun acc s₃ => wpAny (model X.prog X.w) X.A (newFunctionEnv scope X.env.globals cl [] X.env.qual none .none (some X.env)) (fun cenv s₄ =>
      codeAny (model X.prog X.w) X.A (.compStart (.ListComp elt [⟨tg, iter, ifs, 0⟩] scope pos) 0 (.ref it) acc { cenv with scope := relabel scope X.env }) (RR acc cenv.locals) s₄) E s₃) E s₂ := by
  refine wpAny_newObj_type (wpAny_newFunctionEnv (lg hown) (by intro y hy; simp at hy) (fun h₁ hns₁ hsb₁ => ?_) hkind);dsimp only at hns₁ hsb₁ ⊢;generalize hH2 : s₂.heap.push { cls := .type "list", dict := none, data := .seq ([] : List Value).toArray } = HP at hns₁ hsb₁ ⊢;have hC : HP.objs.size = s₂.heap.objs.size + 1 := by rw [<- hH2, Heap.size_push]
  have hDC : s₂.heap.objs.size ≠ HP.objs.size := by rw [hC]; exact Zs (Yt _)
  have hCle : s₂.heap.objs.size <= HP.objs.size := by rw [hC]; exact YO _
  have below : ∀ b, b < s₂.heap.objs.size -> b ≠ HP.objs.size /\ b ≠ s₂.heap.objs.size := fun b hb => ⟨by rw [hC]; exact Zs (Yz hb), Zs hb⟩
  have old : ∀ b o, s₂.heap.get? b = some o -> h₁.get? b = some o := fun b o e => hsb₁.extBut b o (below b (Heap.lt_size e)).1 (Heap.get?_push_of_some _ (hH2 ▸ Heap.get?_push_of_some _ e))
  have hacc : h₁.get? s₂.heap.objs.size = some (lobj []) := hsb₁.extBut _ _ hDC (Heap.get?_push_of_some _ (hH2 ▸ Heap.get?_push_size _ rfl))
  have flt : ∀ b ∈ fp, b < s₂.heap.objs.size := fun b hb => by
    obtain ⟨o, e, _⟩ := T.obj _ _ st b hb;exact Heap.lt_size e
  generalize hDD : s₂.heap.objs.size = D at *;generalize hCC : HP.objs.size = C at *;have hDle : s₂.heap.objs.size <= D := YG hDD;have I4 := fun (tk : Nat) => i4 (ts := ts) (D := D) (C := C) (tk := tk) I2 hc (fun b hb => ⟨f2 b hb, by rw [hDD]; exact flt b hb⟩) hkind hown hfree hout hcl1 hcl2 (by rw [hDD]; exact hCle) hDC hDle hns₁ old hacc
  generalize hd : (⟨cl, C, s₂, H2, fp⟩ : Dyn) = d at *;obtain ⟨W, ⟨m0, w0⟩, turn⟩ := hW d
  have Xs : ∀ {pl : List (Addr × Obj)} {H' : Hp}, (∀ b ∈ fp, H' b = none) -> (∀ p ∈ pl, p.1 = D) -> ∀ b ∈ fp, FpOk (z7 X scope (ts ++ N2) d) pl H' b := fun {pl H'} hn hp b hb => by
    subst hd;obtain ⟨f0, f1, f3, f4, f5, f6⟩ := f2 b hb;refine ⟨hn b hb, (below b (flt b hb)).1, fun z => ?_, .inl hb, fun x c e => f5 x c (hcl1 x c e), fun p hp' => ?_⟩
    . rcases ZK.mp (I2.stkSub b z) with z | z
      . exact f1 z
      . exact f3 z
    . rw [hp p (by simpa using hp')]
      exact Ne.symm (below b (flt b hb)).2
  have loop : ∀ s₃ : Shared, s₃ = { s₂ with heap := h₁, toks := s₂.toks + ([] : List (Str × Value)).length } ->
      codeAny (model X.prog X.w) X.A (.compLoop (.ListComp elt [⟨tg, iter, ifs, 0⟩] scope pos) 0 (.ref it) (.ref D) (compEnvC scope cl C X.env)) (RR (.ref D) C) s₃ := by
    rintro s₃ rfl
    refine zao (fun n s' => ∃ i ys H' its, Inv (z7 X scope (ts ++ N2) d) [(D, lobj its)] (List.replicate ts.length none ++ σ) H' s' /\ tn i s'.heap /\ (∀ b ∈ fp, H' b = none) /\ Vals ys its /\ W i n ys H') ?_ m0
      ⟨0, [], H2, [], I4 _, T.keep _ _ _ st fun b _ o e => old b o e, fun b hb => (f2 b hb).1, .nil, w0⟩
    rintro n s3 ⟨i, ys, H3, its, I3, st3, fr3, hv3, w3⟩
    obtain ⟨hlen, tr⟩ := turn i n ys H3 w3
    have one : ∀ p ∈ [(D, lobj its)], p.1 = D := fun p hp => by
      have e : p = (D, lobj its) := by simpa using hp
      rw [e]
    have eenv : (z7 X scope (ts ++ N2) d).env = compEnvC scope cl C X.env := by subst hd; rfl
    rcases tr with ⟨stop, fin⟩ | ⟨go, N, hN, step⟩
    . refine thn (T.done (z7 X scope (ts ++ N2) d) rfl rfl rfl rfl i _ s3 _ H3 (fun _ _ => False) I3 (Xs fr3 one) st3 stop) fun r s4 ⟨hr, J4⟩ => ?_
      subst hr
      show RR (.ref D) C (.ok .next) s4
      obtain ⟨pe, pn, _⟩ := J4.pin (D, lobj its) (by simp);have fC : H3 C = none := by have := J4.free; rw [eenv] at this; exact this
      have nC : ∃ m, s4.heap.Ns C m := by
        obtain ⟨m, z, _⟩ := J4.loc;rw [eenv] at z;exact ⟨m, z⟩
      subst hd;exact hRR D C s4 H3 ys hCle (Ne.symm hDC) (bd I2 f2 hDle J4 pe pn hv3 hlen) pn fC nC hlen fin
    . refine thn (T.item (z7 X scope (ts ++ N2) d) rfl rfl rfl rfl i _ s3 _ H3 (fun _ _ => False) I3 (Xs fr3 one) st3 go) fun r s4 ⟨u, hr, h4⟩ => ?_
      subst hr;refine thn h4 fun _ s5 ⟨x, H5, I5, r5, y5, st5, fr5⟩ => ?_
      have I5' := I5.pinned (Xs fr5 one) (T.obj _ _ st5);rw [<- eenv];refine thn (hg d _ s5 _ H5 x u _ I5' r5 (step x H5 y5)) fun _ s6 ⟨σ6, H6, I6, hdrop, q6⟩ => ?_
      have back : ∀ {ys' : List V} {its' : List Value} {H' : Hp} {s' : Shared} {pl : List (Addr × Obj)}, Inv (z7 X scope (ts ++ N2) d) ([(D, lobj its')] ++ pl) σ6 H' s' -> Inv (z7 X scope (ts ++ N2) d) [(D, lobj its')] (List.replicate ts.length none ++ σ) H' s' := fun {ys' its' H' s' pl} I' => by
        have hl : σ6.length = (ts ++ N2).length := I'.len;refine (I'.pins_of (pins' := [(D, lobj its')]) fun p hp => I'.pin p (Zu _ (ZX _ hp))).weak ?_ ?_
        . rw [hl]; exact I3.len
        . intro j v e
          by_cases hj : j < ts.length
          . rw [Zg (by simpa using hj), Yl] at e
            split at e <;> cases e
          . have hj' : ts.length <= j := ZD.mp hj
            rw [Zf (by simpa using hj'), ZI, <- hdrop, ZQ] at e;rw [show ts.length + (j - ts.length) = j by omega] at e;exact e
      refine thn (ht d _ s6 σ6 H6 _ I6 q6) fun b s7 ⟨H7, I7, q7⟩ => ?_
      have pinsOf : ∀ {its' : List Value} {H' : Hp} {s' : Shared}, Inv (z7 X scope (ts ++ N2) d) ([(D, lobj its')] ++ mi fp s5.heap) σ6 H' s' -> (∀ b ∈ fp, ∀ o, s5.heap.get? b = some o -> s'.heap.get? b = some o) /\ ∀ b ∈ fp, H' b = none := fun {its' H' s'} I' => by
        refine ⟨fun b hb o e => (I'.pin (b, o) (Zu _ (Zu _ (vn hb e)))).1, fun b hb => ?_⟩;obtain ⟨o, e, _⟩ := T.obj _ _ st5 b hb;exact (I'.pin (b, o) (Zu _ (Zu _ (vn hb e)))).2.1
      cases b with
      | false =>
        have q7' : N ys H7 := by simpa using q7
        obtain ⟨m', hm, w7⟩ := hN _ _ q7';obtain ⟨k1, k2⟩ := pinsOf I7
        show ∃ m, m < n /\ _
        exact ⟨m', hm, i + 1, ys, H7, its, back (ys' := ys) I7, T.keep _ _ _ st5 k1, k2, hv3, w7⟩
      | true =>
        have q7' : te d σ6 H7 fun v H4 => N (ys ++ [v]) H4 := by simpa using q7
        show wpAny _ _ _ _ _ _
        refine thn (he d _ s7 σ6 H7 _ I7 q7') fun y s8 ⟨v, H8, I8, r8, n8⟩ => ?_
        obtain ⟨m', hm, w8⟩ := hN _ _ n8;obtain ⟨k1, k2⟩ := pinsOf I8;obtain ⟨pe, pn, pC, pf, pd⟩ := I8.pin (D, lobj its) (by simp);have hsz : its.toArray.size <= sizeLine := by rw [Zr, <- hv3.length]; exact hlen
        refine append_at (hsz := hsz) pe fun h9 sb9 e9 => ?_
        have J8 : Inv (z7 X scope (ts ++ N2) d) [] σ6 H8 s8 := I8.pins_of fun p hp => nomatch hp
        have hDs : (z7 X scope (ts ++ N2) d).s₀.heap.objs.size <= D := by subst hd; exact hDle
        have J9 : Inv (z7 X scope (ts ++ N2) d) [] σ6 H8 { s8 with heap := h9 } := J8.turned (t' := s8.toks) (it := D) (fun b o hb e => sb9.extBut b o hb e) pn pC (.inr hDs)
          (fun x c e => by
            obtain ⟨v', z⟩ := I3.cell x c e;subst hd;obtain ⟨v2, z2⟩ := I2.cell x c (hcl1 x c e)
            exact Zs (Zh z2.lt hDle)) (fun p hp => nomatch hp)
        have e9' : h9.get? D = some (lobj (its ++ [y])) := by
          rw [e9]
          show some ({ cls := .type "list", data := .seq (its.toArray.push y) (its.length + 1) } : Obj) = some { cls := .type "list", data := .seq (its ++ [y]).toArray (its ++ [y]).length }
          rw [Zo, Yd, List.push_toArray]
        have J9' : Inv (z7 X scope (ts ++ N2) d) ([(D, lobj (its ++ [y]))] ++ []) σ6 H8 { s8 with heap := h9 } := J9.pins_of fun p hp => by
          have e : p = (D, lobj (its ++ [y])) := by simpa using hp
          subst e;exact ⟨e9', pn, pC, pf, fun v z => by cases z⟩
        refine ⟨m', hm, i + 1, ys ++ [v], H8, its ++ [y], back (ys' := ys) J9', ?_, k2, hv3.append (.cons r8 .nil), w8⟩;exact T.keep _ _ _ st5 fun b hb o e => sb9.extBut b o (below b (flt b hb)).2 (k1 b hb o e)
  exact codeAny_compStart_list (loop _ rfl) (T.self _ 0 _ _ _ (T.keep _ _ _ st fun b _ o e => old b o e) (loop _ rfl))
end
def cc (k : Nat) (wi : TI) (g : Dyn -> TG) (tt : Dyn -> TT) (te : Dyn -> TE) : TE := fun σ H Q => wi σ H fun J H1 => ∀ d : Dyn, oy J σ k (g d) (tt d) (te d) H1 fun ys H' => ∀ l, H' l = none -> Q (.ref l) (upd H' l (.lst ys))
theorem ym {X : Cx} {tg elt iter : Expr} {ifs : List Expr} {scope : Scope} {pos : Pos} (ts N2 : List Str) {wi : TI} {g : Dyn -> TG} {tt : Dyn -> TT} {te : Dyn -> TE} (hc : X.calm = true) (hi : PI X tg iter wi)
    (hg : ∀ d, PG (z7 X scope (ts ++ N2) d) tg (g d)) (ht : ∀ d, PTs (z7 X scope (ts ++ N2) d) ifs (tt d)) (he : ∀ d, PE (z7 X scope (ts ++ N2) d) elt (te d))
    (hkind : scope.kind = .function) (hown : pq scope.names = true) (hfree : qg scope.names X.env = true) (hout : wy scope.names N2 X.N = true)
    (hs : ∀ x, foldedSetIterable iter X.env x = pure x := by intro _; rfl) : PE X (.ListComp elt [⟨tg, iter, ifs, 0⟩] scope pos) (cc ts.length wi g tt te) := by
  intro pins s σ H Q I h;obtain ⟨cl, hclos, hcl1, hcl2⟩ := m5 (scope := scope) (env := X.env) fun y hy hf => I.ok.has y.1 (qv hfree hy hf)
  rw [eval_ListComp];refine wpAny_comprehension_free (use := none) rfl hs hclos hkind (me hown) (thn (hi pins s σ H _ I h) fun v s1 h1 => thn h1 fun itv s2 h2 => ?_);obtain ⟨it, fp, tn, J, H2, e, I2, T, st2, f2, hW⟩ := h2;subst e;refine iq (RR := fun acc C => compPost (model X.prog X.w) X.A X.xe none (EP X pins σ Q) acc C) I2 hc T st2 f2 hkind hown hfree hout hcl1 hcl2 hg ht he hW ?_;intro D C s' H' ys hC hCD I' hD hCn hNs hl fin;obtain ⟨m, hm⟩ := hNs;refine ⟨m, hm, fun h' sb => ?_⟩
  have I'' : Inv X pins σ (upd H' D (.lst ys)) { s' with heap := h' } := by
    refine I'.turned (t' := s'.toks) (it := C) (fun b o hb e => sb.extBut b o hb e) (by rw [z8 hCD]; exact hCn) (Yp (Zh I2.lt hC)) (.inr (Zd I2.sz hC)) (fun x c e => ?_) fun p hp => ?_
    . obtain ⟨v, q⟩ := I2.cell x c e
      exact Zs (Zh q.lt hC)
    . exact Zs (Zh (Heap.lt_size (I2.pin p hp).1) hC)
  exact ⟨.ref D, _, I'', rfl, fin D hD⟩
def zb6 (i : Nat) (te : TE) : TS := fun D σ H => te σ H fun x H1 => D.nx (σ.set i (some x)) H1
theorem fm {X : Cx} {tg elt iter : Expr} {ifs : List Expr} {scope : Scope} {pos spos py : Pos} {i : Nat} {y : Str} (ts N2 : List Str) {wi : TI} {g : Dyn -> TG} {tt : Dyn -> TT} {te : Dyn -> TE} (hN : X.N.Nodup) (hi' : X.N[i]? = some y) (hy : X.env.scope.names.lookup y = some .local) (hc : X.calm = true) (hi : PI X tg iter wi)
    (hg : ∀ d, PG (z7 X scope (ts ++ N2) d) tg (g d)) (ht : ∀ d, PTs (z7 X scope (ts ++ N2) d) ifs (tt d)) (he : ∀ d, PE (z7 X scope (ts ++ N2) d) elt (te d))
    (hkind : scope.kind = .function) (hown : pq scope.names = true) (hfree : qg scope.names X.env = true) (hout : wy scope.names N2 X.N = true)
    (hsw : swapsWith (.ListComp elt [⟨tg, iter, ifs, 0⟩] scope pos) (some (.Name y py)) spos.line X.env = pure true)
    (hs : ∀ x, foldedSetIterable iter X.env x = pure x := by intro _; rfl) : PS X (.Assign [.Name y py] (.ListComp elt [⟨tg, iter, ifs, 0⟩] scope pos) spos) (zb6 i (cc ts.length wi g tt te)) := by
  intro pins s σ H D0 I h;obtain ⟨cl, hclos, hcl1, hcl2⟩ := m5 (scope := scope) (env := X.env) fun z hz hf => I.ok.has z.1 (qv hfree hz hf)
  rw [exec_Assign_Name_used _ _ _ _ hsw];refine wpAny_bind (wpAny_standAt (wpAny_bind ?_))
  show wpAny _ X.A (do let _ <- comprehension (.ListComp elt [⟨tg, iter, ifs, 0⟩] scope pos) scope X.env _ (newList []) false (eval iter X.env) (some (assign (.Name y py) X.env))) _ _ s
  refine wpAny_bind (wpAny_mono (wpAny_comprehension_free (use := some (assign (.Name y py) X.env)) (Q := fun _ s' => SP X pins D0 .next s') rfl hs hclos hkind (me hown)
    (thn (hi pins s σ H _ I h) fun v s1 h1 => thn h1 fun itv s2 h2 => ?_)) (fun _ s' hq => wpAny_pure (wpAny_pure hq)) fun _ _ e => e)
  obtain ⟨it, fp, tn, J, H2, e, I2, T, st2, f2, hW⟩ := h2;subst e;refine iq (RR := fun acc C => compPost (model X.prog X.w) X.A X.xe (some (assign (.Name y py) X.env)) (fun _ s' => SP X pins D0 .next s') acc C) I2 hc T st2 f2 hkind hown hfree hout hcl1 hcl2 hg ht he hW ?_;intro D C s' H' ys hC hCD I' hD hCn hNs hl fin;obtain ⟨m, hm⟩ := hNs
  show wpAny _ _ _ _ _ _
  have hcl : C ≠ X.env.locals := Yp (Zh I2.lt hC)
  have hcc : ∀ x c, X.env.cells.lookup x = some c -> c ≠ C := fun x c e => by
    obtain ⟨v, q⟩ := I2.cell x c e;exact Zs (Zh q.lt hC)
  refine wpAny_assign_Name (ko I' hN hi' (.inl hy) (v := .ref D) (u := .ref D) rfl (fun s'' I'' ⟨a, sb, ha⟩ => ?_) (.inr hy))
  have haC : C ≠ a := by
    rcases ha with z | z
    . rw [z]; exact hcl
    . exact Ne.symm (hcc y a z)
  refine ⟨m, hm.sameBut sb haC, fun h' sb' => ?_⟩
  have I3 : Inv X pins (σ.set i (some (.ref D))) (upd H' D (.lst ys)) { s'' with heap := h' } := by
    refine I''.turned (t' := s''.toks) (it := C) (fun b o hb e => sb'.extBut b o hb e) (by rw [z8 hCD]; exact hCn) hcl (.inr (Zd I2.sz hC)) hcc fun p hp => ?_
    exact Zs (Zh (Heap.lt_size (I2.pin p hp).1) hC)
  exact ⟨_, _, I3, fin D hD⟩
section
variable {σ : St} {k : Nat} {g : TG} {tt : TT} {te : TE} {H1 : Hp} {Fin : List V -> Hp -> Prop}
theorem mx {lo : Int} {n : Nat} (Pv : Nat -> List V -> Hp -> Prop) (h0 : Pv 0 [] H1) (hz : ∀ i ys H, i <= n -> Pv i ys H -> ys.length <= sizeLine)
    (hs : ∀ i ys H, i < n -> Pv i ys H -> g (.int (lo + i)) (List.replicate k none ++ σ) H fun σ2 H2 => σ2.drop k = σ /\ tt σ2 H2 fun b H3 => if b = true then te σ2 H3 fun v H4 => Pv (i + 1) (ys ++ [v]) H4 else Pv (i + 1) ys H3)
    (hd : ∀ ys H, Pv n ys H -> Fin ys H) : oy (Itr lo n) σ k g tt te H1 Fin := by
  refine ⟨fun i m ys H => m = n - i /\ i <= n /\ Pv i ys H, ⟨n, by simp, ZE _, h0⟩, ?_⟩
  rintro i m ys H ⟨rfl, hi, p⟩
  refine ⟨hz i ys H hi p, ?_⟩
  by_cases hlt : i < n
  . refine .inr ⟨hlt, Pv (i + 1), fun ys' H' p' => ⟨n - (i + 1), by omega, rfl, hlt, p'⟩, fun x H' y => ?_⟩
    obtain ⟨e, y⟩ := y;subst e y;exact hs i ys _ hlt p
  . have e : i = n := by omega
    subst e;exact .inl ⟨Zm _, hd ys H p⟩
theorem yk {K : Fg} {a : Addr} {xs : List V} (Pv : Nat -> List V -> Hp -> Prop) (h0 : Pv 0 [] H1) (hz : ∀ i ys H, i <= xs.length -> Pv i ys H -> ys.length <= sizeLine /\ SqL K H a xs)
    (hs : ∀ i x ys H, xs[i]? = some x -> Pv i ys H -> g x (List.replicate k none ++ σ) H fun σ2 H2 => σ2.drop k = σ /\ tt σ2 H2 fun b H3 => if b = true then te σ2 H3 fun v H4 => Pv (i + 1) (ys ++ [v]) H4 else Pv (i + 1) ys H3)
    (hd : ∀ ys H, Pv xs.length ys H -> Fin ys H) : oy (Itl K a) σ k g tt te H1 Fin := by
  refine ⟨fun i m ys H => m = xs.length - i /\ i <= xs.length /\ Pv i ys H, ⟨xs.length, by simp, ZE _, h0⟩, ?_⟩
  rintro i m ys H ⟨rfl, hi, p⟩
  have q := (hz i ys H hi p).2;refine ⟨(hz i ys H hi p).1, ?_⟩
  by_cases hlt : i < xs.length
  . refine .inr ⟨⟨xs, xs[i], q, by simp [hlt]⟩, Pv (i + 1), fun ys' H' p' => ⟨xs.length - (i + 1), by omega, rfl, hlt, p'⟩, fun x H' y => ?_⟩
    obtain ⟨e, y⟩ := y;subst e;exact hs i x ys _ (y xs q) p
  . have e : i = xs.length := by omega
    subst e;exact .inl ⟨⟨xs, q, Zm _⟩, hd ys H p⟩
end
end L2
namespace L2
open PySem PySem.Spec PyProof.Rows
section
variable {X : Cx} {pins : List (Addr × Obj)} {σ : St} {H : Hp} {s : Shared} {A : Around} {a b : Addr}
end
def GridL (K : Fg) (H : Hp) (a : Addr) (as : List Addr) (rows : List (List Int)) : Prop := SqL K H a (as.map V.ref) /\ as.length = rows.length /\ ∀ (i : Nat) (r : Addr) (ns : List Int), as[i]? = some r -> rows[i]? = some ns -> SqL K H r (ns.map V.int)
section
variable {X : Cx} {pins : List (Addr × Obj)} {σ : St} {H : Hp} {s : Shared} {A : Around} {a b : Addr}
end
def kit0 (T1 T2 : String) : Option Bool := if (Value.type T1 == Value.type T2) = true then some true else if PySem.W.kitMeta T2 = true then (fastBuiltinMro T1).map (·.contains (Value.type T2)) else none
theorem ze1 (K : Fg) (T1 T2 : String) : PySem.W.kitOne K (.type T1) (.type T2) = kit0 T1 T2 := rfl
section
variable {X : Cx}
theorem y4 : CallR X (.builtin "isinstance") (fun xs H Q => ∃ x T T1 b, xs = [x, .ty T] /\ TyOf X.K H x (.type T1) /\ kit0 T1 T = some b /\ Q (.bl b) H) := by
  intro pins s σ H xs us Q I r h;obtain ⟨x, T, T1, b, rfl, ty, e, q⟩ := h;obtain ⟨u, v, rfl, rx, ry⟩ := Vals.two r;cases ry;exact zee I rx ty ((ze1 X.K T1 T).trans e) fun tk => ⟨.bl b, H, I.tok _, rfl, q⟩
theorem se {x : Str} {T : String} {pos : Pos} (hg : Gl X x) (hm : X.mg x = none) (hv : bootBuiltins x = some (.type T)) (hn : x ≠ "__name__" := by decide) (hd : (x == ("__debug__" : Str)) = false := by decide) : PE X (.Name x pos) (tC (.ty T)) :=
  zg5 hg hm hv rfl hn hd
end
theorem yz : bootBuiltins "len" = some (.builtin "len") := by decide +kernel
theorem yu : bootBuiltins "isinstance" = some (.builtin "isinstance") := by decide +kernel
theorem bt_max : bootBuiltins "max" = some (.builtin "max") := by decide +kernel
theorem mm : bootBuiltins "all" = some (.builtin "all") := by decide +kernel
theorem bt_abs : bootBuiltins "abs" = some (.builtin "abs") := by decide +kernel
theorem i5 : bootBuiltins "int" = some (.type "int") := by decide +kernel
theorem zhi : bootBuiltins "bool" = some (.type "bool") := by decide +kernel
theorem ji : bootBuiltins "list" = some (.type "list") := by decide +kernel
theorem xv : bootBuiltins "tuple" = some (.type "tuple") := by decide +kernel
theorem on : bootBuiltins "str" = some (.type "str") := by decide +kernel
theorem zhg : bootBuiltins "dict" = some (.type "dict") := by decide +kernel
theorem bt_set : bootBuiltins "set" = some (.type "set") := by decide +kernel
structure zg (K : Fg) (mg : Str -> Option Value) (name : Str) (st : Stmt) (ps : List Str) : Prop where
  ex : ∃ f fd, mg name = some (.ref f) /\ Fun K name name st f fd /\ Binds K fd ps []
structure FnAt (P : Program) (w : World) (K : Fg) (mg : Str -> Option Value) (base : Heap) (name : Str) (k : Nat) (ps : List Str) (sp : Sp) : Prop where
  ex : ∃ f fd, mg name = some (.ref f) /\ PySem.W.keepIn K (.ref f) = true /\ Binds K fd ps [] /\ FnOk P w K mg base CX0 k f fd ps sp
theorem FnAt.of {P : Program} {w : World} {K : Fg} {mg : Str -> Option Value} {base : Heap} {name : Str} {st : Stmt} {N ps : List Str} {k : Nat} {sp : Sp} (D : zg K mg name st ps) (S : zr N ps (zh st)) (len : ∀ vs H Q E, sp vs H Q E -> vs.length = ps.length)
    (hbody : ∀ (f : Addr) (cdv : Value) (A : Around) (outer : List Env) (s : Shared) (H : Hp) (vs : List V) (Q : VK) (E : XK), Room k (A.deeper (envOfC name (zh st) s.heap.objs.size f cdv)) -> sp vs H Q E ->
      ∃ t, PSs (cxOf CX0 P w K mg base N name (zh st) f cdv A outer s H E).nox (ya st) t /\ t { nx := fun _ H' => Q .non H', rt := Q } (start N vs) H) : FnAt P w K mg base name (k + 1) ps sp := by
  obtain ⟨f, fd, hm, F, hb⟩ := D.ex;exact ⟨f, fd, hm, F.kp, hb, F.ok S len (hbody f)⟩
theorem def_mk {K : Fg} {h : Heap} {mg : Str -> Option Value} (X : K.In h) (G : h.Ns mainGlobals mg) {name : Str} {st : Stmt} {f : Addr} {oc : Value} {od an : Option Addr} {osl : Array (Option Value)} {kV doc pm cdv ct : Value} {ps : List Str}
    (a : PySem.W.nsIn K mainGlobals name = some (some (.ref f))) (l : K.lookup f = some ⟨oc, od, .func (PySem.W.fnOf name name (wb st) (ya st) (zh st) .none kV doc pm an cdv ct), osl⟩)
    (c : PySem.W.codeIn K cdv name = true) (k : PySem.W.keepIn K (.ref f) = true)
    (hb : ∀ (kV doc pm : Value) (an : Option Addr) (cdv ct : Value) (us : List Value), us.length = ps.length -> bindArgs (PySem.W.fnOf name name (wb st) (ya st) (zh st) .none kV doc pm an cdv ct) ⟨us, []⟩ = pure (ps.zip us)) : zg K mg name st ps :=
  ⟨f, _, PySem.W.mg_of X G a, mr l c k, (mr (st := st) l c k).binds hb⟩
section
variable {X : Cx} {x : Str} {k : Nat} {ps : List Str} {sp : Sp} {p pos : Pos} {e : Expr} {es : List Expr} {t : TA}
theorem zk (F : FnAt X.prog X.w X.K X.mg X.base x k ps sp) (hr : Room k X.A) (hg : Gl X x) (ha : PA X (e :: es) t) (hdb : (x == ("__debug__" : Str)) = false := by decide) (he : starEach (e :: es) X.env = (false, eval e X.env) :: starEach es X.env := by rfl)
    (hpl : (backTo pos (starEach es X.env)).any (·.1) = false := by rfl) : PE X (.Call (.Name x p) (e :: es) [] pos) (zcq sp [] E0 t) := by
  obtain ⟨f, fd, hm, hk, hb, G⟩ := F.ex;exact zhh G hr hg hm hk hb .nil pass0 ha hdb he hpl
end
theorem cxK {CX : CXT} {P : Program} {w : World} {K : Fg} {mg : Str -> Option Value} {base : Heap} {N : List Str} {qual : Str} {scope : Scope} {f : Addr} {cd : Value} {A : Around} {outer : List Env} {s : Shared} {H : Hp} {E : XK} : (cxOf CX P w K mg base N qual scope f cd A outer s H E).K = K := rfl
section
variable {D : Ends} {σ : St} {H : Hp} {Q : VK} {QT : Bool -> Hp -> Prop} {QA : List V -> Hp -> Prop} {QS : St -> Hp -> Prop} {R : It -> Hp -> Prop} {a b c : TE} {s t : TS} {tt uu : TT} {ta tr : TA} {g : TG} {i : Nat} {v x y z : V} {r r' : R2} {wi : TI}
theorem e_var : tVar i σ H Q = ∃ v, σ[i]? = some (some v) /\ Q v H := rfl
theorem e_C : tC v σ H Q = Q v H := rfl
theorem e_op : tOp r a b σ H Q = a σ H fun x H1 => b σ H1 fun y H2 => r x y H2 Q := rfl
theorem e_un {u : V -> Hp -> VK -> Prop} : tUn u a σ H Q = a σ H fun x H1 => u x H1 Q := rfl
theorem e_rI {C : Int -> Int -> Prop} {f : Int -> Int -> V} : rI C f x y H Q = ∃ i j, x = .int i /\ y = .int j /\ C i j /\ Q (f i j) H := rfl
theorem e_rI0 {f : Int -> Int -> V} : rI0 f x y H Q = ∃ i j, x = .int i /\ y = .int j /\ Q (f i j) H := rfl
theorem e_rU {f : Int -> V} : rU f x H Q = ∃ i, x = .int i /\ Q (f i) H := rfl
theorem e_rEq : rEq x y H Q = (scal x y = true /\ Q (.bl (decide (x = y))) H) := rfl
theorem e_rNe : rNe x y H Q = (scal x y = true /\ Q (.bl (!decide (x = y))) H) := rfl
theorem e_ixL {K : Fg} : rIxL K x y H Q = ∃ p xs i v, x = .ref p /\ y = .int i /\ SqL K H p xs /\ atI xs i = some v /\ Q v H := rfl
theorem e_ixT {K : Fg} : rIxT K x y H Q = ∃ p xs i v, x = .ref p /\ y = .int i /\ SqT K H p xs /\ atI xs i = some v /\ Q v H := rfl
theorem e_set {o i v : V} {Q : Hp -> Prop} : rSetL o i v H Q = ∃ p xs k j, o = .ref p /\ i = .int k /\ H p = some (.lst xs) /\ ixN xs.length k = some j /\ Q (upd H p (.lst (xs.set j v))) := rfl
theorem e_cat : rCat x y H Q = ∃ l b xs zs, x = .ref l /\ y = .ref b /\ H l = some (.lst xs) /\ H b = some (.lst zs) /\ xs.length + zs.length <= sizeLine /\ ∀ p, H p = none -> Q (.ref p) (upd H p (.lst (xs ++ zs))) := rfl
theorem e_test : zcc a σ H QT = a σ H fun x H' => ∃ k, x = .bl k /\ QT k H' := rfl
theorem e_B : tB a σ H QT = a σ H fun x H1 => ∃ c, x = .bl c /\ QT c H1 := rfl
theorem e_and : tAnd tt uu σ H QT = tt σ H fun c H1 => if c = true then uu σ H1 QT else QT false H1 := rfl
theorem e_or : tOr tt uu σ H QT = tt σ H fun c H1 => if c = true then QT true H1 else uu σ H1 QT := rfl
theorem e_not : tNot tt σ H QT = tt σ H fun c H1 => QT (!c) H1 := rfl
theorem e_andV : tAndV a b σ H Q = a σ H fun x H1 => ∃ c, x = .bl c /\ if c = true then b σ H1 Q else Q (.bl false) H1 := rfl
theorem e_orV : tOrV a b σ H Q = a σ H fun x H1 => ∃ c, x = .bl c /\ if c = true then Q (.bl true) H1 else b σ H1 Q := rfl
theorem e_notV : tNotV a σ H Q = a σ H fun x H1 => ∃ c, x = .bl c /\ Q (.bl (!c)) H1 := rfl
theorem e_ifE : tIf tt a b σ H Q = tt σ H fun c H1 => if c = true then a σ H1 Q else b σ H1 Q := rfl
theorem e_all : tAll σ H QT = QT true H := rfl
theorem e_next : tNext D σ H = D.nx σ H := rfl
theorem e_seq : tSeq s t D σ H = s { D with nx := t D } σ H := rfl
theorem e_brk : tBreak D σ H = D.bk σ H := rfl
theorem e_cnt : tCont D σ H = D.ct σ H := rfl
theorem e_drop : tDrop a D σ H = a σ H fun _ H1 => D.nx σ H1 := rfl
theorem e_ret : tRet a D σ H = a σ H D.rt := rfl
theorem e_retN : tRetN D σ H = D.rt .non H := rfl
theorem e_ifS : tIfS tt s t D σ H = tt σ H fun b H1 => if b = true then s D σ H1 else t D σ H1 := rfl
theorem e_asg : tAsg a g D σ H = a σ H fun x H1 => g x σ H1 D.nx := rfl
theorem zhs : zb0 i v σ H QS = QS (σ.set i (some v)) H := rfl
theorem e_setC : zb6 i a D σ H = a σ H fun x H1 => D.nx (σ.set i (some x)) H1 := rfl
theorem e_augS {tget : V -> V -> Hp -> VK -> Prop} {tip : TIp} {tset : TSet} : tAugS a b c tget tip tset D σ H = a σ H fun o H1 => b σ H1 fun i H2 => tget o i H2 fun x H3 => c σ H3 fun y H4 => tip x y H4 fun z H5 => tset o i z H5 fun H6 => D.nx σ H6 := rfl
theorem e_ipI {f : Int -> Int -> Int} : ipI f x y H Q = ∃ i j, x = .int i /\ y = .int j /\ Q (.int (f i j)) H := rfl
theorem e_nil : tNil σ H QA = QA [] H := rfl
theorem e_cons : tCons a ta σ H QA = a σ H fun x H1 => ta σ H1 fun xs H2 => QA (x :: xs) H2 := rfl
theorem e_tup : tTup ta σ H Q = ta σ H fun xs H1 => xs.length <= sizeLine /\ ∀ p, H1 p = none -> Q (.ref p) (upd H1 p (.tup xs)) := rfl
theorem e_lst : tLst ta σ H Q = ta σ H fun xs H1 => xs.length <= sizeLine /\ ∀ p, H1 p = none -> Q (.ref p) (upd H1 p (.lst xs)) := rfl
theorem e_call {sp : Sp} {E : XK} : zcq sp [] E ta σ H Q = ta σ H fun vs H1 => sp (vs ++ []) H1 Q E := rfl
theorem e_CB {u : List V -> Hp -> VK -> Prop} : tCB u ta σ H Q = ta σ H fun vs H1 => u vs H1 Q := rfl
theorem e_BM {K : Fg} {T : String} {u : V -> List V -> Hp -> VK -> Prop} : tBM K T u a ta σ H Q = a σ H fun x H1 => tyV K T x H1 /\ ta σ H1 fun xs H2 => u x xs H2 Q := rfl
theorem e_app {vs : List V} : zbr x vs H Q = ∃ l xs y, x = .ref l /\ vs = [y] /\ H l = some (.lst xs) /\ xs.length < sizeLine /\ Q .non (upd H l (.lst (xs ++ [y]))) := rfl
theorem e_rng1 : iRng1 ta σ H R = ta σ H fun vs H1 => ∃ j : Int, vs = [.int j] /\ -(2 ^ 62) <= j /\ j < 2 ^ 62 /\ R (Itr 0 j.toNat) H1 := rfl
theorem e_rng2 : iRng2 ta σ H R = ta σ H fun vs H1 => ∃ i j : Int, vs = [.int i, .int j] /\ (-(2 ^ 62) <= i /\ i < 2 ^ 62 /\ -(2 ^ 62) <= j /\ j < 2 ^ 62) /\ R (Itr i (j - i).toNat) H1 := rfl
theorem e_iL {K : Fg} : iList K a σ H R = a σ H fun x H1 => ∃ p, x = .ref p /\ (∃ xs, SqL K H1 p xs) /\ R (Itl K p) H1 := rfl
def ForW (J : It) (g : TG) (tb : TS) (D : Ends) (σ : St) (H1 : Hp) : Prop := ∃ W : Nat -> Nat -> St -> Hp -> Prop, (∃ m, W 0 m σ H1) /\ ∀ i m σ H, W i m σ H ->
  (J.stop i H /\ D.nx σ H) \/ (J.go i H /\ ∃ N : St -> Hp -> Prop, (∀ σ' H', N σ' H' -> ∃ m', m' < m /\ W (i + 1) m' σ' H') /\ ∀ x H', J.yld i H x H' -> g x σ H' fun σ2 H2 => tb { D with nx := N, ct := N, bk := D.nx } σ2 H2)
theorem e_for : tFor wi g t D σ H = wi σ H fun J H1 => ForW J g t D σ H1 := rfl
theorem e_comp {k : Nat} {g : Dyn -> TG} {tt : Dyn -> TT} {te : Dyn -> TE} : cc k wi g tt te σ H Q = wi σ H fun J H1 => ∀ d : Dyn, oy J σ k (g d) (tt d) (te d) H1 fun ys H' => ∀ l, H' l = none -> Q (.ref l) (upd H' l (.lst ys)) := rfl
end
end L2
namespace L2
open PySem PySem.Spec PyProof.Rows
section
variable {X : Cx}
theorem uj (hc : X.calm = true) : CallR X (.builtin "all") (fun xs H Q => ∃ (p : Addr) (bs : List Bool), xs = [.ref p] /\ SqL X.K H p (bs.map V.bl) /\ Q (.bl (bs.all id)) H) := by
  intro pins s σ H xs us Q I r h;obtain ⟨p, bs, rfl, hq, q⟩ := h;obtain ⟨u, rfl, rx⟩ := Vals.one r;cases rx;obtain ⟨its, rv, pl, hz⟩ := I.list hq;have hlt : p < s.heap.objs.size := by obtain ⟨_, e, _⟩ := pl.isList; exact Heap.lt_size e
  have hlen : its.length = bs.length := by have := rv.length; rw [Za] at this; exact this.symm
  refine call_all_walk (wpAny_pyIter_list pl.isList ?_)
  refine ⟨s.heap.objs.size, [s.heap.objs.size, p], [s.heap.objs.size], its.toArray.size, _, _, fun i => (bs[i]?).getD true, rfl, Walks.list (A := X.A.in1) (I.ok.hd hc) _ p (Zs hlt) its.toArray,
    ⟨⟨_, Heap.get?_push_size _ rfl, rfl, rfl⟩, pl.isList.push _⟩, fun i v s' Q' E' hP hQ => ?_, fun h' tk hk => ?_⟩
  . have hi : its[i]? = some v := by simpa using hP
    have hil : i < bs.length := by rw [<- hlen]; exact (Zc.mp hi).1
    have e : bs[i]? = some bs[i] := by simp [hil]
    obtain ⟨u, hu, ru⟩ := rv.get (i := i) (x := V.bl bs[i]) (by rw [Ze, e]; rfl);rw [hi] at hu;cases hu;cases ru;simp only [e, YW] at hQ;exact wpAny_truthy_bool hQ
  . have e : ((List.range its.toArray.size).all fun i => (bs[i]?).getD true) = bs.all id := by
      rw [Zr, hlen];rw [Bool.eq_iff_iff, ZR, ZR]
      constructor
      . intro z b hb
        obtain ⟨i, hi, rfl⟩ := Zy hb;have := z i (Yb.mpr hi)
        simpa [Zb hi] using this
      . intro z i hi
        have hi' := Yb.mp hi;simp only [Zb hi', YW];exact z _ (Zl hi')
    rw [e];exact ⟨.bl (bs.all id), H, I.kept fun b x e => hk b x (fun hm => by rw [ZC.mp hm] at e; exact ZJ _ (Heap.lt_size e)) (Heap.get?_push_of_some _ e), rfl, q⟩
end
def Itz (K : Fg) (a b : Addr) : It :=
  ⟨fun i H => ∃ xs ys x y, SqL K H a xs /\ SqL K H b ys /\ xs[i]? = some x /\ ys[i]? = some y,
   fun i H v H' => ∃ T x y, v = .ref T /\ H T = none /\ H' = upd H T (.tup [x, y]) /\ ∀ xs ys, SqL K H a xs -> SqL K H b ys -> xs[i]? = some x /\ ys[i]? = some y,
   fun i H => ∃ xs ys, SqL K H a xs /\ SqL K H b ys /\ (xs.length <= i \/ ys.length <= i)⟩
def iZip (K : Fg) (ta : TA) : TI := fun σ H R => ta σ H fun vs H1 => ∃ a b, vs = [.ref a, .ref b] /\ (∃ xs, SqL K H1 a xs) /\ (∃ ys, SqL K H1 b ys) /\ R (Itz K a b) H1
theorem e_zip {K : Fg} {ta : TA} {σ : St} {H : Hp} {R : It -> Hp -> Prop} : iZip K ta σ H R = ta σ H fun vs H1 => ∃ a b, vs = [.ref a, .ref b] /\ (∃ xs, SqL K H1 a xs) /\ (∃ ys, SqL K H1 b ys) /\ R (Itz K a b) H1 := rfl
theorem e_gTup {K : Fg} {n : Nat} {t : TGs} {v : V} {σ : St} {H : Hp} {Q : St -> Hp -> Prop} : gTup K n t v σ H Q = ∃ a xs, v = .ref a /\ SqT K H a xs /\ xs.length = n /\ t xs σ H Q := rfl
theorem e_gNil {vs : List V} {σ : St} {H : Hp} {Q : St -> Hp -> Prop} : gNil vs σ H Q = (vs = [] /\ Q σ H) := rfl
theorem zg6 {t : TG} {u : TGs} {vs : List V} {σ : St} {H : Hp} {Q : St -> Hp -> Prop} : gCons t u vs σ H Q = ∃ v r, vs = v :: r /\ t v σ H fun σ' H' => u r σ' H' Q := rfl
end L2
namespace L2
open PySem PySem.Spec PyProof.Rows
section
variable {X : Cx}
end
section
variable {X : Cx}
end
theorem e_gSub {to ti : TE} {t : TSet} {v : V} {σ : St} {H : Hp} {Q : St -> Hp -> Prop} : gSub to ti t v σ H Q = to σ H fun o H1 => ti σ H1 fun i H2 => t o i v H2 fun H3 => Q σ H3 := rfl
theorem e_rep {x y : V} {H : Hp} {Q : VK} : rRep x y H Q = ∃ l k xs, x = .ref l /\ y = .int k /\ H l = some (.lst xs) /\ -(2 ^ 63) <= k /\ k < 2 ^ 63 /\ xs.length * k.toNat <= sizeLine /\ ∀ p, H p = none -> Q (.ref p) (upd H p (.lst (List.replicate k.toNat xs).flatten)) := rfl
end L2
namespace L2
open PySem PySem.Spec PyProof.Rows
section
variable {σ : St} {k : Nat} {g : TG} {tt : TT} {te : TE} {H1 : Hp} {Fin : List V -> Hp -> Prop}
end
theorem e_slL {K : Fg} {x : V} {lo hi : Option Int} {H : Hp} {Q : VK} : rSlL K x lo hi H Q = ∃ a xs, x = .ref a /\ SqL K H a xs /\ ∀ p, H p = none -> Q (.ref p) (upd H p (.lst (cutV xs lo hi))) := rfl
theorem e_tSl {r : V -> Option Int -> Option Int -> Hp -> VK -> Prop} {te : TE} {tl th : TO} {σ : St} {H : Hp} {Q : VK} : tSl r te tl th σ H Q = te σ H fun x H1 => tl σ H1 fun l H2 => th σ H2 fun u H3 => r x l u H3 Q := rfl
theorem zfd {σ : St} {H : Hp} {Q : Option Int -> Hp -> Prop} : zbi σ H Q = Q none H := rfl
theorem e_part {t : TE} {σ : St} {H : Hp} {Q : Option Int -> Hp -> Prop} : tPart t σ H Q = t σ H fun x H1 => ∃ i, x = .int i /\ Q (some i) H1 := rfl
end L2
namespace L2
open PySem PySem.Spec PyProof.Rows
section
variable {σ : St} {H : Hp} {Q : VK} {a b c : TE} {x : V} {vs : List V} {r r' : R2}
theorem e_BM0 {K : Fg} {T : String} {u : V -> List V -> Hp -> VK -> Prop} : tBM0 K T u a σ H Q = a σ H fun x H1 => tyV K T x H1 /\ u x [] H1 Q := rfl
theorem zgf : b9 r r' a b c σ H Q = a σ H fun x H1 => b σ H1 fun y H2 => r x y H2 fun z H3 => ∃ k, z = .bl k /\ (if k = true then c σ H3 fun w' H4 => r' y w' H4 Q else Q (.bl false) H3) := rfl
theorem zhf : tDNewK σ H Q = ∀ p, H p = none -> Q (.ref p) (upd H p (.dK [])) := rfl
theorem e_in {K : Fg} {neg : Bool} {y : V} : rIn K neg x y H Q = ∃ p xs, y = .ref p /\ (SqL K H p xs \/ SqT K H p xs) /\ xf x = true /\ xs.all xf = true /\ Q (.bl (if neg then !inV x xs else inV x xs)) H := rfl
end
theorem ve {X : Cx} {x : Str} {i : Int} {pos : Pos} (hg : Gl X x) (hm : ∃ t, X.mg x = some (Value.int i t)) (hd : (x == ("__debug__" : Str)) = false := by decide) : PE X (.Name x pos) (tC (.int i)) := by
  obtain ⟨t, hm⟩ := hm;exact g0 hg hm ⟨t, rfl⟩ hd
def Ite (K : Fg) (a : Addr) : It :=
  ⟨fun i H => ∃ xs x, SqL K H a xs /\ xs[i]? = some x,
   fun i H v H' => ∃ T x, v = .ref T /\ H T = none /\ H' = upd H T (.tup [.int i, x]) /\ ∀ xs, SqL K H a xs -> xs[i]? = some x,
   fun i H => ∃ xs, SqL K H a xs /\ xs.length <= i⟩
def iEnum (K : Fg) (ta : TA) : TI := fun σ H R => ta σ H fun vs H1 => ∃ a, vs = [.ref a] /\ (∃ xs, SqL K H1 a xs) /\ R (Ite K a) H1
theorem e_enum {K : Fg} {ta : TA} {σ : St} {H : Hp} {R : It -> Hp -> Prop} : iEnum K ta σ H R = ta σ H fun vs H1 => ∃ a, vs = [.ref a] /\ (∃ xs, SqL K H1 a xs) /\ R (Ite K a) H1 := rfl
section
variable {X : Cx}
end
section
variable {X : Cx}
end
end L2
namespace L2
open PySem PySem.Spec PyProof.Rows
section
variable {X : Cx} {pins : List (Addr × Obj)} {σ : St} {H : Hp} {k : Nat} {f : Addr} {fd : FuncData} {ps : List Str} {sp : Sp}
def tMinK (K : Fg) (sp : Sp) (ta : TA) : TE := fun σ H Q => ta σ H fun vs H1 => ∃ (l : Addr) (xs : List V) (kf : Nat -> Int), vs = [.ref l] /\ SqL K H1 l xs /\ 0 < xs.length /\
  (∀ i x, xs[i]? = some x -> sp [x] H1 (fun v H' => v = .int (kf i) /\ H' = H1) E0) /\ ∀ i x, xs[i]? = some x -> (∀ j, j < xs.length -> kf i <= kf j /\ (j < i -> kf i < kf j)) -> Q x H1
theorem e_minK {K : Fg} {ta : TA} {Q : VK} : tMinK K sp ta σ H Q = ta σ H fun vs H1 => ∃ (l : Addr) (xs : List V) (kf : Nat -> Int), vs = [.ref l] /\ SqL K H1 l xs /\ 0 < xs.length /\
  (∀ i x, xs[i]? = some x -> sp [x] H1 (fun v H' => v = .int (kf i) /\ H' = H1) E0) /\ ∀ i x, xs[i]? = some x -> (∀ j, j < xs.length -> kf i <= kf j /\ (j < i -> kf i < kf j)) -> Q x H1 := rfl
end
end L2
namespace L2
open PySem PySem.Spec PyProof.Rows
def CX1 (P : Program) (w : World) : CXT := fun outer H s E e s' => ∃ (ea C : Addr) (a0 : Value) (B : Heap) (H' : Hp), e = .ref ea /\ s'.os = s.os /\ AllBare s'.gens /\ Un (frs outer) [] H H' s.heap s'.heap /\ HOk P w H' s'.heap /\
  Heap.FlyingW B outer ea (.ref C) a0 s'.heap /\ H' ea = none /\ (∀ b o, H' b = some o -> ∃ ob, B.get? b = some ob) /\ (∀ b o, s.heap.get? b = some o -> b ∉ frs outer -> ∃ ob, B.get? b = some ob /\ (H b = none -> ob = o)) /\ E (.ref C) none H'
theorem pass1 {P : Program} {w : World} {X : Cx} : qj (CX1 P w) X E0 := fun _ _ _ _ _ _ _ h => by
  obtain ⟨_, _, _, _, _, _, _, _, _, _, _, _, _, _, z⟩ := h;exact z.elim
theorem UpToSlots.get {h h' : Heap} (u : h.UpToSlots h') {b : Addr} {o : Obj} (e : h.get? b = some o) (n : ∀ vs, o.data ≠ .fields vs) : ∃ sl, h'.get? b = some { o with slots := sl } := u b o e n
theorem HOk.flown {P : Program} {w : World} {H : Hp} {h h' B : Heap} (x : HOk P w H h) (bh : B.StaysIn h) (bh' : B.StaysIn h') (dom : ∀ b o, H b = some o -> ∃ ob, B.get? b = some ob) : HOk P w H h' := fun a o e =>
  (x a o e).stay (fun b u hb q => by
    have hB : ∃ ob, B.get? b = some ob := by
      rcases hb with rfl | hb
      . exact dom _ _ e
      . exact dom _ _ hb
    obtain ⟨ob, hob⟩ := hB;have := bh b ob hob;rw [q] at this;cases this
    exact bh' b u hob) (fun _ q => q) fun _ _ q => q
theorem j7 {P : Program} {w : World} {H : Hp} {h : Heap} {a : Addr} {o : HO} (x : ObjOk P w H h a o) : ∃ ob, h.get? a = some ob := by
  cases o with
  | lst xs => obtain ⟨_, _, _, _, e⟩ := x; exact ⟨_, e⟩
  | tup xs => obtain ⟨_, _, _, o, e, _⟩ := x; exact ⟨_, e⟩
  | dK kvs => obtain ⟨_, _, _, _, o, _, _, e, _⟩ := x; exact ⟨_, e⟩
  | dT kvs => obtain ⟨_, _, _, _, o, _, _, e, _⟩ := x; exact ⟨_, e⟩
  | set S n => obtain ⟨o, _, _, _, e, _⟩ := x; exact ⟨_, e⟩
  | ins C dx fs => obtain ⟨_, _, _, e, _⟩ := x; exact ⟨_, e⟩
  | own y => exact x
  | xd fs => obtain ⟨_, ⟨_, _, _, e, _⟩, _⟩ := x; exact ⟨_, e⟩
  | rng lo hi => obtain ⟨_, _, _, e⟩ := x; exact ⟨_, e⟩
  | frz ob u => obtain ⟨e, _⟩ := x; exact ⟨_, e⟩
  | tbl ps => exact ⟨_, (show h.get? a = some _ from x)⟩
  | met f y => exact ⟨_, (show h.get? a = some _ from x)⟩
  | ext φ => obtain ⟨_, e, _⟩ := x; exact e
section
variable {X : Cx} {pins : List (Addr × Obj)} {σ : St} {H : Hp} {s : Shared}
theorem ag {fs : List Addr} {H0 H1 : Hp} {h0 h1 h2 B : Heap} (u : Un fs [] H0 H1 h0 h1) (dom2 : ∀ b o, h0.get? b = some o -> b ∉ fs -> ∃ ob, B.get? b = some ob /\ (H0 b = none -> ob = o))
    (bh' : B.StaysIn h2) (sl : h1.UpToSlots h2) (hfr : ∀ b ∈ fs, ∀ o, h1.get? b = some o -> ∀ vs, o.data ≠ .fields vs) : Un fs [] H0 H1 h0 h2 where
  keep := fun b o e n hb _ => by
    obtain ⟨ob, e1, e2⟩ := dom2 b o e hb;rw [e2 n] at e1;exact bh' b o e1
  slot := fun b o e n hb hx => by
    obtain ⟨s1, e1⟩ := u.slot b o e n hb hx;obtain ⟨s2, e2⟩ := sl b _ e1 (hfr b hb _ e1);exact ⟨s2, e2⟩
  free := u.free
  there := fun b o e hx => by
    by_cases hb : b ∈ fs
    . obtain ⟨o1, e1⟩ := u.there b o e hx
      obtain ⟨s2, e2⟩ := sl b _ e1 (hfr b hb _ e1);exact ⟨_, e2⟩
    . obtain ⟨ob, e1, _⟩ := dom2 b o e hb
      exact ⟨ob, bh' b ob e1⟩
  tups := u.tups
  frzs := u.frzs
  tbls := u.tbls
theorem c8 {P : Program} {w : World} {K : Fg} {mg : Str -> Option Value} {base : Heap} {N : List Str} {qual : Str} {scope : Scope} {f : Addr} {cd : Value} {A : Around} {outer : List Env} {s0 : Shared} {H0 : Hp} {E : XK} {h' : Heap} {e C : Addr} {args : List Value}
    (hX : X = cxOf (CX1 P w) P w K mg base N qual scope f cd A outer s0 H0 E) (I : Inv X pins σ H s) (hx : Heap.MadeExcOf s.heap h' e (.ref C) args) (hE : E (.ref C) none H) (tk : Nat) : X.xe (.ref e) { s with heap := h', toks := tk } := by
  subst hX
  show wpAny _ _ (leaving _ (.ref e)) _ _ _
  have hst : s.heap.FunFrames base (envOfC qual scope s0.heap.objs.size f cd :: outer) := I.stack;have hin : ∀ env ∈ (envOfC qual scope s0.heap.objs.size f cd :: outer), ∀ b, env.frame = some b -> b ∈ (envOfC qual scope s0.heap.objs.size f cd :: outer).filterMap (·.frame) := fun env he b hb => ZP.mpr ⟨env, he, hb⟩
  have getB : ∀ b o, s.heap.get? b = some o -> b ∉ (envOfC qual scope s0.heap.objs.size f cd :: outer).filterMap (·.frame) -> (PySem.W.hideAll s.heap ((envOfC qual scope s0.heap.objs.size f cd :: outer).filterMap (·.frame))).get? b = some o := fun b o q n => PySem.W.hideAll_get _ q n
  refine wpAny_leaves_madeW (s := { s with heap := h', toks := tk }) (h := s.heap) I.ok.frames rfl (fun b o q => PySem.W.of_hideAll _ q) (PySem.W.funFrames_hide hst hin) hx fun h'' t x1 x2 x3 x4 => ?_
  have dom : ∀ b o, H b = some o -> ∃ ob, (PySem.W.hideAll s.heap ((envOfC qual scope s0.heap.objs.size f cd :: outer).filterMap (·.frame))).get? b = some ob := fun b o q => by
    have hlt := I.hok.lt q
    have hnf : b ∉ (envOfC qual scope s0.heap.objs.size f cd :: outer).filterMap (·.frame) := fun z => by
      have := I.stkFree b z;rw [q] at this; cases this
    obtain ⟨ob, hob⟩ := j7 (I.hok b o q);exact ⟨ob, getB b ob hob hnf⟩
  have un : Un (frs outer) [] H0 H s0.heap s.heap := I.base
  have dom2 : ∀ b o, s0.heap.get? b = some o -> b ∉ frs outer -> ∃ ob, (PySem.W.hideAll s.heap ((envOfC qual scope s0.heap.objs.size f cd :: outer).filterMap (·.frame))).get? b = some ob /\ (H0 b = none -> ob = o) := fun b o q n => by
    have hnf : b ∉ (envOfC qual scope s0.heap.objs.size f cd :: outer).filterMap (·.frame) := fun z => by
      rcases ZK.mp (I.stkSub b z) with y | y
      . have h1 : s0.heap.objs.size <= b := by rw [y]; exact I.ok.above
        exact absurd (Zh (Heap.lt_size q) h1) (ZJ _)
      . exact n y
    obtain ⟨o1, e1⟩ := un.there b o q (by simp);refine ⟨o1, getB b o1 e1 hnf, fun z => ?_⟩;have := un.keep b o q z n (by simp);rw [e1] at this;exact Option.some.inj this
  have hfr : ∀ b ∈ frs outer, ∀ o, s.heap.get? b = some o -> ∀ vs, o.data ≠ .fields vs := fun b hb o q => by
    obtain ⟨_, o', e', n'⟩ := hst.mem (b := b) (by
      obtain ⟨env, he, hf⟩ := ZP.mp hb
      exact ZP.mpr ⟨env, Zv _ he, hf⟩)
    rw [q] at e'; cases e';exact n'
  have sl : s.heap.UpToSlots h'' := (Heap.UpToSlots.of_keeps hx.keeps).trans x4;refine ⟨e, C, _, _, H, rfl, I.os, I.bare, ag un dom2 x1.1 sl hfr, HOk.flown I.hok (fun b o q => PySem.W.of_hideAll _ q) x1.1 dom, x1, ?_, dom, dom2, hE⟩
  cases q : H e with
  | none => rfl
  | some o =>
    obtain ⟨ob, hob⟩ := j7 (I.hok e o q);rw [hx.new] at hob; cases hob
theorem passX {P : Program} {w : World} {K : Fg} {mg : Str -> Option Value} {base : Heap} {N : List Str} {qual : Str} {scope : Scope} {f : Addr} {cd : Value} {A : Around} {outer : List Env} {s0 : Shared} {H0 : Hp} {E E1 : XK}
    (hX : X = cxOf (CX1 P w) P w K mg base N qual scope f cd A outer s0 H0 E) (hE : ∀ c H', E1 c none H' -> E c none H') : qj (CX1 P w) X E1 := by
  subst hX;intro pins σ H s e s' I h;obtain ⟨ea, C, a0, B, H', rfl, os, bare, un, hok, fl, hea, dom, dom2, hE1⟩ := h
  show wpAny _ _ (leaving _ (.ref ea)) _ _ _
  have hst : s'.heap.FunFrames B (envOfC qual scope s0.heap.objs.size f cd :: outer) := fl.2.2.1;have un0 : Un (frs outer) [] H0 H s0.heap s.heap := I.base
  have sub : ∀ b ∈ frs outer, b ∈ frs (envOfC qual scope s0.heap.objs.size f cd :: outer) := fun b hb => by
    obtain ⟨env, he, hf⟩ := ZP.mp hb;exact ZP.mpr ⟨env, Zv _ he, hf⟩
  have notL : ∀ b o, s0.heap.get? b = some o -> b ∉ frs outer -> b ∉ frs (envOfC qual scope s0.heap.objs.size f cd :: outer) := fun b o q n z => by
    rcases ZK.mp (I.stkSub b z) with y | y
    . have h1 : s0.heap.objs.size <= b := by rw [y]; exact I.ok.above
      exact absurd (Zh (Heap.lt_size q) h1) (ZJ _)
    . exact n y
  refine wpAny_leaves_onW I.ok.frames rfl fl fun h'' x1 x2 => ?_
  have ut := (un0.mono sub (fun _ z => z)).trans un;have un1 : Un (frs outer) [] H0 H' s0.heap s'.heap := ⟨fun b o e n hb hx => ut.keep b o e n (notL b o e hb) hx, fun b o e n hb hx => ut.slot b o e n (sub b hb) hx, ut.free, ut.there, ut.tups, ut.frzs, ut.tbls⟩
  have dom2' : ∀ b o, s0.heap.get? b = some o -> b ∉ frs outer -> ∃ ob, B.get? b = some ob /\ (H0 b = none -> ob = o) := fun b o q n => by
    obtain ⟨o1, e1⟩ := un0.there b o q (by simp);obtain ⟨ob, k1, k2⟩ := dom2 b o1 e1 (notL b o q n);refine ⟨ob, k1, fun z => ?_⟩;have e2 := un0.keep b o q z n (by simp);rw [e1] at e2;cases e2;exact k2 (un0.free b _ q z (by simp))
  have hfr : ∀ b ∈ frs outer, ∀ o, s'.heap.get? b = some o -> ∀ vs, o.data ≠ .fields vs := fun b hb o q => by
    obtain ⟨_, o', e', n'⟩ := hst.mem (b := b) (sub b hb);rw [q] at e'; cases e';exact n'
  exact ⟨ea, C, a0, B, H', rfl, os.trans I.os, bare, ag un1 dom2' x1.1 x2 hfr, HOk.flown hok fl.1 x1.1 dom, x1, hea, dom, dom2', hE _ _ hE1⟩
def ExcO (ea C : Addr) : HO := .ext fun h => ∃ o, h.get? ea = some o /\ o.cls = .ref C /\ ∃ vs, o.data = .fields vs
abbrev Cx.suite (X : Cx) (e : Value) : Cx := { X with A := X.A.mark (some e), calm := false, xe := fun _ _ => False }
theorem Inv.suite (I : Inv X pins σ H s) (e : Value) : Inv (X.suite e) pins σ H s :=
  ⟨⟨I.ok.mod, I.ok.kind, I.ok.glob, I.ok.blt, I.ok.above, I.ok.inj, I.ok.has, I.ok.cab, (fun z => by cases z), I.ok.frames, I.ok.stk, I.ok.exf, I.ok.bs, I.ok.bsz, I.ok.noex, I.ok.exfs, I.ok.funs, I.ok.frf⟩, I.os, I.bare, I.base, I.loc, I.cell, I.free, I.freeC, I.pin, I.hok, I.len⟩
end
abbrev VE : List Value := [.type "ValueError", .type "Exception", .type "BaseException", .type "object"]
structure Err (K : Fg) (C : Addr) : Prop where
  ok : PySem.W.excIn K C VE "ValueError.__new__" = true
theorem Err.obj {K : Fg} {C : Addr} {h : Heap} (c : Err K C) (X : K.In h) : ∃ bm N nm q bs hdct sn sub ab col dd k0 k1 k2 k3 k5 mN, h.get? C = some (excClassObj nm q C N bs bm hdct sn sub ab col dd k0 k1 k2 k3 k5 "ValueError.__new__") /\
    h.Ns N mN /\ mN "__init__" = none /\ OwnTail h VE bm /\ ∀ v b, PySem.W.mroIn K C v = some b -> (Value.ref C :: bm).contains v = b := by
  have q := c.ok;unfold PySem.W.excIn at q
  split at q
  case h_2 => cases q
  case h_1 dd cd sl ho =>
    split at q
    case h_2 => cases q
    case h_1 C' bm k0 k1 k2 k3 n k5 hm hs =>
      simp only [Bool.and_eq_true, beq_iff_eq, Bool.not_eq_true'] at q
      have hmro : ∀ v b, PySem.W.mroIn K C v = some b -> (Value.ref C' :: bm).contains v = b := fun v b e => by
        unfold PySem.W.mroIn PySem.W.clsIn at e;rw [ho] at e;simp only [Option.bind_some, hm, List.isEmpty_cons, Bool.false_eq_true, if_false, Option.some.injEq] at e;exact e
      obtain ⟨⟨⟨⟨⟨e1, e2⟩, hdel⟩, ht⟩, hok⟩, hni⟩ := q;subst e1;subst e2;obtain ⟨nm, bs, mro, ns, qn, hd, sn, sub, ab, col, del⟩ := cd;have hm' : mro = Value.ref C' :: bm := hm;have hdel' : del = false := hdel;subst hm';subst hdel'
      have hsl : sl = #[k0, k1, k2, k3, some (.builtin "ValueError.__new__"), k5] := by
        cases sl with
        | mk l =>
          have hs' : l = [k0, k1, k2, k3, some (.builtin "ValueError.__new__"), k5] := hs;rw [hs']
      subst hsl;exact ⟨bm, ns, nm, qn, bs, hd, sn, sub, ab, col, dd, k0, k1, k2, k3, k5, _, X _ _ ho, .of_isNs (PySem.W.isNs_of_in X hok), PySem.W.nsMap_none_of_in X hok hni, PySem.W.tail_of_in X ht, hmro⟩
section
variable {M : Model} {A : Around} {E : Value -> Shared -> Prop}
end
end L2
namespace L2
open PySem PySem.Spec PyProof.Rows
theorem PS.nox {X : Cx} {st : Stmt} {t : TS} (h : PS X.nox st t) : PS X st t := fun pins s σ H D I hw =>
  wpAny_mono (h pins s σ H D (I.wish _) hw) (fun _ _ z => z.unwish) fun _ _ z => z.elim
def tryXe (X : Cx) (pn : List (Addr × Obj)) (J : St -> Value -> Hp -> Prop) : Value -> Shared -> Prop := fun e s' =>
  ∃ pins σ H s, Inv { X with pn := pn, xe := fun _ _ => False } pins σ H s /\ CX1 X.prog X.w X.stack H s (fun c _ H' => J σ c H') e s'
abbrev jt (X : Cx) (pn : List (Addr × Obj)) (J : St -> Value -> Hp -> Prop) : Cx := { X with pn := pn, xe := tryXe X pn J }
def cg (X : Cx) (J : St -> Value -> Hp -> Prop) : Prop := ∀ pins σ H s e s', Inv X pins σ H s -> CX1 X.prog X.w X.stack H s (fun c _ H' => J σ c H') e s' -> X.xe e s'
theorem zeg {X : Cx} {pn : List (Addr × Obj)} {J : St -> Value -> Hp -> Prop} : cg (jt X pn J) J := fun pins σ H s e s' I h =>
  ⟨pins, σ, H, s, Inv.unwish (X := { X with pn := pn, xe := fun _ _ => False }) (E := tryXe X pn J) I, h⟩
theorem ye {X : Cx} {P : Program} {w : World} {K : Fg} {mg : Str -> Option Value} {base : Heap} {N : List Str} {qual : Str} {scope : Scope} {f : Addr} {cd : Value} {A : Around} {outer : List Env} {s0 : Shared} {H0 : Hp} {E : XK}
    (hX : X = cxOf (CX1 P w) P w K mg base N qual scope f cd A outer s0 H0 E) : cg X (fun _ c H' => E c none H') := fun pins σ H s e s' I h => by
  have q := passX (X := X) (E1 := fun c _ H' => E c none H') hX (fun _ _ z => z) pins σ H s e s' I;subst hX;exact q h
structure FnAtX (P : Program) (w : World) (K : Fg) (mg : Str -> Option Value) (base : Heap) (name : Str) (k : Nat) (ps : List Str) (sp : Sp) : Prop where
  ex : ∃ f fd, mg name = some (.ref f) /\ PySem.W.keepIn K (.ref f) = true /\ Binds K fd ps [] /\ FnOk P w K mg base (CX1 P w) k f fd ps sp
theorem FnAtX.of {P : Program} {w : World} {K : Fg} {mg : Str -> Option Value} {base : Heap} {name : Str} {st : Stmt} {N ps : List Str} {k : Nat} {sp : Sp} (D : zg K mg name st ps) (S : zr N ps (zh st)) (len : ∀ vs H Q E, sp vs H Q E -> vs.length = ps.length)
    (hbody : ∀ (f : Addr) (cdv : Value) (A : Around) (outer : List Env) (s : Shared) (H : Hp) (vs : List V) (Q : VK) (E : XK), Room k (A.deeper (envOfC name (zh st) s.heap.objs.size f cdv)) -> sp vs H Q E ->
      ∃ t, PSs (cxOf (CX1 P w) P w K mg base N name (zh st) f cdv A outer s H E) (ya st) t /\ t { nx := fun _ H' => Q .non H', rt := Q } (start N vs) H) : FnAtX P w K mg base name (k + 1) ps sp := by
  obtain ⟨f, fd, hm, F, hb⟩ := D.ex;refine ⟨f, fd, hm, F.kp, hb, ?_⟩;obtain ⟨oc, od, kV, doc, pm, an, cdv, ct, osl, rfl, lk, hcd⟩ := F.ex;exact zch lk hcd S len (hbody f cdv)
section
variable {X : Cx} {x : Str} {k : Nat} {ps : List Str} {sp : Sp} {p pos : Pos} {e : Expr} {es : List Expr} {t : TA}
def zej (sp : Sp) (J : St -> Value -> Hp -> Prop) (t : TA) : TE := fun σ H Q => t σ H fun vs H1 => sp vs H1 Q fun c _ H' => J σ c H'
theorem zgp {J : St -> Value -> Hp -> Prop} {σ : St} {H : Hp} {Q : VK} : zej sp J t σ H Q = t σ H fun vs H1 => sp vs H1 Q fun c _ H' => J σ c H' := rfl
theorem yq {J : St -> Value -> Hp -> Prop} (F : FnAtX X.prog X.w X.K X.mg X.base x k ps sp) (hr : Room k X.A) (hx : cg X J) (hg : Gl X x) (ha : PA X (e :: es) t) (hdb : (x == ("__debug__" : Str)) = false := by decide) (he : starEach (e :: es) X.env = (false, eval e X.env) :: starEach es X.env := by rfl)
    (hpl : (backTo pos (starEach es X.env)).any (·.1) = false := by rfl) : PE X (.Call (.Name x p) (e :: es) [] pos) (zej sp J t) := by
  obtain ⟨f, fd, hm, hk, hb, G⟩ := F.ex;intro pins s σ H Q I h;refine wpAny_Call_Name_kw (mf I hg hm ?_ hdb);refine PySem.W.callWith_K (h₀ := X.base) I.ok.mod.kin hk (thn (ha pos pins s σ H _ I h) fun us s1 ⟨vs, H1, I1, r, q⟩ => ⟨I1.kIn, ?_⟩) he hpl;have hl : (us ++ []).length = ps.length := by rw [ZO, <- r.length]; exact G.len _ _ _ _ q
  refine wpAny_call (codeAny_mono (G.run X.A X.stack s1 H1 ⟨us, []⟩ us vs Q _ hr I1.env0 (by have := hb s1 us I1.kIn hl; rw [ZO] at this; exact this) r q) fun r' s' hq => ?_)
  cases r' with
  | error e => exact hx pins σ H1 s1 e s' I1 hq
  | ok fl =>
    cases fl with
    | ret u => exact I1.after hq
    | next => exact False.elim hq
    | brk => exact False.elim hq
    | cont => exact False.elim hq
end
section
variable {X : Cx} {C : Addr} {x : Str} {np cpos pos : Pos}
def zev (X : Cx) (C : Addr) (R : Hp -> Prop) : Prop := ∀ pins σ H s h' e args tk, Inv X pins σ H s -> Heap.MadeExcOf s.heap h' e (.ref C) args -> R H -> X.xe (.ref e) { s with heap := h', toks := tk }
theorem yh {P : Program} {w : World} {K : Fg} {mg : Str -> Option Value} {base : Heap} {N : List Str} {qual : Str} {scope : Scope} {f : Addr} {cd : Value} {A : Around} {outer : List Env} {s0 : Shared} {H0 : Hp} {E : XK}
    (hX : X = cxOf (CX1 P w) P w K mg base N qual scope f cd A outer s0 H0 E) : zev X C (fun H => E (.ref C) none H) := fun pins σ H s h' e args tk I hx hE => c8 hX I hx hE tk
def zdw (R : Hp -> Prop) (ta : TA) : TS := fun _ σ H => ta σ H fun vs H1 => vs.length <= sizeLine /\ R H1
theorem zgs {R : Hp -> Prop} {ta : TA} {D : Ends} {σ : St} {H : Hp} : zdw R ta D σ H = ta σ H fun vs H1 => vs.length <= sizeLine /\ R H1 := rfl
theorem yv {e : Expr} {es : List Expr} {R : Hp -> Prop} {ta : TA} (hc : X.calm = true) (c : Err X.K C) (hg : Gl X x) (hm : X.mg x = some (.ref C)) (hr : zev X C R) (ha : PA X (e :: es) ta) (hdb : (x == ("__debug__" : Str)) = false := by decide)
    (he : starEach (e :: es) X.env = (false, eval e X.env) :: starEach es X.env := by rfl) (hpl : (backTo cpos (starEach es X.env)).any (·.1) = false := by rfl) :
    PS X (.Raise (some (.Call (.Name x np) (e :: es) [] cpos)) none pos) (zdw R ta) := by
  intro pins s σ H D I h;obtain ⟨bm, N, nm, q, bs, hdct, sn, sub, ab, col, dd, k0, k1, k2, k3, k5, mN, hC, hN, hni, T, _⟩ := c.obj I.ok.mod.kin
  refine wpAny_Raise_call_subU (C := C) (nm := nm) (q := q) (N := N) (bs := bs) (bm := bm) (hdct := hdct) (sn := sn) (sub := sub) (ab := ab) (col := col) (dd := dd) (k0 := k0) (k1 := k1) (k2 := k2) (k3 := k3) (k5 := k5)
    PySem.F.excBase_ValueError (by decide +kernel) PySem.F.excBase_ValueError (mN := mN) (T.hasType PySem.F.excBase_ValueError.hasBase) (I.ok.hd hc) (by rw [he]; show (false || (backTo cpos (starEach es X.env)).any (·.1)) = false; rw [hpl]; rfl) hni (mf I hg hm ⟨rfl, ?_⟩ hdb)
  have hrun := ha cpos pins s σ H _ I h;rw [he] at hrun ⊢;refine Calls.evalArgs_plain (wpAny_mono hrun (fun us s1 h1 => ?_) fun _ _ z => z);obtain ⟨vs, H1, I1, r1, hz, q1⟩ := h1;exact ⟨rfl, by rw [<- r1.length]; exact hz, I1.bk _ _ hC, hN.keeps I1.bk, T.keeps I1.bk, fun h' e hx => hr pins σ H1 s1 h' e us s1.toks I1 hx q1⟩
end
section
variable {X : Cx} {pins : List (Addr × Obj)} {σ : St} {H : Hp} {s : Shared}
theorem Inv.intry (I : Inv X pins σ H s) (J : St -> Value -> Hp -> Prop) : Inv (jt X (X.pn ++ pins) J) [] σ H s :=
  ⟨⟨I.ok.mod, I.ok.kind, I.ok.glob, I.ok.blt, I.ok.above, I.ok.inj, I.ok.has, I.ok.cab, I.ok.hd, I.ok.frames, I.ok.stk, I.ok.exf, I.ok.bs, I.ok.bsz, I.ok.noex, I.ok.exfs, I.ok.funs, I.ok.frf⟩, I.os, I.bare, I.base, I.loc, I.cell, I.free, I.freeC, fun p hp => I.pin p (by simpa using hp), I.hok, I.len⟩
theorem Inv.outtry {pl : List (Addr × Obj)} {E : Value -> Shared -> Prop} (I : Inv { X with pn := X.pn ++ pins, xe := E } pl σ H s) : Inv X pins σ H s :=
  ⟨⟨I.ok.mod, I.ok.kind, I.ok.glob, I.ok.blt, I.ok.above, I.ok.inj, I.ok.has, I.ok.cab, I.ok.hd, I.ok.frames, I.ok.stk, I.ok.exf, I.ok.bs, I.ok.bsz, I.ok.noex, I.ok.exfs, I.ok.funs, I.ok.frf⟩, I.os, I.bare, I.base, I.loc, I.cell, I.free, I.freeC, fun p hp => I.pin p (ZX _ hp), I.hok, I.len⟩
theorem SP.outtry {J : St -> Value -> Hp -> Prop} {D : Ends} {f : Flow} {s' : Shared} (h : SP (jt X (X.pn ++ pins) J) [] D f s') : SP X pins D f s' := by
  cases f with
  | next => obtain ⟨a, b, I, q⟩ := h; exact ⟨a, b, I.outtry, q⟩
  | brk => obtain ⟨a, b, I, q⟩ := h; exact ⟨a, b, I.outtry, q⟩
  | cont => obtain ⟨a, b, I, q⟩ := h; exact ⟨a, b, I.outtry, q⟩
  | ret u => obtain ⟨v, a, b, I, r, q⟩ := h; exact ⟨v, a, b, I.outtry, r, q⟩
def zc9 (i : Nat) (D : Ends) : Ends := { nx := fun σ H => D.nx (σ.set i none) H, rt := D.rt, bk := fun σ H => D.bk (σ.set i none) H, ct := fun σ H => D.ct (σ.set i none) H }
def tTryAs (K : Fg) (D0 : Addr) (i : Nat) (tb : (St -> Value -> Hp -> Prop) -> List (Addr × Obj) -> TS) (ts : Value -> TS) : TS := fun D σ H => ∃ J : St -> Value -> Hp -> Prop, (∀ pn, tb J pn D σ H) /\
  ∀ σ1 c H1, J σ1 c H1 -> ∃ C, c = .ref C /\ Err K C /\ PySem.W.mroIn K C (.ref D0) = some true /\ ∀ e ea, H1 ea = none -> ts e (zc9 i D) (σ1.set i (some (.ref ea))) (upd H1 ea (ExcO ea C))
def tTry0 (K : Fg) (D0 : Addr) (tb : (St -> Value -> Hp -> Prop) -> List (Addr × Obj) -> TS) (ts : Value -> TS) : TS := fun D σ H => ∃ J : St -> Value -> Hp -> Prop, (∀ pn, tb J pn D σ H) /\
  ∀ σ1 c H1, J σ1 c H1 -> ∃ C, c = .ref C /\ Err K C /\ PySem.W.mroIn K C (.ref D0) = some true /\ ∀ e, ts e D σ1 H1
theorem suK {e : Value} : (X.suite e).K = X.K := rfl
theorem noxK : X.nox.K = X.K := rfl
theorem tryK {pn : List (Addr × Obj)} {J : St -> Value -> Hp -> Prop} : (jt X pn J).K = X.K := rfl
theorem zhj {K : Fg} {D0 : Addr} {i : Nat} {tb : (St -> Value -> Hp -> Prop) -> List (Addr × Obj) -> TS} {ts : Value -> TS} {D : Ends} : tTryAs K D0 i tb ts D σ H = ∃ J : St -> Value -> Hp -> Prop, (∀ pn, tb J pn D σ H) /\
  ∀ σ1 c H1, J σ1 c H1 -> ∃ C, c = .ref C /\ Err K C /\ PySem.W.mroIn K C (.ref D0) = some true /\ ∀ e ea, H1 ea = none -> ts e (zc9 i D) (σ1.set i (some (.ref ea))) (upd H1 ea (ExcO ea C)) := rfl
theorem e_try0 {K : Fg} {D0 : Addr} {tb : (St -> Value -> Hp -> Prop) -> List (Addr × Obj) -> TS} {ts : Value -> TS} {D : Ends} : tTry0 K D0 tb ts D σ H = ∃ J : St -> Value -> Hp -> Prop, (∀ pn, tb J pn D σ H) /\
  ∀ σ1 c H1, J σ1 c H1 -> ∃ C, c = .ref C /\ Err K C /\ PySem.W.mroIn K C (.ref D0) = some true /\ ∀ e, ts e D σ1 H1 := rfl
end
end L2
namespace L2
open PySem PySem.Spec PyProof.Rows
structure ErrQ (K : Fg) (C : Addr) : Prop extends Err K C where
  ga : PySem.W.findIn K (.ref C) "__getattribute__" = some (some (.builtin "BaseException.__getattribute__"))
  gn : PySem.W.findIn K (.ref C) "__getattr__" = some none
  gc : PySem.W.findIn K (.ref C) "__class__" = some (some (.builtin "object.__class__"))
section
variable {prog : Program} {w : World} {A : Around} {E : Value -> Shared -> Prop} {h : Heap} {g : Array GenState} {d : Drawn} {t : Nat} {os : OsState} {a C : Addr} {o : Obj} {K : Fg}
end
section
variable {X : Cx} {pins : List (Addr × Obj)} {σ : St} {H : Hp} {s : Shared}
end
theorem kd {K : Fg} {h : Heap} {mg : Str -> Option Value} (X : K.In h) (G : h.Ns mainGlobals mg) {name : Str} {C : Addr} (e : PySem.W.nsIn K mainGlobals name = some (some (.ref C))) (q : PySem.W.excIn K C VE "ValueError.__new__" = true)
    (g1 : PySem.W.findIn K (.ref C) "__getattribute__" = some (some (.builtin "BaseException.__getattribute__"))) (g2 : PySem.W.findIn K (.ref C) "__getattr__" = some none) (g3 : PySem.W.findIn K (.ref C) "__class__" = some (some (.builtin "object.__class__"))) :
    mg name = some (.ref C) /\ ErrQ K C := ⟨PySem.W.mg_of X G e, ⟨⟨q⟩, g1, g2, g3⟩⟩
theorem zfi {K : Fg} {C : Addr} : PySem.W.kitOne K (.ref C) (.ref C) = some true := by
  unfold PySem.W.kitOne;rw [if_pos (by simp)]
theorem kit_mk {K : Fg} {C D : Addr} {cd : ClassData} {b : Bool} (h0 : (Value.ref C == Value.ref D) = false) (h1 : PySem.W.clsIn K D = some cd) (h2 : PySem.W.typeIn K (.ref D) = some (.type "type")) (h3 : PySem.W.subIn K (.ref C) (.ref D) = some b) : PySem.W.kitOne K (.ref C) (.ref D) = some b := by
  unfold PySem.W.kitOne PySem.W.kitCls;rw [if_neg (by rw [h0]; simp)]
  show (if ((PySem.W.clsIn K D).isSome && PySem.W.typeIn K (.ref D) == some (.type "type")) = true then PySem.W.subIn K (.ref C) (.ref D) else none) = some b
  rw [h1, h2, if_pos (by simp)];exact h3
theorem kitV_mk {K : Fg} {C : Addr} {b : Bool} (h3 : PySem.W.subIn K (.ref C) (.type "ValueError") = some b) : PySem.W.kitOne K (.ref C) (.type "ValueError") = some b := by
  unfold PySem.W.kitOne PySem.W.kitCls;rw [if_neg (by simp)]
  show (if PySem.W.kitMeta "ValueError" = true then PySem.W.subIn K (.ref C) (.type "ValueError") else none) = some b
  rw [if_pos (by decide +kernel)];exact h3
theorem Same.seqT {K : Fg} {H H' : Hp} {a : Addr} {xs : List V} (e : Same H H') (h : SqT K H a xs) : SqT K H' a xs := by
  rcases h with (h | ⟨o, h⟩) | h
  . exact .inl (.inl (e _ _ h))
  . exact .inl (.inr ⟨o, e _ _ h⟩)
  . exact .inr h
end L2
namespace L2
open PySem PySem.Spec PyProof.Rows
inductive Tr where
  | lf (v : V) | ls (ts : List Tr) | tp (ts : List Tr)
mutual
def TrAt (K : Fg) (H : Hp) : Tr -> V -> Prop
  | .lf v, x => x = v /\ xf v = true
  | .ls ts, x => ∃ a xs, x = .ref a /\ SqL K H a xs /\ TrsAt K H ts xs
  | .tp ts, x => ∃ a xs, x = .ref a /\ SqT K H a xs /\ TrsAt K H ts xs
def TrsAt (K : Fg) (H : Hp) : List Tr -> List V -> Prop
  | [], xs => xs = []
  | t :: ts, xs => ∃ y ys, xs = y :: ys /\ TrAt K H t y /\ TrsAt K H ts ys
end
mutual
def eqTr : Tr -> Tr -> Bool
  | .lf v, .lf w => eqV v w
  | .ls ts, .ls us => zbw ts us
  | .tp ts, .tp us => zbw ts us
  | _, _ => false
def zbw : List Tr -> List Tr -> Bool
  | [], [] => true
  | t :: ts, u :: us => eqTr t u && zbw ts us
  | _, _ => false
end
mutual
def deep : Tr -> Nat
  | .lf _ => 0
  | .ls ts => gq ts + 1
  | .tp ts => gq ts + 1
def gq : List Tr -> Nat
  | [] => 0
  | t :: ts => max (deep t) (gq ts)
end
theorem TrsAt.len {K : Fg} {H : Hp} : ∀ {ts : List Tr} {xs : List V}, TrsAt K H ts xs -> ts.length = xs.length
  | [], xs, h => by rw [TrsAt] at h; rw [h]; rfl
  | t :: ts, xs, h => by
    rw [TrsAt] at h;obtain ⟨y, ys, rfl, _, h⟩ := h;simp [TrsAt.len h]
theorem TrsAt.get {K : Fg} {H : Hp} : ∀ {ts : List Tr} {xs : List V} {j : Nat} {x : V}, TrsAt K H ts xs -> xs[j]? = some x -> ∃ t, ts[j]? = some t /\ TrAt K H t x
  | [], xs, j, x, h, e => by rw [TrsAt] at h; subst h; simp at e
  | t :: ts, xs, 0, x, h, e => by
    rw [TrsAt] at h;obtain ⟨y, ys, rfl, h1, h⟩ := h;cases e;exact ⟨t, rfl, h1⟩
  | t :: ts, xs, j + 1, x, h, e => by
    rw [TrsAt] at h;obtain ⟨y, ys, rfl, h1, h⟩ := h;exact TrsAt.get (ts := ts) (j := j) h e
theorem TrsAt.of {K : Fg} {H : Hp} : ∀ {ts : List Tr} {xs : List V}, ts.length = xs.length -> (∀ (j : Nat) (t : Tr) (x : V), ts[j]? = some t -> xs[j]? = some x -> TrAt K H t x) -> TrsAt K H ts xs
  | [], [], _, _ => by rw [TrsAt]
  | t :: ts, x :: xs, hl, h => by
    rw [TrsAt];exact ⟨x, xs, rfl, h 0 t x rfl rfl, TrsAt.of (by simpa using hl) fun j t x e1 e2 => h (j + 1) t x e1 e2⟩
section
variable {X : Cx} {pins : List (Addr × Obj)} {σ : St} {H : Hp} {s : Shared}
end
section
variable {X : Cx}
def SameK : Tr -> Tr -> Prop
  | .ls _, .ls _ => True
  | .tp _, .tp _ => True
  | _, _ => False
theorem SameK.of {t t' : Tr} (h : SameK t t') : (∃ ts us, t = .ls ts /\ t' = .ls us) \/ ∃ ts us, t = .tp ts /\ t' = .tp us := by
  cases t <;> cases t' <;> first | exact .inl ⟨_, _, rfl, rfl⟩ | exact .inr ⟨_, _, rfl, rfl⟩ | exact h.elim
def rEqD (K : Fg) (n : Nat) (neg : Bool) (x y : V) (H : Hp) (Q : VK) : Prop := ∃ t t', SameK t t' /\ TrAt K H t x /\ TrAt K H t' y /\ deep t <= n /\ deep t' <= n /\ Q (.bl (neg ^^ eqTr t t')) H
end
section
variable {X : Cx} {pins : List (Addr × Obj)} {σ : St} {H : Hp} {s : Shared}
open Classical in
end
section
variable {X : Cx}
def inTr (t : Tr) (ts : List Tr) : Bool := ts.any fun u => eqTr u t
def rInD (K : Fg) (n : Nat) (neg : Bool) : R2 := fun x y H Q => ∃ p xs ts t, y = .ref p /\ (SqL K H p xs \/ SqT K H p xs) /\ TrsAt K H ts xs /\ TrAt K H t x /\ deep t <= n /\ gq ts <= n /\ Q (.bl (neg ^^ inTr t ts)) H
end
mutual
theorem TrAt.mono {K : Fg} {H H' : Hp} (S : Same H H') : ∀ {t : Tr} {x : V}, TrAt K H t x -> TrAt K H' t x
  | .lf v, x, h => by rw [TrAt] at h ⊢; exact h
  | .ls ts, x, h => by
    rw [TrAt] at h ⊢;obtain ⟨a, xs, e, sq, h⟩ := h;exact ⟨a, xs, e, S.seq sq, TrsAt.mono S h⟩
  | .tp ts, x, h => by
    rw [TrAt] at h ⊢;obtain ⟨a, xs, e, sq, h⟩ := h;exact ⟨a, xs, e, Same.seqT S sq, TrsAt.mono S h⟩
theorem TrsAt.mono {K : Fg} {H H' : Hp} (S : Same H H') : ∀ {ts : List Tr} {xs : List V}, TrsAt K H ts xs -> TrsAt K H' ts xs
  | [], xs, h => by rw [TrsAt] at h ⊢; exact h
  | t :: ts, xs, h => by
    rw [TrsAt] at h ⊢;obtain ⟨y, ys, e, h1, h2⟩ := h;exact ⟨y, ys, e, TrAt.mono S h1, TrsAt.mono S h2⟩
end
theorem TrAt.lf {K : Fg} {H : Hp} {v : V} (f : xf v = true) : TrAt K H (.lf v) v := by rw [TrAt]; exact ⟨rfl, f⟩
theorem TrAt.ls {K : Fg} {H : Hp} {a : Addr} {xs : List V} {ts : List Tr} (h : SqL K H a xs) (q : TrsAt K H ts xs) : TrAt K H (.ls ts) (.ref a) := by rw [TrAt]; exact ⟨a, xs, rfl, h, q⟩
theorem TrAt.tp {K : Fg} {H : Hp} {a : Addr} {xs : List V} {ts : List Tr} (h : SqT K H a xs) (q : TrsAt K H ts xs) : TrAt K H (.tp ts) (.ref a) := by rw [TrAt]; exact ⟨a, xs, rfl, h, q⟩
theorem TrsAt.nil {K : Fg} {H : Hp} : TrsAt K H [] [] := by rw [TrsAt]
theorem TrsAt.cons {K : Fg} {H : Hp} {t : Tr} {ts : List Tr} {x : V} {xs : List V} (h : TrAt K H t x) (q : TrsAt K H ts xs) : TrsAt K H (t :: ts) (x :: xs) := by rw [TrsAt]; exact ⟨x, xs, rfl, h, q⟩
theorem TrsAt.flat {K : Fg} {H : Hp} : ∀ {xs : List V}, xs.all xf = true -> TrsAt K H (xs.map Tr.lf) xs
  | [], _ => TrsAt.nil
  | x :: xs, f => by
    rw [YR, Bool.and_eq_true] at f;exact TrsAt.cons (TrAt.lf f.1) (TrsAt.flat f.2)
theorem TrsAt.append {K : Fg} {H : Hp} : ∀ {ts us : List Tr} {xs ys : List V}, TrsAt K H ts xs -> TrsAt K H us ys -> TrsAt K H (ts ++ us) (xs ++ ys)
  | [], us, xs, ys, h, q => by rw [TrsAt] at h; subst h; exact q
  | t :: ts, us, xs, ys, h, q => by
    rw [TrsAt] at h;obtain ⟨y, zs, rfl, h1, h2⟩ := h;exact TrsAt.cons h1 (TrsAt.append h2 q)
theorem e_eqD {K : Fg} {n : Nat} {neg : Bool} {x y : V} {H : Hp} {Q : VK} : rEqD K n neg x y H Q = ∃ t t', SameK t t' /\ TrAt K H t x /\ TrAt K H t' y /\ deep t <= n /\ deep t' <= n /\ Q (.bl (neg ^^ eqTr t t')) H := rfl
theorem e_inD {K : Fg} {n : Nat} {neg : Bool} {x y : V} {H : Hp} {Q : VK} : rInD K n neg x y H Q = ∃ p xs ts t, y = .ref p /\ (SqL K H p xs \/ SqT K H p xs) /\ TrsAt K H ts xs /\ TrAt K H t x /\ deep t <= n /\ gq ts <= n /\ Q (.bl (neg ^^ inTr t ts)) H := rfl
end L2
namespace L2
open PySem PySem.Spec PyProof.Rows
def chr1 (c : Nat) : Str := ⟨#[c]⟩
def Itw (x : Str) : It := ⟨fun i _ => i < x.cps.size, fun i H v H' => H' = H /\ ∃ c, x.cps[i]? = some c /\ v = .str (chr1 c), fun i _ => x.cps.size <= i⟩
theorem zed {P : Program} {w : World} {K : Fg} {tg : Expr} (it : Addr) (x : Str) (t : Tok) : Turn P w K tg (Itw x) [it] it (fun i h => h.IsStrIter it "str_ascii_iterator" x t i) where
  mem := by simp
  obj := fun i h st b hb => by
    have e : b = it := by simpa using hb
    subst e;obtain ⟨o, e, c, d⟩ := st;exact ⟨o, e, fun v z => by rw [d] at z; cases z⟩
  keep := fun i h h' st k => by
    obtain ⟨o, e, r⟩ := st;exact ⟨o, k it (by simp) o e, r⟩
  item := by
    intro X hP hw hK hc i pins s σ H E I hf st hg;subst hP hw hK;have hi : i < x.cps.size := hg;obtain ⟨f0, f1, f2, f3, f4, f5⟩ := hf it (by simp);refine wpAny_pyNext_ascii_item st (c := x.cps[i]) (by simp [hi]) fun h' st' sb => ?_
    have I1 : Inv X pins σ H { s with heap := h', toks := s.toks + 1 } := I.turned (t' := s.toks + 1) (fun b o hb e => (sb.2 b hb).trans e) f0 f1 f3 f4 f5;obtain ⟨o, e, c, d⟩ := id st';exact ⟨_, rfl, ix (s := { s with heap := h', toks := s.toks + 1 }) e c d (by decide) ⟨.str (chr1 x.cps[i]), H, I1, ⟨_, rfl⟩, ⟨rfl, _, by simp [hi], rfl⟩, st', fun b hb => (hf b hb).1⟩⟩
  done := by
    intro X hP hw hK hc i pins s σ H E I hf st hg;subst hP hw hK;have hi : x.cps.size <= i := hg;obtain ⟨f0, f1, f2, f3, f4, f5⟩ := hf it (by simp);exact wpAny_pyNext_ascii_end (I.ok.hd hc) st (by simp [hi]) fun h' eb => ⟨rfl, I.turned (t' := s.toks) (fun b o hb e => eb b o hb e) f0 f1 f3 f4 f5⟩
  self := fun _ _ _ _ _ st h => wpAny_pyIter_striter_ascii st h
theorem zdn {P : Program} {w : World} {K : Fg} {tg : Expr} (it : Addr) (x : Str) (t : Tok) : Turn P w K tg (Itw x) [it] it (fun i h => h.IsStrIter it "str_iterator" x t i) where
  mem := by simp
  obj := fun i h st b hb => by
    have e : b = it := by simpa using hb
    subst e;obtain ⟨o, e, c, d⟩ := st;exact ⟨o, e, fun v z => by rw [d] at z; cases z⟩
  keep := fun i h h' st k => by
    obtain ⟨o, e, r⟩ := st;exact ⟨o, k it (by simp) o e, r⟩
  item := by
    intro X hP hw hK hc i pins s σ H E I hf st hg;subst hP hw hK;have hi : i < x.cps.size := hg;obtain ⟨f0, f1, f2, f3, f4, f5⟩ := hf it (by simp);refine wpAny_pyNext_wide_item st (c := x.cps[i]) (by simp [hi]) fun h' st' sb => ?_
    have I1 : Inv X pins σ H { s with heap := h', toks := s.toks + 1 } := I.turned (t' := s.toks + 1) (fun b o hb e => (sb.2 b hb).trans e) f0 f1 f3 f4 f5;obtain ⟨o, e, c, d⟩ := id st';exact ⟨_, rfl, ix (s := { s with heap := h', toks := s.toks + 1 }) e c d (by decide) ⟨.str (chr1 x.cps[i]), H, I1, ⟨_, rfl⟩, ⟨rfl, _, by simp [hi], rfl⟩, st', fun b hb => (hf b hb).1⟩⟩
  done := by
    intro X hP hw hK hc i pins s σ H E I hf st hg;subst hP hw hK;have hi : x.cps.size <= i := hg;obtain ⟨f0, f1, f2, f3, f4, f5⟩ := hf it (by simp);exact wpAny_pyNext_wide_end (I.ok.hd hc) st (by simp [hi]) fun h' eb => ⟨rfl, I.turned (t' := s.toks) (fun b o hb e => eb b o hb e) f0 f1 f3 f4 f5⟩
  self := fun _ _ _ _ _ st h => wpAny_pyIter_striter_wide st h
def iStr (a : TE) : TI := fun σ H R => a σ H fun x H1 => ∃ z, x = .str z /\ R (Itw z) H1
theorem zek {X : Cx} {tg l : Expr} {tl : TE} (hl : PE X l tl) : PI X tg l (iStr tl) := by
  intro pins s σ H R I h;refine thn (hl pins s σ H _ I h) fun v s1 ⟨x, H1, I1, r1, q1⟩ => ?_
  obtain ⟨z, e, q⟩ := q1;subst e;obtain ⟨t, rfl⟩ := r1;refine wpAny_pyIter_strU ?_
  have fin : ∀ {tn : Nat -> Heap -> Prop}, Turn X.prog X.w X.K tg (Itw z) [s1.heap.objs.size] s1.heap.objs.size tn -> tn 0 (s1.heap.push { cls := .type (strIterType z), data := .fields #[.str z t, .int 0 0] }) ->
      PIE X pins σ tg R (.ref s1.heap.objs.size) { s1 with heap := s1.heap.push { cls := .type (strIterType z), data := .fields #[.str z t, .int 0 0] } } := fun {tn} T h0 => by
    refine ⟨s1.heap.objs.size, [s1.heap.objs.size], _, _, H1, rfl, I1.kept (t' := s1.toks) fun b o e => Heap.get?_push_of_some _ e, T, h0, fun b hb => ?_, q⟩;have e : b = s1.heap.objs.size := by simpa using hb
    subst e;exact I1.fpOk (Zm _) (I1.hok.fresh (Zm _))
  cases ha : z.cps.all (· < 128) with
  | true =>
    have e : strIterType z = "str_ascii_iterator" := by simp [strIterType, ha]
    refine fin (zed _ z t) ?_;exact ⟨_, Heap.get?_push_size _ rfl, by rw [e], rfl⟩
  | false =>
    have e : strIterType z = "str_iterator" := by simp [strIterType, ha]
    refine fin (zdn _ z t) ?_;exact ⟨_, Heap.get?_push_size _ rfl, by rw [e], rfl⟩
theorem e_iStr {a : TE} {σ : St} {H : Hp} {R : It -> Hp -> Prop} : iStr a σ H R = a σ H fun x H1 => ∃ z, x = .str z /\ R (Itw z) H1 := rfl
def y9 (z : Str) (n : Nat) : Str := ⟨(List.replicate n z.cps.toList).flatten.toArray⟩
theorem zdk : ∀ (n : Nat) (a acc : Array Nat), (List.replicate n a).foldl (· ++ ·) acc = acc ++ (List.replicate n a.toList).flatten.toArray := by
  intro n
  induction n with
  | zero => intro a acc; simp
  | succ n ih =>
    intro a acc;rw [YK, Xb, ih, YK, List.flatten_cons]
    apply Array.ext'
    simp
theorem mul_is (z : Str) (n : Int) : Txt.mul z n = y9 z n.toNat := by
  unfold Txt.mul y9
  by_cases h : n < 1
  . rw [if_pos h, show n.toNat = 0 by omega]; rfl
  . rw [if_neg h]
    by_cases h2 : (n == 1 || z.length == 0) = true
    . rw [if_pos h2]
      rcases Bool.or_eq_true _ _ ▸ h2 with q | q
      . have : n = 1 := by simpa using q
        subst this
        show z = _
        have : (1 : Int).toNat = 1 := rfl;rw [this];simp
      . have e : z.cps.size = 0 := by simpa [Str.length] using q
        have e2 : z.cps = #[] := Array.eq_empty_of_size_eq_zero e;obtain ⟨c⟩ := z;simp only at e2;subst e2;simp
    . rw [if_neg h2, zdk]
      simp
section
variable {X : Cx}
def rMulS : R2 := fun x y H Q => ∃ z n, x = .str z /\ y = .int n /\ -(2 ^ 62) <= n /\ n < 2 ^ 31 /\ z.length * n.toNat <= 2 ^ 20 /\ Q (.str (y9 z n.toNat)) H
theorem fk : OpR X (binaryOp .Mult) rMulS := by
  intro pins s σ H x y v u Q I rx ry h;obtain ⟨z, n, rfl, rfl, h1, h2, h3, q⟩ := h;obtain ⟨t, rfl⟩ := rx;obtain ⟨t', rfl⟩ := ry;refine SB.mul ⟨?_, fun h4 h5 => ?_, fun h4 h5 => ?_⟩ fun tk k => ?_
  . rw [decide_eq_false (by omega), decide_eq_false (by omega)]; rfl
  . intro h6
    have h7 : (z.length : Int) * n <= 2 ^ 20 := by
      have : ((z.length * n.toNat : Nat) : Int) <= ((2 ^ 20 : Nat) : Int) := by exact_mod_cast h3
      rw [Int.natCast_mul, ZY (by omega)] at this;exact this
    have h8 : (2 ^ 63 - 1 : Int) / n * n <= z.length * n := Int.mul_le_mul_of_nonneg_right (by omega) (by omega);have h9 := Int.emod_add_mul_ediv (2 ^ 63 - 1 : Int) n;have h10 : (2 ^ 63 - 1 : Int) % n < n := YQ _ (by omega);rw [Int.mul_comm] at h8;omega
  . have : z.length * n.toNat <= sizeLine := Zd h3 (by decide)
    show decide (z.length * n.toNat > sizeLine) = false
    exact decide_eq_false (by omega)
  . rw [mul_is]
    exact ⟨.str (y9 z n.toNat), H, I.tok _, ⟨_, rfl⟩, q⟩
theorem e_mulS {x y : V} {H : Hp} {Q : VK} : rMulS x y H Q = ∃ z n, x = .str z /\ y = .int n /\ -(2 ^ 62) <= n /\ n < 2 ^ 31 /\ z.length * n.toNat <= 2 ^ 20 /\ Q (.str (y9 z n.toNat)) H := rfl
end
theorem hu9 {A : Around} {k : Nat} (hr : Room k A) : A.units + 1 + 8 <= cLine := by have := hr.un; omega
theorem e_ixS {x y : V} {H : Hp} {Q : VK} : rIxS x y H Q = ∃ z i c, x = .str z /\ y = .int i /\ z.length <= sizeLine /\ atI z.cps.toList i = some c /\ Q (.str ⟨#[c]⟩) H := rfl
theorem e_iT {K : Fg} {a : TE} {σ : St} {H : Hp} {R : It -> Hp -> Prop} : iTup K a σ H R = a σ H fun x H1 => ∃ p, x = .ref p /\ (∃ xs, SqT K H1 p xs) /\ R (Itt K p) H1 := rfl
theorem fe : ∀ {texts : List Str} {us : List Value}, Vals (texts.map V.str) us -> ∃ l : List (Str × Tok), us = strValues l /\ l.map (·.1) = texts
  | [], _, .nil => ⟨[], rfl, rfl⟩
  | x :: texts, _, .cons r t => by
    obtain ⟨tk, rfl⟩ := r;obtain ⟨l, e1, e2⟩ := fe t;exact ⟨(x, tk) :: l, by rw [e1]; rfl, by rw [ZM, e2]⟩
section
variable {X : Cx}
def rJoin (K : Fg) : V -> List V -> Hp -> VK -> Prop := fun x vs H Q => ∃ sep b texts, x = .str sep /\ vs = [.ref b] /\ SqL K H b (texts.map V.str) /\ JoinOk sep texts = true /\ Q (.str (Txt.join sep texts)) H
theorem jq : MtM X "str.join" (rJoin X.K) := by
  intro pins s σ H x vs v us Q I rx rv h;obtain ⟨sep, b, texts, rfl, rfl, hs, hok, q⟩ := h;obtain ⟨t, rfl⟩ := rx;obtain ⟨u, rfl, ru⟩ := rv.one;cases ru;obtain ⟨its, r, pl, hz⟩ := I.list hs;obtain ⟨l, e1, e2⟩ := fe r;subst e1;exact SC.join pl.isList e2 hok fun t' k => ⟨.str (Txt.join sep texts), H, I.tok _, ⟨_, rfl⟩, q⟩
theorem e_join {K : Fg} {x : V} {vs : List V} {H : Hp} {Q : VK} : rJoin K x vs H Q = ∃ sep b texts, x = .str sep /\ vs = [.ref b] /\ SqL K H b (texts.map V.str) /\ JoinOk sep texts = true /\ Q (.str (Txt.join sep texts)) H := rfl
end
section
variable {σ : St} {k : Nat} {g : TG} {tt : TT} {te : TE} {H1 : Hp} {Fin : List V -> Hp -> Prop}
theorem j8 {K : Fg} {a : Addr} {xs : List V} (Pv : Nat -> List V -> Hp -> Prop) (h0 : Pv 0 [] H1) (hz : ∀ i ys H, i <= xs.length -> Pv i ys H -> ys.length <= sizeLine /\ SqT K H a xs)
    (hs : ∀ i x ys H, xs[i]? = some x -> Pv i ys H -> g x (List.replicate k none ++ σ) H fun σ2 H2 => σ2.drop k = σ /\ tt σ2 H2 fun b H3 => if b = true then te σ2 H3 fun v H4 => Pv (i + 1) (ys ++ [v]) H4 else Pv (i + 1) ys H3)
    (hd : ∀ ys H, Pv xs.length ys H -> Fin ys H) : oy (Itt K a) σ k g tt te H1 Fin := by
  refine ⟨fun i m ys H => m = xs.length - i /\ i <= xs.length /\ Pv i ys H, ⟨xs.length, by simp, ZE _, h0⟩, ?_⟩
  rintro i m ys H ⟨rfl, hi, p⟩
  have q := (hz i ys H hi p).2;refine ⟨(hz i ys H hi p).1, ?_⟩
  by_cases hlt : i < xs.length
  . refine .inr ⟨⟨xs, xs[i], q, by simp [hlt]⟩, Pv (i + 1), fun ys' H' p' => ⟨xs.length - (i + 1), by omega, rfl, hlt, p'⟩, fun x H' y => ?_⟩
    obtain ⟨e, y⟩ := y;subst e;exact hs i x ys _ (y xs q) p
  . have e : i = xs.length := by omega
    subst e;exact .inl ⟨⟨xs, q, Zm _⟩, hd ys H p⟩
end
theorem zp {e : Expr} {es : List Expr} {env : Env} (h : ∀ e' p, e ≠ .Starred e' p) : starEach (e :: es) env = (false, eval e env) :: starEach es env := by
  cases e <;> first | rfl | exact absurd rfl (h _ _)
def iSeq (K : Fg) (tl : TE) : TI := fun σ H R => tl σ H fun x H1 => ∃ a, x = .ref a /\ (((∃ xs, SqL K H1 a xs) /\ R (Itl K a) H1) \/ ((∃ xs, SqT K H1 a xs) /\ R (Itt K a) H1))
theorem bt {X : Cx} {tg l : Expr} {tl : TE} (hl : PE X l tl) : PI X tg l (iSeq X.K tl) := by
  intro pins s σ H R I h;refine thn (hl pins s σ H _ I h) fun v s1 ⟨x, H1, I1, r1, q1⟩ => ?_
  obtain ⟨a, e, q⟩ := q1;subst e;cases r1
  rcases q with ⟨⟨xs, hq⟩, q⟩ | ⟨⟨xs, hq⟩, q⟩
  . obtain ⟨its, rv, p, hz⟩ := I1.list hq
    refine wpAny_pyIter_list p.isList ?_;refine ⟨s1.heap.objs.size, [s1.heap.objs.size], _, _, H1, rfl, I1.kept (t' := s1.toks) fun b o e => Heap.get?_push_of_some _ e, fv a _, ⟨_, Heap.get?_push_size _ rfl, rfl, rfl⟩, fun b hb => ?_, q⟩;have e : b = s1.heap.objs.size := by simpa using hb
    subst e;exact I1.fpOk (Zm _) (I1.hok.fresh (Zm _))
  . obtain ⟨its, rv, p, hz⟩ := I1.tuple hq
    refine wpAny_pyIter_tuple (show s1.heap.IsTuple a its.toArray from p) ?_;refine ⟨s1.heap.objs.size, [s1.heap.objs.size], _, _, H1, rfl, I1.kept (t' := s1.toks) fun b o e => Heap.get?_push_of_some _ e, ip a _, ⟨_, Heap.get?_push_size _ rfl, rfl, rfl⟩, fun b hb => ?_, q⟩;have e : b = s1.heap.objs.size := by simpa using hb
    subst e;exact I1.fpOk (Zm _) (I1.hok.fresh (Zm _))
theorem e_iSeq {K : Fg} {tl : TE} {σ : St} {H : Hp} {R : It -> Hp -> Prop} : iSeq K tl σ H R = tl σ H fun x H1 => ∃ a, x = .ref a /\ (((∃ xs, SqL K H1 a xs) /\ R (Itl K a) H1) \/ ((∃ xs, SqT K H1 a xs) /\ R (Itt K a) H1)) := rfl
section
variable {X : Cx}
def rTupL (K : Fg) : List V -> Hp -> VK -> Prop := fun xs H Q => ∃ p ys, xs = [.ref p] /\ SqL K H p ys /\ ∀ l, H l = none -> Q (.ref l) (upd H l (.tup ys))
theorem xp : CallR X (.type "tuple") (rTupL X.K) := fun pins s σ H xs us Q I r h => by
  obtain ⟨p, ys, e, hq, q⟩ := h;exact d3 pins s σ H xs us Q I r ⟨p, ys, e, .inl ⟨hq, q⟩⟩
theorem e_tupL {K : Fg} {xs : List V} {H : Hp} {Q : VK} : rTupL K xs H Q = ∃ p ys, xs = [.ref p] /\ SqL K H p ys /\ ∀ l, H l = none -> Q (.ref l) (upd H l (.tup ys)) := rfl
end
end L2
namespace L2
open PySem PySem.Spec PyProof.Rows
section
variable {X : Cx}
def rMinL (K : Fg) (xs : List V) (H : Hp) (Q : VK) : Prop := ∃ (p : Addr) (ns : List Int), xs = [.ref p] /\ SqL K H p (ns.map V.int) /\ 0 < ns.length /\ ∀ m, m ∈ ns -> (∀ a ∈ ns, m <= a) -> Q (.int m) H
def rMaxL (K : Fg) (xs : List V) (H : Hp) (Q : VK) : Prop := ∃ (p : Addr) (ns : List Int), xs = [.ref p] /\ SqL K H p (ns.map V.int) /\ 0 < ns.length /\ ∀ m, m ∈ ns -> (∀ a ∈ ns, a <= m) -> Q (.int m) H
theorem e_minL {K : Fg} {xs : List V} {H : Hp} {Q : VK} : rMinL K xs H Q = ∃ (p : Addr) (ns : List Int), xs = [.ref p] /\ SqL K H p (ns.map V.int) /\ 0 < ns.length /\ ∀ m, m ∈ ns -> (∀ a ∈ ns, m <= a) -> Q (.int m) H := rfl
theorem e_maxL {K : Fg} {xs : List V} {H : Hp} {Q : VK} : rMaxL K xs H Q = ∃ (p : Addr) (ns : List Int), xs = [.ref p] /\ SqL K H p (ns.map V.int) /\ 0 < ns.length /\ ∀ m, m ∈ ns -> (∀ a ∈ ns, a <= m) -> Q (.int m) H := rfl
theorem zdc (hc : X.calm = true) : CallR X (.builtin "max") (rMaxL X.K) := by
  intro pins s σ H xs us Q I r h;obtain ⟨p, ns, rfl, hq, hne, q⟩ := h;obtain ⟨u, rfl, rx⟩ := Vals.one r;cases rx;obtain ⟨its, rv, pl, hz⟩ := I.list hq;have hi : IntsAre its ns := zb5 rv;obtain ⟨zs, hx⟩ := hi.allInts.items;have hl' : s.heap.IsList p (intItems zs) := hx ▸ pl.isList
  have hns : ns = zs.toList.map (·.1) := by
    rw [<- nums_intItems, <- hx];exact (show numsOf its.toArray.toList = ns from hi.numsOf).symm
  have hsz : 0 < zs.size := by
    have h3 := hne; rw [hns, Za, Yj] at h3; exact h3
  refine max_intList (I.ok.hd hc) hl' hsz fun v h' tk hv hk => ?_
  obtain ⟨t, rfl⟩ := intItems_at hv;obtain ⟨h1, h2⟩ := argBest_gt (numAt zs) (zs.size - 1);refine ⟨V.int _, H, I.kept hk, ⟨_, rfl⟩, q _ ?_ fun a ha => ?_⟩
  . rw [hns, numAt_eq]; exact getD_mem (by rw [Za, Yj]; omega)
  . rw [hns] at ha
    obtain ⟨j, hj, rfl⟩ := mem_getD ha;rw [Za, Yj] at hj;rw [<- numAt_eq]; exact h2 j (by omega)
end
end L2
namespace L2
open PySem PySem.Spec PyProof.Rows
section
variable {prog : Program} {w : World} {A : Around} {E : Value -> Shared -> Prop} {s : Shared}
end
section
variable {X : Cx}
end
end L2
namespace L2
open PySem PySem.Spec PyProof.Rows
def seen (val : Nat -> Str) : Nat -> List Str
  | 0 => []
  | i + 1 => if val i ∈ seen val i then seen val i else seen val i ++ [val i]
theorem cy (val : Nat -> Str) : ∀ i, (seen val i).length <= i
  | 0 => Zm _
  | i + 1 => by
    have := cy val i;unfold seen
    split
    . omega
    . rw [Zo, Yd]; omega
theorem zfj (val : Nat -> Str) (i : Nat) (k : Str) : (decide (k ∈ seen val i) || decide (k = val i)) = decide (k ∈ seen val (i + 1)) := by
  conv => rhs; unfold seen
  split
  . rename_i h
    by_cases e : k = val i
    . subst e; simp [h]
    . simp [e]
  . simp
theorem zcx (val : Nat -> Str) (i : Nat) : (if decide (val i ∈ seen val i) = true then (seen val i).length else (seen val i).length + 1) = (seen val (i + 1)).length := by
  conv => rhs; unfold seen
  by_cases h : val i ∈ seen val i
  . simp [h]
  . simp [h]
section
variable {prog : Program} {w : World} {A : Around} {R : Result -> Shared -> Prop} {I : Addr} {fp wr : List Addr} {G : Array GenState -> Array GenState -> Prop} {n : Nat} {P : Nat -> Value -> Prop} {St : Nat -> Shared -> Prop}
theorem bj (W : WalksS prog w A.in1 I fp wr G n P St) (T : Addr) (hT : T ∉ fp) (val : Nat -> Str) (hval : ∀ i v, P i v -> ∃ t, v = .str (val i) t) (hb : n + 1 < scanBound) :
    ∀ (k i : Nat) (s : Shared), n - i = k -> i <= n -> St i s -> s.heap.SetOf (PySem.strKind prog w) T (fun k' => decide (k' ∈ seen val i)) (seen val i).length ->
      (∀ s', Moved (T :: wr) G s s' -> s'.heap.SetOf (PySem.strKind prog w) T (fun k' => decide (k' ∈ seen val n)) (seen val n).length -> R (.ok (.ret .none)) s') ->
      codeAny (model prog w) A (.builtin "set.update.loop" ⟨[.ref T, .ref I], []⟩) R s := by
  have hTw : T ∉ wr := fun h => hT (W.sub _ h)
  have sub : ∀ b ∈ wr, b ∈ T :: wr := fun b h => Zv _ h
  intro k
  induction k with
  | zero =>
    intro i s hk hi hst hS hR;obtain rfl : i = n := by omega
    refine codeAny_builtin PyProof.Rows.F.entry_set_update_loop ?_;rw [Around.under_plainId PyProof.Rows.F.plain_set_update_loop _]
    show wpAny _ A.in1 (pyNext (.ref I) >>= _) _ _ s
    refine wpAny_bind (W.done s _ _ hst fun s' hm => ?_);refine wpAny_pure (hR s' (hm.mono sub) ?_);obtain ⟨o, es, ep, t, ho, r⟩ := hS;exact ⟨o, es, ep, t, hm.heap T _ hTw ho, r⟩
  | succ k ih =>
    intro i s hk hi hst hS hR;have hlt : i < n := by omega
    refine codeAny_builtin PyProof.Rows.F.entry_set_update_loop ?_;rw [Around.under_plainId PyProof.Rows.F.plain_set_update_loop _]
    show wpAny _ A.in1 (pyNext (.ref I) >>= _) _ _ s
    refine wpAny_bind (W.item i s _ _ hlt hst fun v s' hP hst' hm => ?_);obtain ⟨t, rfl⟩ := hval i v hP
    have hS' : s'.heap.SetOf (PySem.strKind prog w) T (fun k' => decide (k' ∈ seen val i)) (seen val i).length := by
      obtain ⟨o, es, ep, tb, ho, r⟩ := hS;exact ⟨o, es, ep, tb, hm.heap T _ hTw ho, r⟩
    show wpAny _ A.in1 (holding [Value.str (val i) t] (setAdd T (.str (val i) t)) >>= _) _ _ s'
    refine wpAny_bind (wpAny_holding ?_);unfold setAdd;refine wpAny_holding (wpAny_bind ((PySem.strKind prog w).pyHash (k := val i) (strKind_is _ _ _ _) ?_));have room : (seen val i).length + 1 < scanBound := by have := cy val i; omega
    refine wpAny_setAddHashed_of (knd := PySem.strKind prog w) (s := { s' with toks := s'.toks + 1 }) (strKind_is _ _ _ _) rfl hS' room fun h' hsb hS2 => ?_
    have hSi : h'.SetOf (PySem.strKind prog w) T (fun k' => decide (k' ∈ seen val (i + 1))) (seen val (i + 1)).length := by
      have e1 := zcx val i;have e2 : (fun k' => decide (k' ∈ seen val (i + 1))) = fun k' => (decide (k' ∈ seen val i) || decide (k' = val i)) := funext fun k' => (zfj val i k').symm
      rw [<- e1, e2];exact hS2
    refine wpAny_pure ⟨plainId_quiet PyProof.Rows.F.plain_set_update_loop _, ih (i + 1) _ (by omega) hlt (W.frame _ s' _ _ hst' (YO _) fun b hb o e => ?_) hSi fun s2 hm2 hS2' => ?_⟩
    . rw [hsb.2 b (fun z : b = T => hT (z ▸ hb))]; exact e
    . refine hR s2 (Moved.trans W.gtrans ((hm.mono sub).then_heap (YO _) fun b o hb e => ?_) hm2) hS2'
      rw [hsb.2 b (fun z : b = T => hb (z ▸ ZA))]; exact e
end
abbrev setO (led : Bool) : Obj := { cls := .type "set", dict := none, data := .set #[] 0 (.fresh 0 0 led) }
section
variable {prog : Program} {w : World} {A : Around} {E : Value -> Shared -> Prop} {s : Shared}
def zbt (prog : Program) (w : World) (s : Shared) (val : Nat -> Str) (n : Nat) (h' : Heap) : Prop :=
  h'.SetOf (PySem.strKind prog w) s.heap.objs.size (fun k' => decide (k' ∈ seen val n)) (seen val n).length /\ ∀ b o, b < s.heap.objs.size -> s.heap.get? b = some o -> h'.get? b = some o
set_option maxHeartbeats 3200000 in
theorem dz {l : Addr} {items : Array Value} {val : Nat -> Str} {Q : Value -> Shared -> Prop} (hh : A.handled = none) (hl : s.heap.IsList l items) (hv : ∀ (i : Nat) v, items[i]? = some v -> ∃ t, v = .str (val i) t) (hb : items.size + 1 < scanBound)
    (h : ∀ (h' : Heap) (tk : Nat), zbt prog w s val items.size h' -> Q (.ref s.heap.objs.size) { s with heap := h', toks := tk }) : wpAny (model prog w) A (call (.type "set") [.ref l]) Q E s := by
  obtain ⟨c, tl, hmro⟩ := F.called_set.mro;have hmade := F.called_set.made;have hsub := F.called_set.sub;refine wpAny_call (codeAny_of_tree ?_)
  show wpAny _ _ (callAny (.type "set") _) _ _ _
  refine wpAny_pure ⟨Code.quiet_builtin _ (by decide +kernel), codeAny_builtin F.entry_type_call ?_⟩;rw [Around.under_plain (weight_type_call_type "set" [.ref l] []) rfl];have h1 := F.called_set.notType;have h2 := F.called_set.canCreate;have hct := F.typeCall_set_1 (.ref l)
  repeat (any_goals (first | assumption | wp_step))
  refine codeAny_mono (code_set_new_1 (.ref l) (E := E) (Q₁ := fun obj s₁ => ∃ led : Bool, obj = .ref s.heap.objs.size /\ s₁ = { s with heap := s.heap.push (setO led) }) fun led => ⟨led, rfl, rfl⟩) fun r s₁ hr => ?_
  match r, hr with
  | .error e, hr => exact hr
  | .ok .next, hr => exact hr.elim
  | .ok .brk, hr => exact hr.elim
  | .ok .cont, hr => exact hr.elim
  | .ok (.ret obj), hr =>
    obtain ⟨led, rfl, rfl⟩ := hr;have hS : (s.heap.push (setO led)).get? s.heap.objs.size = some (setO led) := Heap.get?_push_size _ rfl;have hT : Shared.TypeIs { s with heap := s.heap.push (setO led) } (.ref s.heap.objs.size) "set" := ⟨_, hS, rfl⟩;have hli := F.called_set.init.lookup;have hbi := F.called_set.init.bind (.ref s.heap.objs.size)
    repeat (any_goals (first | assumption | wp_step))
    refine codeAny_mono (codeAny_call_builtin (R := wants (fun r s₂ => r = .none /\ ∃ h' tk, s₂ = { s with heap := h', toks := tk } /\ zbt prog w s val items.size h') E) F.called_set.init.plain F.entry_set_init (check_set_init_1 hT ?_)) fun r₂ s₂ hr₂ => ?_
    . obtain ⟨ol, hol, hcl, nl, hdl⟩ := id hl
      have hl1 : (s.heap.push (setO led)).IsList l items := hl.push _;obtain ⟨ocls, odict, odata, oslots⟩ := ol;simp only at hcl hdl;subst hcl; subst hdl;have hol' : (s.heap.push (setO led)).get? l = some { cls := .type "list", dict := odict, data := .seq items nl, slots := oslots } := Heap.get?_push_of_some _ hol;have hsls := F.sub_list_set;have hslf := F.sub_list_frozenset;have hne : (Value.type "list" == Value.type "dict") = false := by decide
      unfold Builtin.«set.__init__» noKeywords Builtin.Frozenset.updateFrom;generalize hPI : pyIter = PI
      wp_walk
      subst hPI;refine wpAny_pyIter_list hl1 ?_;refine wpAny_bind (wpAny_runValue ?_);have hlS : l < s.heap.objs.size := Heap.lt_size hol;have hsz : (s.heap.push (setO led)).objs.size = s.heap.objs.size + 1 := size_push' ..;have hneI : l ≠ (s.heap.push (setO led)).objs.size := by rw [hsz]; exact Zs (Yz hlS)
      have hSf : s.heap.objs.size ∉ [(s.heap.push (setO led)).objs.size, l] := by
        rw [hsz];simp only [ZK, Zx, or_false, not_or];exact ⟨Zs (Yt _), Yp hlS⟩
      refine bj ((Walks.list (by simp [hh]) _ l hneI items).toS) s.heap.objs.size hSf val hv hb (items.size - 0) 0 _ (by omega) (ZE _) ⟨⟨_, Heap.get?_push_size _ rfl, rfl, rfl⟩, hl1.push _⟩ ?_ ?_
      . have hget : ((s.heap.push (setO led)).push { cls := .type "list_iterator", data := .fields #[.ref l, .int 0 0] }).get? s.heap.objs.size = some (setO led) := Heap.get?_push_of_some _ hS
        exact (PyProof.Rows.setObjOf_fresh (knd := PySem.strKind prog w) led).setOf hget (by unfold scanBound; omega)
      . intro s' hm hS'
        rw [Moved.eq_with hm];refine wpAny_pure ?_;refine wpAny_pure ⟨rfl, s'.heap, s'.toks, rfl, hS', fun b o hb e => hm.heap b o ?_ (Heap.get?_push_of_some _ (Heap.get?_push_of_some _ e))⟩;rw [hsz];simp only [ZK, Zx, or_false, not_or];exact ⟨Zs hb, Zs (Yz hb)⟩
    . match r₂, hr₂ with
      | .error e, hr₂ => exact hr₂
      | .ok .next, hr₂ => exact hr₂.elim
      | .ok .brk, hr₂ => exact hr₂.elim
      | .ok .cont, hr₂ => exact hr₂.elim
      | .ok (.ret r), hr₂ =>
        obtain ⟨rfl, h', tk, rfl, hd⟩ := hr₂
        repeat (any_goals (first | assumption | wp_step))
        exact h _ _ hd
end
end L2
namespace L2
open PySem PySem.Spec PyProof.Rows
theorem zfh {zs : List Str} {us : List Value} (r : Vals (zs.map V.str) us) (i : Nat) (v : Value) (h : us[i]? = some v) : ∃ t, v = .str (zs.getD i ⟨#[]⟩) t := by
  have hl := r.length;rw [Za] at hl;have hi : i < zs.length := by rw [hl]; exact (Zc.mp h).1
  obtain ⟨u, hu, ru⟩ := r.get (i := i) (x := V.str zs[i]) (by simp [hi]);rw [h] at hu;cases hu;obtain ⟨t, rfl⟩ := ru;exact ⟨t, by simp [Zk, hi]⟩
section
variable {X : Cx}
def za5 (K : Fg) (t : TA) : TE := fun σ H Q => t σ H fun vs H1 => ∃ (p : Addr) (zs : List Str), vs = [.ref p] /\ SqL K H1 p (zs.map V.str) /\ zs.length <= 1000 /\ Q (.int (seen (fun i => zs.getD i ⟨#[]⟩) zs.length).length) H1
theorem zf1 {K : Fg} {t : TA} {σ : St} {H : Hp} {Q : VK} : za5 K t σ H Q = t σ H fun vs H1 => ∃ (p : Addr) (zs : List Str), vs = [.ref p] /\ SqL K H1 p (zs.map V.str) /\ zs.length <= 1000 /\ Q (.int (seen (fun i => zs.getD i ⟨#[]⟩) zs.length).length) H1 := rfl
theorem zeq {e : Expr} {t : TA} {p1 p2 q1 q2 : Pos} (hc : X.calm = true) (hgL : Gl X "len") (hmL : X.mg "len" = none) (hgR : Gl X "set") (hmR : X.mg "set" = none) (ha : PA X [e] t)
    (he : starEach [e] X.env = (false, eval e X.env) :: starEach [] X.env := by rfl) (he2 : starEach [.Call (.Name "set" p2) [e] [] q2] X.env = (false, eval (.Call (.Name "set" p2) [e] [] q2) X.env) :: starEach [] X.env := by rfl) :
    PE X (.Call (.Name "len" p1) [.Call (.Name "set" p2) [e] [] q2] [] q1) (za5 X.K t) := by
  intro pins s σ H Q I h;refine wpAny_Call_Name_kw (mt I hgL hmL yz ?_);refine PyProof.Rows.callWith_builtin1 ?_ he2 rfl;rw [he2]
  show wpAny _ _ (spliced ((false, eval (.Call (.Name "set" p2) [e] [] q2) X.env) :: backTo q1 (starEach [] X.env))) _ _ s
  refine Calls.spliced_cons ?_;refine wpAny_Call_Name_kw (mt I hgR hmR bt_set ?_);refine PyProof.Rows.callWith_type1 (thn (ha q2 pins s σ H _ I h) fun us s1 ⟨vs, H1, I1, r1, q⟩ => ?_) he rfl;obtain ⟨p, zs, rfl, hq, hz, q⟩ := q;obtain ⟨u, rfl, rx⟩ := Vals.one r1;cases rx;obtain ⟨its, rv, pl, _⟩ := I1.list hq;have hlen : its.length = zs.length := by have := rv.length; rw [Za] at this; exact this.symm
  refine dz (val := fun i => zs.getD i ⟨#[]⟩) (I1.ok.hd hc) pl.isList (fun i v hv => zfh rv i v (by simpa using hv)) (by rw [Zr, hlen]; exact Yn (YX hz) (by decide)) fun h' tk hd => ?_
  refine Calls.spliced_nil ?_;obtain ⟨hS, kp⟩ := hd;rw [show its.toArray.size = zs.length by rw [Zr, hlen]] at hS;have I2 : Inv X pins σ H1 { s1 with heap := h', toks := tk } := I1.kept fun b o e => kp b o (Heap.lt_size e) e
  obtain ⟨o, es, ep, t, ho, ex, hd, _, _, hz2, hf, hn⟩ := hS;have h3 : ((es.size : Nat) : Int) < 2 ^ 63 := by unfold scanBound at hz2; omega
  refine call_len_set ho ex hd hf h3 ⟨.int es.size, H1, I2.tok _, ⟨_, rfl⟩, ?_⟩;rw [hn];exact q
def rLeS (x y : V) (H : Hp) (Q : VK) : Prop := ∃ i j, x = .str i /\ y = .str j /\ Q (.bl (!decide (j.cps.toList < i.cps.toList))) H
theorem e_leS {x y : V} {H : Hp} {Q : VK} : rLeS x y H Q = ∃ i j, x = .str i /\ y = .str j /\ Q (.bl (!decide (j.cps.toList < i.cps.toList))) H := rfl
theorem gu : OpR X (compareOp .LtE) rLeS := by
  intro pins s σ H x y v u Q I rx ry h;obtain ⟨i, j, rfl, rfl, q⟩ := h;obtain ⟨t, rfl⟩ := rx;obtain ⟨t', rfl⟩ := ry;exact PySem.P.le_str (yl I q rfl)
end
section
variable {σ : St} {k : Nat} {g : TG} {tt : TT} {te : TE} {H1 : Hp} {Fin : List V -> Hp -> Prop}
theorem cu {z : Str} (Pv : Nat -> List V -> Hp -> Prop) (h0 : Pv 0 [] H1) (hz : ∀ i ys H, i <= z.cps.size -> Pv i ys H -> ys.length <= sizeLine)
    (hs : ∀ i c ys H, z.cps[i]? = some c -> Pv i ys H -> g (.str (chr1 c)) (List.replicate k none ++ σ) H fun σ2 H2 => σ2.drop k = σ /\ tt σ2 H2 fun b H3 => if b = true then te σ2 H3 fun v H4 => Pv (i + 1) (ys ++ [v]) H4 else Pv (i + 1) ys H3)
    (hd : ∀ ys H, Pv z.cps.size ys H -> Fin ys H) : oy (Itw z) σ k g tt te H1 Fin := by
  refine ⟨fun i m ys H => m = z.cps.size - i /\ i <= z.cps.size /\ Pv i ys H, ⟨z.cps.size, by simp, ZE _, h0⟩, ?_⟩
  rintro i m ys H ⟨rfl, hi, p⟩
  refine ⟨hz i ys H hi p, ?_⟩
  by_cases hlt : i < z.cps.size
  . refine .inr ⟨hlt, Pv (i + 1), fun ys' H' p' => ⟨z.cps.size - (i + 1), by omega, rfl, hlt, p'⟩, fun x H' y => ?_⟩
    obtain ⟨e, c, e2, y⟩ := y;subst e y;exact hs i c ys _ e2 p
  . have e : i = z.cps.size := by omega
    subst e;exact .inl ⟨Zm _, hd ys H p⟩
end
def jg : List Int -> List V
  | [] => []
  | i :: is => .int i :: jg is
theorem e_vI0 : jg [] = [] := rfl
theorem e_vI {i : Int} {is : List Int} : jg (i :: is) = .int i :: jg is := rfl
def tInts (ns : List Int) : TA := fun _ H Q => Q (jg ns) H
theorem e_ints {ns : List Int} {σ : St} {H : Hp} {Q : List V -> Hp -> Prop} : tInts ns σ H Q = Q (jg ns) H := rfl
end L2
namespace L2
open PySem PySem.Spec PyProof.Rows
section
variable {X : Cx}
def rIsB (x y : V) (H : Hp) (Q : VK) : Prop := ∃ b c, x = .bl b /\ y = .bl c /\ Q (.bl (b == c)) H
theorem e_isB {x y : V} {H : Hp} {Q : VK} : rIsB x y H Q = ∃ b c, x = .bl b /\ y = .bl c /\ Q (.bl (b == c)) H := rfl
end
end L2
namespace L2
open PySem PySem.Spec PyProof.Rows
theorem za0 {α : Type} {l : List α} {k : Nat} {x : α} (h : l[k]? = some x) : l.drop k = x :: l.drop (k + 1) := by
  obtain ⟨hk, e⟩ := Zc.mp h;rw [List.drop_eq_getElem_cons hk, e]
theorem qe {X : Cx} {body : List Stmt} {k : Nat} {st : Stmt} {t ts : TS} (hs : PS X st t) (h : body[k]? = some st) (hr : PSs X (body.drop (k + 1)) ts) : PSs X (body.drop k) (tSeq t ts) := by
  rw [za0 h];exact ze hs hr
theorem zgk {X : Cx} {body : List Stmt} {k : Nat} {st : Stmt} {t : TS} (hs : PS X st t) (h : body[k]? = some st) (hl : body[k + 1]? = none) : PSs X (body.drop k) t := by
  rw [za0 h, List.drop_eq_nil_of_le (Yw.mp hl)];exact zf hs
theorem zgl {X : Cx} {body : List Stmt} {t : TS} (h : PSs X (body.drop 0) t) : PSs X body t := h
end L2
namespace L2
open PySem PySem.Spec PyProof.Rows
section
variable {prog : Program} {w : World} {A : Around} {E : Value -> Shared -> Prop} {s : Shared}
theorem ze9 {t b : Addr} {vs ws : List Value} {Q : Value -> Shared -> Prop} (ht : IsTup s.heap t vs.toArray) (hb : IsTup s.heap b ws.toArray) (hv : vs = []) (h0 : Q (.ref b) s) :
    wpAny (model prog w) A (binaryOp .Add (.ref t) (.ref b)) Q E s := by
  obtain ⟨⟨cls, dd, data, sl⟩, ho, hc, n, hd⟩ := id ht;obtain ⟨⟨cls2, dd2, data2, sl2⟩, ho2, hc2, n2, hd2⟩ := id hb;simp only at hc hd hc2 hd2;subst hc hd hc2 hd2
  exact concat_meets ⟨_, ho, rfl⟩ ⟨_, ho2, rfl⟩ noFill_tuple_add seq_tuple_add PySem.F.slot_tuple_add PySem.F.entry_tuple_add (PySem.F.args_tuple_add_2 _ _)
    (tuple_addW0 t b vs.toArray ws.toArray n n2 dd dd2 sl sl2 (by simp [hv])) ⟨ho, ho2, h0⟩
end
theorem ze2 {H : Hp} {a : Addr} {o : HO} (n : H a = none) : Same H (upd H a o) := fun b u e => by
  rw [z8 (fun z => by rw [z, n] at e; cases e)]; exact e
section
variable {X : Cx}
def rCatH : R2 := fun x y H Q => ∃ a b xs ys, x = .ref a /\ y = .ref b /\ H a = some (.tup xs) /\ H b = some (.tup ys) /\ xs.length + ys.length <= sizeLine /\ ∀ H' p, Same H H' -> H' p = some (.tup (xs ++ ys)) -> Q (.ref p) H'
theorem e_catH {x y : V} {H : Hp} {Q : VK} : rCatH x y H Q = ∃ a b xs ys, x = .ref a /\ y = .ref b /\ H a = some (.tup xs) /\ H b = some (.tup ys) /\ xs.length + ys.length <= sizeLine /\ ∀ H' p, Same H H' -> H' p = some (.tup (xs ++ ys)) -> Q (.ref p) H' := rfl
theorem zaz : OpR X (binaryOp .Add) rCatH := by
  intro pins s σ H x y v u Q I rx ry h;obtain ⟨a, b, xs, ys, rfl, rfl, ha, hb, hz, q⟩ := h
  by_cases e1 : xs = []
  . subst e1
    cases rx;cases ry;obtain ⟨its, r1, p1, _⟩ := I.tuple (SqT.of ha);obtain ⟨its2, r2, p2, _⟩ := I.tuple (SqT.of hb);exact ze9 p1 p2 (r1.nil_iff.mpr rfl) ⟨.ref b, H, I, rfl, q H b (Same.refl _) hb⟩
  . refine zgr pins s σ H (.ref a) (.ref b) v u Q I rx ry ⟨a, b, xs, ys, rfl, rfl, .of ha, .of hb, e1, hz, fun e2 => ?_, fun e2 p hp => ?_⟩
    . subst e2
      exact q H a (Same.refl _) (by rw [ha, ZO])
    . exact q _ p (ze2 hp) zc
theorem ze8 {x : V} {vs : List V} {H : Hp} {Q : VK} : zbl x vs H Q = ∃ l b xs zs, x = .ref l /\ vs = [.ref b] /\ H l = some (.lst xs) /\ H b = some (.lst zs) /\ xs.length + zs.length <= sizeLine /\ Q .non (upd H l (.lst (xs ++ zs))) := rfl
end
section
open HT
variable {prog : Program} {w : World} {A : Around} {E : Value -> Shared -> Prop} {s : Shared}
end
section
variable {X : Cx}
def rSlH : V -> Option Int -> Option Int -> Hp -> VK -> Prop := fun x lo hi H Q => ∃ a xs, x = .ref a /\ H a = some (.tup xs) /\ ∀ H' p, Same H H' -> H' p = some (.tup (cutV xs lo hi)) -> Q (.ref p) H'
theorem e_slH {x : V} {lo hi : Option Int} {H : Hp} {Q : VK} : rSlH x lo hi H Q = ∃ a xs, x = .ref a /\ H a = some (.tup xs) /\ ∀ H' p, Same H H' -> H' p = some (.tup (cutV xs lo hi)) -> Q (.ref p) H' := rfl
theorem e_slT {K : Fg} {x : V} {lo hi : Option Int} {H : Hp} {Q : VK} : rSlT K x lo hi H Q = ∃ a xs, x = .ref a /\ SqT K H a xs /\ ¬ (HT.sIx xs.length 0 lo = 0 /\ HT.sIx xs.length xs.length hi = xs.length) /\ ∀ p, H p = none -> Q (.ref p) (upd H p (.tup (cutV xs lo hi))) := rfl
theorem k6 {xs : List V} {k : Nat} (h : k <= xs.length) : cutV xs (some (k : Int)) none = xs.drop k := by
  unfold cutV;rw [HT.sIx_none, HT.sIx_nat, Xc h];exact ZG (by rw [ZU]; omega)
end
end L2
namespace L2
open PySem PySem.Spec PyProof.Rows
section
variable {σ : St} {k : Nat} {g : TG} {tt : TT} {te : TE} {H1 : Hp} {Fin : List V -> Hp -> Prop}
end
end L2
namespace L2
open PySem PySem.Spec PyProof.Rows
section
variable {X : Cx}
structure FirstAt (xs : List V) (y : V) (j : Nat) : Prop where
  flat : xf y = true
  flats : xs.all xf = true
  hit : ∃ z, xs[j]? = some z /\ eqV z y = true
  no : ∀ (m : Nat) (z : V), m < j -> xs[m]? = some z -> eqV z y = false
theorem FirstAt.lt {xs : List V} {y : V} {j : Nat} (h : FirstAt xs y j) : j < xs.length := by
  obtain ⟨z, e, _⟩ := h.hit;exact (Zc.mp e).1
theorem zeb {xs : List V} {us : List Value} {y z : V} {m : Nat} (r : Vals xs us) (fs : xs.all xf = true) (e : xs[m]? = some z) (hm : m < us.toArray.size) : eqU y us.toArray[m] = eqV z y := by
  obtain ⟨w, hw, rw'⟩ := r.get e
  have : us.toArray[m] = w := by
    have h2 := (Zc.mp hw).2
    simpa using h2
  rw [this];exact im rw' (ZR.mp fs _ (Zi e))
def zg3 (K : Fg) : V -> List V -> Hp -> VK -> Prop := fun x vs H Q => ∃ p xs y j, x = .ref p /\ vs = [y] /\ SqT K H p xs /\ FirstAt xs y j /\ Q (.int (j : Nat)) H
def zbe (K : Fg) : V -> List V -> Hp -> VK -> Prop := fun x vs H Q => ∃ p xs y j, x = .ref p /\ vs = [y] /\ SqL K H p xs /\ FirstAt xs y j /\ Q (.int (j : Nat)) H
theorem zfo {K : Fg} {x : V} {vs : List V} {H : Hp} {Q : VK} : zg3 K x vs H Q = ∃ p xs y j, x = .ref p /\ vs = [y] /\ SqT K H p xs /\ FirstAt xs y j /\ Q (.int (j : Nat)) H := rfl
theorem zf0 {K : Fg} {x : V} {vs : List V} {H : Hp} {Q : VK} : zbe K x vs H Q = ∃ p xs y j, x = .ref p /\ vs = [y] /\ SqL K H p xs /\ FirstAt xs y j /\ Q (.int (j : Nat)) H := rfl
theorem zd7 : MtR X "list.index" (zbe X.K) := by
  intro pins s σ H x vs v us Q I rx rvs h;obtain ⟨p, xs, y, j, rfl, rfl, hq, hF, q⟩ := h;cases rx;obtain ⟨u, rfl, ru⟩ := qy rvs;obtain ⟨its, r, pl, hz⟩ := I.list hq;obtain ⟨⟨cls, dd, data, sl⟩, ho, hc, n, hd⟩ := id pl.isList;simp only at hc hd;subst hc hd;have hl := r.length;have hjl : j < its.toArray.size := by rw [Zr, <- hl]; exact hF.lt
  have hn := mq;obtain ⟨z, e, hit⟩ := hF.hit;refine call_meets PySem.F.slot_list_index ⟨_, ho, rfl⟩ PySem.F.entry_list_index (PySem.F.args_list_index_2 _ _) (SeqAt.list_indexAt p its.toArray n dd sl u (eqU y) j hjl (by have := hF.lt; omega) ?_ ?_) ⟨ho, fun w hw => ue ru hF.flat r hF.flats w (by simpa using hw), ⟨.int j, H, I.tok _, ⟨_, rfl⟩, q⟩⟩
  . rw [zeb r hF.flats e]; exact hit
  . intro m hm hmj
    have hml : m < xs.length := by rw [hl]; simpa using hm
    rw [zeb r hF.flats (Zb hml)];exact hF.no m _ hmj (Zb hml)
end
section
variable {X : Cx}
theorem hu10 {A : Around} {k : Nat} (hr : Room k A) : A.units + 1 < cLine := by have := hu9 hr; omega
def rInK (neg : Bool) : R2 := fun y x H Q => ∃ a o, x = .ref a /\ DGet H a y o /\ Q (.bl (neg ^^ o.isSome)) H
theorem e_inK {neg : Bool} {y x : V} {H : Hp} {Q : VK} : rInK neg y x H Q = ∃ a o, x = .ref a /\ DGet H a y o /\ Q (.bl (neg ^^ o.isSome)) H := rfl
theorem zd1 (hu : X.A.units + 1 < cLine) : OpR X (compareOp .NotIn) (rInK true) := by
  intro pins s σ H x y v u Q I rx ry h;obtain ⟨a, o, rfl, g, q⟩ := h;cases ry;exact zhc hu I g rx fun s3 I3 => ⟨.bl (!o.isSome), H, I3, rfl, by simpa using q⟩
def rSetD : TSet := fun o i v H Q => ∃ a H', o = .ref a /\ DPut H a i v H' /\ Q H'
theorem e_setD {o i v : V} {H : Hp} {Q : Hp -> Prop} : rSetD o i v H Q = ∃ a H', o = .ref a /\ DPut H a i v H' /\ Q H' := rfl
theorem zgj {σ : St} {H : Hp} {Q : VK} : tDNewT σ H Q = ∀ p, H p = none -> Q (.ref p) (upd H p (.dT [])) := rfl
theorem e_dget {td ty : TE} {σ : St} {H : Hp} {Q : VK} : tDGet td ty σ H Q = td σ H fun x H1 => ty σ H1 fun y H2 => ∃ a v, x = .ref a /\ DGet H2 a y (some v) /\ Q v H2 := rfl
end
end L2
namespace L2
open PySem PySem.Spec PyProof.Rows
section
variable {X : Cx}
def tBMT (r : V -> List V -> Hp -> VK -> Prop) (to : TE) (t : TA) : TE := fun σ H Q => to σ H fun x H1 => (∃ p xs, x = .ref p /\ Rd H1 p (.tup xs)) /\ t σ H1 fun xs H2 => r x xs H2 Q
theorem e_BMT {r : V -> List V -> Hp -> VK -> Prop} {to : TE} {t : TA} {σ : St} {H : Hp} {Q : VK} : tBMT r to t σ H Q = to σ H fun x H1 => (∃ p xs, x = .ref p /\ Rd H1 p (.tup xs)) /\ t σ H1 fun xs H2 => r x xs H2 Q := rfl
theorem zd6 {o e : Expr} {es : List Expr} {to : TE} {t : TA} {name : Str} {apos cpos : Pos} {id : String} {r : V -> List V -> Hp -> VK -> Prop} (pa : PlainAttrs "tuple") (slot : Slot "tuple" name id) (hty : typeOf (.builtin id) = pure (.type "method_descriptor")) (hm : MtR X id r) (ho : PE X o to) (ha : PA X (e :: es) t)
    (hbase : attributeBase o name X.env (eval o X.env) = eval o X.env := by rfl)
    (hfew : ((backTo cpos (starEach (e :: es) X.env)).all (fun x => !x.1) && (backToKw cpos (keywordEach [] X.env)).all (fun x => x.1.isSome)
      && decide ((e :: es).length + ([] : List Keyword).length + (if ([] : List Keyword).isEmpty then 0 else 1) < 30)) = true := by rfl)
    (hline : (apos.endLine == cpos.line) = true := by rfl) (hs : starEach (e :: es) X.env = (false, eval e X.env) :: starEach es X.env := by rfl) (hplain : (backTo cpos (starEach es X.env)).any (·.1) = false := by rfl) :
    PE X (.Call (.Attribute o name apos) (e :: es) [] cpos) (tBMT r to t) := by
  intro pins s σ H Q I h;refine wpAny_Call_method_late hbase hfew hline rfl (thn (ho pins s σ H _ I h) fun v s1 ⟨x, H1, I1, r1, ⟨p, ys, ex, hp⟩, q1⟩ => ?_);subst ex;obtain rfl : v = Value.ref p := r1;obtain ⟨z, its, rr, ob, e1, c1, n1, d1, f1⟩ := (show ObjOk X.prog X.w H1 s1.heap p (.tup ys) from hp.ok I1.hok);have h1 : s1.TypeIs (.ref p) "tuple" := ⟨ob, e1, c1⟩
  have h2 : ∀ a, Value.ref p = .ref a -> ∃ ob, s1.heap.get? a = some ob /\ ob.dict = none := fun a e => by
    cases e;exact ⟨ob, e1, f1⟩
  refine ⟨"tuple", id, pa, slot, hty, h1, h2, ?_⟩;have hA := ha cpos pins s1 σ H1 _ I1 q1;rw [hs] at hA ⊢;refine Calls.callWith_builtin (by show (false || (backTo cpos (starEach es X.env)).any (·.1)) = false; rw [hplain] <;> rfl) (Calls.evalArgs_plain ?_);exact thn hA fun us s2 ⟨vs, H2, I2, r2, q2⟩ => hm pins s2 σ H2 (.ref p) vs (.ref p) us Q I2 rfl r2 q2
end
end L2
namespace L2
open PySem PySem.Spec PyProof.Rows
theorem zbc {i : Int} {n : Nat} (h1 : -(2 ^ n) < i) (h2 : i < 2 ^ n) : Builtin.Int.intBits i <= n := by
  unfold Builtin.Int.intBits
  split
  . exact ZE _
  . rename_i h
    have h0 : i ≠ 0 := fun e => h (by rw [e]; rfl)
    have hn : i.natAbs < 2 ^ n := by
      have e : ((2 ^ n : Nat) : Int) = (2 : Int) ^ n := by rw [Int.natCast_pow]; rfl
      have : (i.natAbs : Int) < ((2 ^ n : Nat) : Int) := by rw [e]; omega
      exact_mod_cast this
    exact (Nat.log2_lt (by omega)).mpr hn
def CMulB (i j : Int) : Prop := (-(10 ^ 60) <= i /\ i <= 10 ^ 60) /\ -(10 ^ 60) <= j /\ j <= 10 ^ 60
theorem CMulB.ok {i j : Int} (h : CMulB i j) : IntMulOk i j := by
  have e : (10 : Int) ^ 60 < 2 ^ 200 := by decide
  obtain ⟨⟨a, b⟩, c, d⟩ := h;exact .of_bits (Zd (zbc (n := 200) (by omega) (by omega)) (by decide)) (Zd (zbc (n := 200) (by omega) (by omega)) (by decide))
end L2
namespace L2
open PySem
def SeqH (h : Heap) (l : Addr) (xs : Array Value) : Prop := ∃ o n, h.get? l = some o /\ o.data = .seq xs n
section
variable {prog : Program} {w : World} {A : Around} {E : Value -> Shared -> Prop} {s : Shared}
end
structure Drw where
  it : Addr
  l : Addr
  xs : Array Value
def DrAt (h : Heap) (d : Drw) (k : Nat) : Prop := (h.IsListIter d.it d.l k \/ h.IsTupleIter d.it d.l k) /\ SeqH h d.l d.xs
theorem DrAt.ext {h h' : Heap} {d : Drw} {k : Nat} (q : DrAt h d k) (h1 : ∀ o, h.get? d.it = some o -> h'.get? d.it = some o) (h2 : ∀ o, h.get? d.l = some o -> h'.get? d.l = some o) : DrAt h' d k := by
  obtain ⟨a, o', n, e', r'⟩ := q;refine ⟨?_, o', n, h2 o' e', r'⟩
  rcases a with ⟨o, e, r⟩ | ⟨o, e, r⟩
  . exact .inl ⟨o, h1 o e, r⟩
  . exact .inr ⟨o, h1 o e, r⟩
theorem DrAt.itAt {h : Heap} {d : Drw} {k : Nat} (q : DrAt h d k) : ∃ o, h.get? d.it = some o /\ o.data = .fields #[.ref d.l, .int k 0] := by
  rcases q.1 with ⟨o, e, c, r⟩ | ⟨o, e, c, r⟩ <;> exact ⟨o, e, r⟩
theorem DrAt.ne {h : Heap} {d : Drw} {k : Nat} (q : DrAt h d k) : d.l ≠ d.it := fun e => by
  obtain ⟨o, e1, r1⟩ := q.itAt;obtain ⟨o', n, e2, r2⟩ := q.2;rw [e, e1] at e2;cases e2;rw [r1] at r2;cases r2
section
variable {prog : Program} {w : World} {A : Around} {E : Value -> Shared -> Prop} {s : Shared}
end
def SrcAt (h : Heap) (b : Bool) (l : Addr) (xs : Array Value) : Prop := if b = true then h.IsList l xs else h.IsTuple l xs
def itObj (b : Bool) (l : Addr) : Obj := { cls := .type (if b = true then "list_iterator" else "tuple_iterator"), data := .fields #[.ref l, .int 0 0] }
theorem SrcAt.push {h : Heap} {b : Bool} {l : Addr} {xs : Array Value} (q : SrcAt h b l xs) (o : Obj) : SrcAt (h.push o) b l xs := by
  cases b
  . obtain ⟨p, e, r⟩ := (show h.IsTuple l xs from q)
    exact ⟨p, Heap.get?_push_of_some _ e, r⟩
  . obtain ⟨p, e, r⟩ := (show h.IsList l xs from q)
    exact ⟨p, Heap.get?_push_of_some _ e, r⟩
theorem DrAt.start {h : Heap} {b : Bool} {n l : Addr} {xs : Array Value} (e : h.get? n = some (itObj b l)) (q : SrcAt h b l xs) : DrAt h ⟨n, l, xs⟩ 0 := by
  cases b
  . obtain ⟨o, e', c, n, r⟩ := (show h.IsTuple l xs from q)
    exact ⟨.inr ⟨_, e, rfl, rfl⟩, o, n, e', r⟩
  . obtain ⟨o, e', c, n, r⟩ := (show h.IsList l xs from q)
    exact ⟨.inl ⟨_, e, rfl, rfl⟩, o, n, e', r⟩
theorem SrcAt.keeps {h h' : Heap} {b : Bool} {l : Addr} {xs : Array Value} (q : SrcAt h b l xs) (k : ∀ c o, h.get? c = some o -> h'.get? c = some o) : SrcAt h' b l xs := by
  cases b
  . obtain ⟨p, e, r⟩ := (show h.IsTuple l xs from q)
    exact ⟨p, k _ _ e, r⟩
  . obtain ⟨p, e, r⟩ := (show h.IsList l xs from q)
    exact ⟨p, k _ _ e, r⟩
section
variable {prog : Program} {w : World} {A : Around} {E : Value -> Shared -> Prop} {s : Shared}
end
end L2
namespace L2
open PySem PySem.Spec PyProof.Rows
section
variable {X : Cx} {pins : List (Addr × Obj)} {σ : St} {H : Hp} {s : Shared}
end
theorem Vals.three {x y z : V} {us : List Value} (r : Vals [x, y, z] us) : ∃ u v w, us = [u, v, w] /\ RelV x u /\ RelV y v /\ RelV z w := by
  cases r with
  | cons r1 r => cases r with
    | cons r2 r => cases r with
      | cons r3 r =>
        cases r;exact ⟨_, _, _, rfl, r1, r2, r3⟩
section
variable {σ : St} {k : Nat} {g : TG} {tt : TT} {te : TE} {H1 : Hp} {Fin : List V -> Hp -> Prop}
end
end L2
namespace L2
open PySem PySem.Spec PyProof.Rows
theorem dh : entryFor table "dict.update.loop" = some Builtin.«dict.update.loop» := entryFor_of_tree (by kernel_rfl)
theorem o7 : plainId "dict.update.loop" = true := by decide +kernel
theorem gz : typeLookup (.type "list") "keys" = pure none := by rw [typeLookup_type, builtinLookup_eq_fast]; kernel_rfl
theorem k7 {prog : Program} {w : World} {A : Around} {E : Value -> Shared -> Prop} {s : Shared} {a : Addr} {o : Obj} {xs : Array Value} {k : Nat} {Q : Option Value -> Shared -> Prop}
    (hx : s.heap.get? a = some o) (hc : o.cls = .type "list") (hdat : o.data = .seq xs k) (hd : o.dict = none) (hA : A.handled = none)
    (h : ∀ h' tk, (∀ b o, s.heap.get? b = some o -> h'.get? b = some o) -> Q none { s with heap := h', toks := tk }) :
    wpAny (model prog w) A (getAttr? (.ref a) "keys") Q E s := by
  obtain ⟨c, dct, dat, sl⟩ := o;simp only at hc hdat hd;subst hc hdat hd;obtain ⟨hp, g, d, tk, os⟩ := s;have hT : ∀ tk', (⟨hp, g, d, tk', os⟩ : Shared).TypeIs (.ref a) "list" := fun _ => ⟨_, hx, rfl⟩
  have f1 := sub_AttributeError;have f3 := F.slot_list_getattribute.lookup;have f4 := F.slot_list_getattribute.bind (.ref a);have f5 := am_list_getattr_none;unfold getAttr? getAttrBy? getAttrBy
  repeat (any_goals (first | assumption | exact hT _ | ((with_reducible show wpAny _ _ (call (Value.builtin "list.__getattribute__") _ _) _ _ _); refine call_meets F.slot_list_getattribute (hT _) am_entry_list_getattribute (F.args_list_getattribute_2 _ _) (meets_getattribute_miss_list a xs k sl "keys" _ gz (by decide) (by decide)) ⟨hx, hA, fun h' tk' e hx' => ?_⟩) | wp_step))
  obtain ⟨t', u', he⟩ := hx'.there
  show wpAny _ _ (getattributeRaised _ _ _ _ _ _ _) _ _ _
  unfold getattributeRaised
  repeat (any_goals (first | assumption | wp_step))
  exact h _ _ hx'.keeps
section
variable {prog : Program} {w : World} {K : Type} [DecidableEq K] {knd : KeyKind prog w K}
def accH (ps : List (List K × Addr × Value)) (i : Nat) : List (List K × Addr × Value) := (ps.take i).foldl (fun xs p => storedH xs p.1 p.2.1 p.2.2) []
theorem zad {G : List K -> Addr -> Prop} {xs : List (List K × Addr × Value)} {k : List K} {b : Addr} {v : Value} (h : ∀ x ∈ xs, G x.1 x.2.1) (hk : G k b) : ∀ x ∈ storedH xs k b v, G x.1 x.2.1 := by
  unfold storedH
  split
  . intro x hx
    obtain ⟨y, hy, rfl⟩ := Zp.mp hx;unfold putAt
    split
    . exact h y hy
    . exact h y hy
  . intro x hx
    rcases ZH.mp hx with hx | hx
    . exact h x hx
    . rw [ZC.mp hx]; exact hk
theorem ja {ps : List (List K × Addr × Value)} {i : Nat} {p : List K × Addr × Value} (h : ps[i]? = some p) : accH ps (i + 1) = storedH (accH ps i) p.1 p.2.1 p.2.2 := by
  unfold accH;rw [Zq, h];simp
theorem az (xs : List (List K × Addr × Value)) (k : List K) (b : Addr) (v : Value) : (storedH xs k b v).length <= xs.length + 1 := by
  unfold storedH
  split
  . rw [Za]; omega
  . rw [Zo]; simp
theorem ap (ps : List (List K × Addr × Value)) : ∀ i, i <= ps.length -> (accH ps i).length <= i
  | 0, _ => Zm _
  | i + 1, h => by
    have e : ps[i]? = some ps[i] := Zb h;rw [ja e];exact Zd (az _ _ _ _) (YX (ap ps i (by omega)))
structure ft (knd : KeyKind prog w K) (h : Heap) (items : Array Value) (ps : List (List K × Addr × Value)) : Prop where
  len : items.size = ps.length
  at' : ∀ (i : Nat) (p : List K × Addr × Value), ps[i]? = some p -> ∃ T, items[i]? = some (.ref T) /\ h.IsTuple T #[.ref p.2.1, p.2.2] /\ (tupleKind knd).is h p.1 p.2.1
theorem isK {h h' : Heap} {ks : List K} {a : Addr} (q : (tupleKind knd).is h ks a) (k : ∀ o, h.get? a = some o -> h'.get? a = some o) : (tupleKind knd).is h' ks a := by
  obtain ⟨o, its, n, e, r⟩ := q;exact ⟨o, its, n, k o e, r⟩
theorem l6 {h h' : Heap} {d : Addr} {xs : List (List K × Addr × Value)} (q : h.DictOfH (tupleKind knd) d xs) (hd : ∀ o, h.get? d = some o -> h'.get? d = some o) (hx : ∀ x ∈ xs, (tupleKind knd).is h' x.1 x.2.1) : h'.DictOfH (tupleKind knd) d xs := by
  obtain ⟨o, es, ep, ho, hc, hdat, he, _, hn⟩ := q;exact ⟨o, es, ep, hd o ho, hc, hdat, he, hx, hn⟩
theorem zdf {A : Around} {hB : Heap} {g : Array GenState} {dr : Drawn} {os : OsState} {d it l : Addr} {items : Array Value} {ps : List (List K × Addr × Value)} {R : Result -> Shared -> Prop} (hA : A.handled = none) (hu : (tupleKind knd).room A.in1) (hl : hB.IsList l items) (hP : ft knd hB items ps) (hd : hB.objs.size <= d) (hi : hB.objs.size <= it) (hdi : d ≠ it) (hz : ps.length <= sizeLine)
    (hR : ∀ h' tk, (∀ c o, hB.get? c = some o -> h'.get? c = some o) -> h'.DictOfH (tupleKind knd) d (accH ps ps.length) -> R (.ok (.ret .none)) ⟨h', g, dr, tk, os⟩) :
    ∀ (k i : Nat) (h : Heap) (tk : Nat), ps.length - i = k -> i <= ps.length -> (∀ c o, hB.get? c = some o -> h.get? c = some o) -> h.IsListIter it l i -> h.DictOfH (tupleKind knd) d (accH ps i) -> (∀ x ∈ accH ps i, (tupleKind knd).is hB x.1 x.2.1) ->
      codeAny (model prog w) A (.builtin "dict.update.loop" ⟨[.ref d, .ref it, rawInt i, .none], []⟩) R ⟨h, g, dr, tk, os⟩ := by
  have ltB : ∀ {c o}, hB.get? c = some o -> c < hB.objs.size := fun e => Heap.lt_size e
  intro k
  induction k with
  | zero =>
    intro i h tk hk hi' kp hit hD hG;have e : i = ps.length := by omega
    subst e;refine codeAny_builtin dh ?_;rw [Around.under_plainId o7 _];have hl' : h.IsList l items := hl.at fun o e => kp _ o e
    show wpAny _ A.in1 (pyNext (.ref it) >>= _) _ _ _
    refine wpAny_bind (wpAny_pyNext_list_end (s := ⟨h, g, dr, tk, os⟩) hA hit hl' (by rw [Array.getElem?_eq_none]; rw [hP.len]; exact Zm _) fun h' ext => ?_)
    replace ext : Heap.ExtBut it h h' := ext
    have kp' : ∀ c o, hB.get? c = some o -> h'.get? c = some o := fun c o e => ext c o (Zs (Zh (ltB e) hi)) (kp c o e)
    show wpAny _ _ (Builtin.Dict.addKeywords d [] >>= _) _ _ _
    exact wpAny_bind (wpAny_pure (wpAny_pure (hR h' tk kp' (l6 hD (fun o e => ext d o hdi e) fun x hx => isK (hG x hx) fun o e => kp' _ o e))))
  | succ k ih =>
    intro i h tk hk hi' kp hit hD hG;have hlt : i < ps.length := by omega
    have ep : ps[i]? = some ps[i] := Zb hlt;obtain ⟨T, eT, hT, hK⟩ := hP.at' i _ ep;refine codeAny_builtin dh ?_;rw [Around.under_plainId o7 _];have hl' : h.IsList l items := hl.at fun o e => kp _ o e
    show wpAny _ A.in1 (pyNext (.ref it) >>= _) _ _ _
    refine wpAny_bind (wpAny_pyNext_list_item (s := ⟨h, g, dr, tk, os⟩) hit hl' eT fun h1 hit1 sb => ?_)
    replace sb : Heap.SameBut it h h1 := sb
    have kp1 : ∀ c o, hB.get? c = some o -> h1.get? c = some o := fun c o e => sb.extBut c o (Zs (Zh (ltB e) hi)) (kp c o e)
    have hD1 : h1.DictOfH (tupleKind knd) d (accH ps i) := l6 hD (fun o e => sb.extBut d o hdi e) fun x hx => isK (hG x hx) fun o e => kp1 _ o e
    obtain ⟨oT, eoT, cT, nT, dT⟩ := hT;have hTs : (⟨h1, g, dr, tk, os⟩ : Shared).TypeIs (.ref T) "tuple" := ⟨oT, kp1 _ _ eoT, cT⟩
    show wpAny _ A.in1 (holding [Value.ref T] _ >>= _) _ _ _
    refine wpAny_bind (wpAny_holding ?_);refine wpAny_bind (wpAny_tryCatch ?_);unfold Builtin.Dict.pairItems;refine wpAny_bind (wpAny_typeOf hTs ?_);rw [if_pos (by decide)];refine wpAny_bind (wpAny_seqItems (s := ⟨h1, g, dr, tk, os⟩) (kp1 _ _ eoT) dT ?_);refine wpAny_pure ?_
    show wpAny _ A.in1 (holding [Value.ref ps[i].2.1, ps[i].2.2] (dictSet d (Value.ref ps[i].2.1) ps[i].2.2)) _ _ _
    refine wpAny_holding ?_;refine wpAny_dictSet_heap (s := ⟨h1, g, dr, tk, os⟩) hu (isK hK fun o e => kp1 _ o e) hD1 (fun h2 hD2 sb2 => ?_) (Zd (ap ps i hi') (by omega))
    replace sb2 : Heap.SameBut d h1 h2 := sb2
    have kp2 : ∀ c o, hB.get? c = some o -> h2.get? c = some o := fun c o e => sb2.extBut c o (Zs (Zh (ltB e) hd)) (kp1 c o e)
    rw [<- ja ep] at hD2;refine wpAny_pure ⟨plainId_quiet o7 _, ?_⟩
    have := ih (i + 1) h2 (tk + (tupleKind knd).draws ps[i].1) (by omega) hlt kp2 (hit1.extBut sb2.extBut (Ne.symm hdi)) hD2 (by
      rw [ja ep]
      exact zad (G := fun k b => (tupleKind knd).is hB k b) hG hK)
    exact this
theorem iw {A : Around} {E : Value -> Shared -> Prop} {s : Shared} {l : Addr} {o : Obj} {items : Array Value} {n : Nat} {ps : List (List K × Addr × Value)} {Q : Value -> Shared -> Prop} (hA : A.handled = none) (hu : A.units + 8 < cLine) (ho : s.heap.get? l = some o) (hc : o.cls = .type "list") (hdat : o.data = .seq items n) (hdn : o.dict = none) (hP : ft knd s.heap items ps) (hz : ps.length <= sizeLine)
    (h : ∀ h' tk, (∀ c o, s.heap.get? c = some o -> h'.get? c = some o) -> h'.DictOfH (tupleKind knd) s.heap.objs.size (accH ps ps.length) -> Q (.ref s.heap.objs.size) { s with heap := h', toks := tk }) :
    wpAny (model prog w) A (call (.type "dict") [.ref l]) Q E s := by
  refine callType_codes (Q₁ := fun obj s₁ => obj = .ref s.heap.objs.size /\ s₁ = { s with heap := s.heap.push { cls := .type "dict", data := .dict #[] } }) F.kt_called_dict (F.kt_typeCall_dict_1 _) F.entry_dict_init (kt_code_dict_new _ ⟨rfl, rfl⟩) ?_
  rintro obj s₁ ⟨rfl, rfl⟩
  have hnew : (s.heap.push { cls := .type "dict", data := .dict #[] }).DictOfH (tupleKind knd) s.heap.objs.size [] := Heap.DictOfH.new s.heap;have ho' : (s.heap.push { cls := .type "dict", data := .dict #[] }).get? l = some o := Heap.get?_push_of_some _ ho;refine ⟨⟨_, Heap.get?_push_size _ rfl, rfl⟩, F.args_dict_init_2 _ _, ?_⟩;unfold Builtin.«dict.__init__»;refine wpAny_bind ?_;unfold Builtin.Dict.selfAndRest;refine wpAny_bind (wpAny_notOrdered_dict ⟨_, Heap.get?_push_size _ rfl, rfl⟩ ?_)
  show wpAny _ _ (pure (s.heap.objs.size, [Value.ref l])) _ _ _
  refine wpAny_pure ?_
  show wpAny _ _ (Builtin.Dict.updateFrom "dict.__init__" s.heap.objs.size (.ref l) [] .none) _ _ _
  unfold Builtin.Dict.updateFrom;refine wpAny_bind (wpAny_typeOf ⟨_, ho', hc⟩ ?_);rw [if_pos (by decide)];refine wpAny_bind (k7 ho' hc hdat hdn hA fun h1 tk1 k1 => ?_);rw [if_pos (by decide)];refine wpAny_bind (wpAny_rule ?_);have hl1 : h1.IsList l items := ⟨o, k1 _ _ ho', hc, n, hdat⟩;have hd1 : h1.get? s.heap.objs.size = some { cls := .type "dict", data := .dict #[] } := k1 _ _ (Heap.get?_push_size _ rfl);have hlt : s.heap.objs.size < h1.objs.size := Heap.lt_size hd1;refine wpAny_bind (wpAny_pyIter_list (s := ⟨h1, s.gens, s.drawn, tk1, s.os⟩) hl1 (wpAny_pure ⟨plainId_quiet o7 _, ?_⟩));have kp : ∀ c o, s.heap.get? c = some o -> (h1.push { cls := .type "list_iterator", data := .fields #[.ref l, .int 0 0] }).get? c = some o := fun c o e => Heap.get?_push_of_some _ (k1 _ _ (Heap.get?_push_of_some _ e))
  refine zdf (knd := knd) (A := A.in1) (hB := s.heap) (g := s.gens) (dr := s.drawn) (os := s.os) (l := l) (items := items) (ps := ps) hA (tupleKind_room_in1 (A := A.in1) (by show A.units + 1 + 1 < cLine; omega)) ⟨o, ho, hc, n, hdat⟩ hP (Zm _) (YV hlt) (Zs hlt) hz
    (fun h' tk kp' hD => ⟨rfl, h h' tk kp' hD⟩) ps.length 0 _ tk1 (by omega) (ZE _) kp ⟨_, Heap.get?_push_size _ rfl, rfl, rfl⟩ (l6 hnew (fun o e => Heap.get?_push_of_some _ (k1 _ _ e)) fun x hx => by cases hx) (fun x hx => by cases hx)
end
end L2
namespace L2
open PySem PySem.Spec PyProof.Rows
def oi (kvs : List (List Key × V)) : List (List Key × V) := kvs.foldl (fun acc kv => putK acc kv.1 kv.2) []
structure uy (H : Hp) (Ts : List Addr) (kvs : List (List Key × V)) : Prop where
  len : Ts.length = kvs.length
  at' : ∀ (i : Nat) (T : Addr) (kv : List Key × V), Ts[i]? = some T -> kvs[i]? = some kv -> ∃ b, H T = some (.tup [.ref b, kv.2]) /\ H b = some (.tup (kv.1.map kV))
def zdz (xs : List V) (H : Hp) (Q : VK) : Prop := ∃ (l : Addr) (Ts : List Addr) (kvs : List (List Key × V)), xs = [.ref l] /\ H l = some (.lst (Ts.map V.ref)) /\ uy H Ts kvs /\ ∀ p, H p = none -> Q (.ref p) (upd H p (.dT (oi kvs)))
theorem zgx {xs : List V} {H : Hp} {Q : VK} : zdz xs H Q = ∃ (l : Addr) (Ts : List Addr) (kvs : List (List Key × V)), xs = [.ref l] /\ H l = some (.lst (Ts.map V.ref)) /\ uy H Ts kvs /\ ∀ p, H p = none -> Q (.ref p) (upd H p (.dT (oi kvs))) := rfl
section
variable {X : Cx} {pins : List (Addr × Obj)} {σ : St} {H : Hp} {s : Shared}
theorem c4 (I : Inv X pins σ H s) : ∀ {Ts : List Addr} {kvs : List (List Key × V)} {us : List Value}, uy H Ts kvs -> Vals (Ts.map V.ref) us -> ∃ ps : List (List Key × Addr × Value), ft (xq X.prog X.w) s.heap us.toArray ps /\ KT H kvs ps
  | [], [], us, q, r => by
    cases r;exact ⟨[], ⟨rfl, fun i p e => by simp at e⟩, .nil⟩
  | T :: Ts, kv :: kvs, us, q, r => by
    rw [ZM] at r
    cases r with
    | @cons _ u _ us r0 r1 =>
      obtain ⟨ps, P, k⟩ := c4 I (Ts := Ts) (kvs := kvs) ⟨by simpa using q.len, fun i T kv e1 e2 => q.at' (i + 1) T kv (by simpa using e1) (by simpa using e2)⟩ r1;obtain ⟨b, hT, hb⟩ := q.at' 0 T kv rfl rfl;obtain ⟨z, its, rr, hI⟩ := (show ObjOk X.prog X.w H s.heap T (.tup [.ref b, kv.2]) from I.hok T _ hT);obtain ⟨u1, u2, rfl, ru1, ru2⟩ := Vals.two rr;obtain rfl : u1 = Value.ref b := ru1;obtain rfl : u = Value.ref T := r0;refine ⟨(kv.1, b, u2) :: ps, ⟨by simp [<- P.len], fun i p e => ?_⟩, .cons ⟨rfl, hb, ru2⟩ k⟩
      cases i with
      | zero =>
        simp at e;subst e;obtain ⟨o, e1, c1, n1, d1, _⟩ := hI;exact ⟨T, by simp, ⟨o, e1, c1, n1, d1⟩, i8 I.hok hb⟩
      | succ i =>
        obtain ⟨T', a1, a2, a3⟩ := P.at' i p (by simpa using e);exact ⟨T', by simpa using a1, a2, a3⟩
  | [], kv :: kvs, us, q, r => by simpa using q.len
  | T :: Ts, [], us, q, r => by simpa using q.len
theorem kt_acc {kvs : List (List Key × V)} {ps : List (List Key × Addr × Value)} (k : KT H kvs ps) : KT H (oi kvs) (accH ps ps.length) := by
  have go : ∀ (l : List (List Key × V)) (m : List (List Key × Addr × Value)) (a : List (List Key × V)) (b : List (List Key × Addr × Value)), KT H l m -> KT H a b -> KT H (l.foldl (fun acc kv => putK acc kv.1 kv.2) a) (m.foldl (fun xs p => storedH xs p.1 p.2.1 p.2.2) b) := by
    intro l m a b q
    induction q generalizing a b with
    | nil => intro z; exact z
    | @cons p q ps qs h t ih =>
      intro z;obtain ⟨h1, h2, h3⟩ := h;refine ih _ _ ?_
      show KT H (putK a p.1 p.2) (storedH b q.1 q.2.1 q.2.2)
      rw [<- h1];exact z.put p.1 h2 h3
  unfold accH;rw [Zt];exact go _ _ _ _ k .nil
theorem zb8 (kvs : List (List Key × V)) : (oi kvs).length <= kvs.length := by
  have go : ∀ (l a : List (List Key × V)), (l.foldl (fun acc kv => putK acc kv.1 kv.2) a).length <= a.length + l.length := by
    intro l
    induction l with
    | nil => intro a; exact Zm _
    | cons p l ih =>
      intro a;have h1 := ih (putK a p.1 p.2);have h2 := zan a p.1 p.2;simp only [Xb, ZL];omega
  have := go kvs []
  simpa [oi] using this
theorem zd3 {kvs : List (List Key × V)} (h : (kvs.map (·.1)).Nodup) : oi kvs = kvs := by
  have go : ∀ (l a : List (List Key × V)), ((a ++ l).map (·.1)).Nodup -> l.foldl (fun acc kv => putK acc kv.1 kv.2) a = a ++ l := by
    intro l
    induction l with
    | nil => intro a _; simp
    | cons p l ih =>
      intro a hn
      have hno : valV a p.1 = none := by
        cases e : valV a p.1 with
        | none => rfl
        | some v =>
          exfalso
          have hm := zgz e;rw [Zn, YT] at hn;exact hn.2.2 _ hm _ (by simp) rfl
      rw [Xb, ze7 _ hno, ih _ (by simpa using hn)];simp
  exact go kvs [] (by simpa using h)
theorem zb9 (hc : X.calm = true) (hu : X.A.units + 8 < cLine) : CallR X (.type "dict") zdz := by
  intro pins s σ H xs us Q I r h;obtain ⟨l, Ts, kvs, rfl, hl, hP, q⟩ := h;obtain ⟨u, rfl, ru⟩ := qy r;obtain rfl : u = Value.ref l := ru;obtain ⟨its, rv, pl, hz⟩ := I.list (SqL.of hl);obtain ⟨ps, P, k⟩ := c4 I hP rv;obtain ⟨o, n, e, c, d, dat⟩ := id pl;have hps : ps.length = kvs.length := (Paired.length k).symm;have hkl : kvs.length <= sizeLine := by rw [Za, hP.len] at hz; exact hz
  refine iw (knd := xq X.prog X.w) (I.ok.hd hc) hu e c dat d P (by omega) fun h' tk kp hD => ?_
  have hn : H s.heap.objs.size = none := I.hok.fresh (Zm _);refine ⟨.ref s.heap.objs.size, upd H s.heap.objs.size (.dT (oi kvs)), I.laid (t' := tk) (fun b u e => kp b u e) (Zm _) ?_, rfl, q _ hn⟩;obtain ⟨ob, es, ep, g1, g2, g3, g4, _, g6⟩ := hD;have hb := I.big;refine ⟨Zd (zb8 kvs) hkl, ?_, accH ps ps.length, (kt_acc k).keeps fun b ys e => ?_, ob, es, ep, g1, g2, g3, g4, g6⟩
  . exact beq_eq_false_iff_ne.mpr (Yp hb)
  . rw [z8 (fun z => by rw [z, hn] at e; cases e)]
    exact e
end
end L2
namespace L2
open PySem
theorem hu11 {A : Around} {k : Nat} (hr : Room k A) : A.units + 8 < cLine := by have := hu9 hr; omega
end L2
namespace L2
open PySem PySem.Spec PyProof.Rows
section
variable {X : Cx} {pins : List (Addr × Obj)} {σ : St} {H : Hp} {k : Nat} {f : Addr} {fd : FuncData} {ps : List Str} {sp : Sp}
end
end L2
namespace L2
open PySem PySem.Spec PyProof.Rows
section
variable {X : Cx}
end
end L2
namespace L2
open PySem PySem.Spec PyProof.Rows
theorem bt_any : bootBuiltins "any" = some (.builtin "any") := by decide +kernel
section
variable {X : Cx}
theorem zey (hc : X.calm = true) : CallR X (.builtin "any") (fun xs H Q => ∃ (p : Addr) (bs : List Bool), xs = [.ref p] /\ SqL X.K H p (bs.map V.bl) /\ Q (.bl (bs.any id)) H) := by
  intro pins s σ H xs us Q I r h;obtain ⟨p, bs, rfl, hq, q⟩ := h;obtain ⟨u, rfl, rx⟩ := Vals.one r;cases rx;obtain ⟨its, rv, pl, hz⟩ := I.list hq;have hlt : p < s.heap.objs.size := by obtain ⟨_, e, _⟩ := pl.isList; exact Heap.lt_size e
  have hlen : its.length = bs.length := by have := rv.length; rw [Za] at this; exact this.symm
  refine call_any_walk (wpAny_pyIter_list pl.isList ?_)
  refine ⟨s.heap.objs.size, [s.heap.objs.size, p], [s.heap.objs.size], its.toArray.size, _, _, fun i => (bs[i]?).getD false, rfl, Walks.list (A := X.A.in1) (I.ok.hd hc) _ p (Zs hlt) its.toArray,
    ⟨⟨_, Heap.get?_push_size _ rfl, rfl, rfl⟩, pl.isList.push _⟩, fun i v s' Q' E' hP hQ => ?_, fun h' tk hk => ?_⟩
  . have hi : its[i]? = some v := by simpa using hP
    have hil : i < bs.length := by rw [<- hlen]; exact (Zc.mp hi).1
    have e : bs[i]? = some bs[i] := by simp [hil]
    obtain ⟨u, hu, ru⟩ := rv.get (i := i) (x := V.bl bs[i]) (by rw [Ze, e]; rfl);rw [hi] at hu;cases hu;cases ru;simp only [e, YW] at hQ;exact wpAny_truthy_bool hQ
  . have e : ((List.range its.toArray.size).any fun i => (bs[i]?).getD false) = bs.any id := by
      rw [Zr, hlen];rw [Bool.eq_iff_iff, Yu, Yu]
      constructor
      . rintro ⟨i, hi, z⟩
        have hi' := Yb.mp hi;refine ⟨bs[i], Zl hi', ?_⟩
        simpa [Zb hi'] using z
      . rintro ⟨b, hb, z⟩
        obtain ⟨i, hi, rfl⟩ := Zy hb;exact ⟨i, Yb.mpr hi, by simpa [Zb hi] using z⟩
    rw [e];exact ⟨.bl (bs.any id), H, I.kept fun b x e => hk b x (fun hm => by rw [ZC.mp hm] at e; exact ZJ _ (Heap.lt_size e)) (Heap.get?_push_of_some _ e), rfl, q⟩
def zau (K : Fg) : V -> List V -> Hp -> VK -> Prop := fun x vs H Q => ∃ p xs y, x = .ref p /\ vs = [y] /\ SqT K H p xs /\ xf y = true /\ xs.all xf = true /\ Q (.int ((xs.countP fun z => eqV z y : Nat) : Int)) H
theorem zfb {K : Fg} {x : V} {vs : List V} {H : Hp} {Q : VK} : zau K x vs H Q = ∃ p xs y, x = .ref p /\ vs = [y] /\ SqT K H p xs /\ xf y = true /\ xs.all xf = true /\ Q (.int ((xs.countP fun z => eqV z y : Nat) : Int)) H := rfl
theorem eg {y : V} : ∀ {xs : List V} {us : List Value}, Vals xs us -> xs.all xf = true -> us.countP (eqU y) = xs.countP fun z => eqV z y
  | _, _, .nil, _ => rfl
  | _, _, .cons r rr, f => by
    rw [YR, Bool.and_eq_true] at f;rw [List.countP_cons, List.countP_cons, eg rr f.2, im r f.1]
theorem f7 : MtR X "tuple.count" (zau X.K) := by
  intro pins s σ H x vs v us Q I rx rvs h;obtain ⟨p, xs, y, rfl, rfl, hq, hF, hFs, q⟩ := h;cases rx;obtain ⟨u, rfl, ru⟩ := qy rvs;obtain ⟨its, r, pl, hz⟩ := I.tuple hq;obtain ⟨⟨cls, dd, data, sl⟩, ho, hc, n, hd⟩ := id pl;simp only at hc hd;subst hc hd;refine call_meets PySem.F.slot_tuple_count ⟨_, ho, rfl⟩ PySem.F.entry_tuple_count (PySem.F.args_tuple_count_2 _ _) (SeqAt.tuple_countAt p its.toArray n dd sl u (eqU y)) ⟨ho, fun w hw => ue ru hF r hFs w (by simpa using hw), ⟨.int _, H, I.tok _, ⟨_, rfl⟩, ?_⟩⟩
  have e : its.toArray.toList.countP (eqU y) = xs.countP fun z => eqV z y := by
    rw [List.toList_toArray];exact eg r hFs
  rw [e];exact q
end
end L2
namespace L2
open PySem PySem.Spec PyProof.Rows
section
variable {X : Cx} {pins : List (Addr × Obj)} {σ : St} {H2 : Hp} {s₂ : Shared} {scope : Scope} {ts N2 : List Str} {cl : List (Str × Addr)} {C D : Addr} {fp : List Addr}
end
end L2
namespace L2
open PySem PySem.Spec PyProof.Rows
end L2
namespace L2
open PySem PySem.Spec PyProof.Rows
section
variable {X : Cx}
end
end L2
namespace L2
open PySem PySem.Spec PyProof.Rows
section
variable {M : Model} {A : Around} {E : Value -> Shared -> Prop} {s : Shared}
theorem gx {x : Value} {e1 e2 : Env} (h : e1.frame = e2.frame) : noteFrame x e1 = noteFrame x e2 := by unfold noteFrame PySem.frameOf; rw [h]
theorem g5 {base : Heap} {l : List Env} {e : Addr} {cls a0 fl : Value} (fr : Option Addr) {Q : Unit -> Shared -> Prop}
    (hkb : base.StaysIn s.heap) (hl : s.heap.FunFrames base l) (ht : s.heap.TracedAtW base e cls a0 fl)
    (h : ∀ h', base.StaysIn h' -> h'.FunFrames base l -> h'.TracedAtW base e cls a0 (fr.elim Value.none fun f => rawInt f) -> (∀ b o, s.heap.get? b = some o -> (∀ vs, o.data ≠ .fields vs) -> h'.get? b = some o) -> Q () { s with heap := h' }) :
    wpAny M A (setFlight (.ref e) fr) Q E s := by
  obtain ⟨oe, vs, T, oT, ts, he, hcls, hd, h1, hnT, hTe, hT, hdT, h3⟩ := ht;have hsz3 : 3 < ts.size := (ZT.mp h3).1
  have other : ∀ b, b ≠ T -> (s.heap.update T (Obj.mapFields (·.setIfInBounds 3 (fr.elim Value.none fun f => rawInt f)))).get? b = s.heap.get? b :=
    fun b hb => Heap.get?_update_other _ _ (Ne.symm hb)
  have noRecord : ∀ b o, s.heap.get? b = some o -> (∀ vs, o.data ≠ .fields vs) -> b ≠ T := fun b o hb hnf q => by
    rw [q, hT] at hb; injection hb with hb; subst hb; exact hnf ts hdT
  unfold setFlight;refine wpAny_bind (wpAny_field he hd h1 ?_);rw [if_pos (show (Value.ref T != Value.none) = true from by simp)]
  refine wpAny_setField hT hdT hsz3 (h _ (fun b o hbo => (other b fun q => by rw [q, hnT] at hbo; cases hbo).trans (hkb b o hbo))
    (hl.of_keeps fun b o hb hnf => ⟨o, (other b (noRecord b o hb hnf)).trans hb, rfl⟩) ?_ fun b o hb hnf => (other b (noRecord b o hb hnf)).trans hb)
  exact ⟨oe, vs, T, _, _, (other e (Ne.symm hTe)).trans he, hcls, hd, h1, hnT, hTe, Heap.get?_update_self _ hT (Obj.isFreed_of_fields (Obj.data_mapFields hdT _)), Obj.data_mapFields hdT _, by simp [hsz3]⟩
theorem bi {base : Heap} {env : Env} {outer : List Env} {L e : Addr} {cls a0 fl : Value} {Q : Unit -> Shared -> Prop}
    (hfr : A.frames = some (env :: outer)) (hf : env.frame = some L) (hkb : base.StaysIn s.heap) (hen : base.get? e = none) (hl : s.heap.FunFrames base (env :: outer)) (ht : s.heap.TracedAtW base e cls a0 fl)
    (hQ : ∀ h', Heap.FlyingW base outer e cls a0 h' -> s.heap.UpToSlots h' -> Q () { s with heap := h' }) : wpAny M A (leaving env (.ref e)) Q E s := by
  by_cases hfl : fl = rawInt L
  . subst hfl
    unfold leaving;refine wpAny_bind (wpAny_noteFrame_againW hf ht ?_);refine wpAny_landsW (l := env :: outer) ⟨hkb, hen, hl, ht⟩ fun h' hfl ups => ?_
    obtain ⟨k1, k2, ⟨_, _, k3⟩, k4⟩ := hfl;exact hQ h' ⟨k1, k2, k3, k4⟩ ups
  . obtain ⟨oe, vs, T, oT, ts, he, ⟨hcls, h0⟩, hd, h1, hnT, hTe, hT, hdT, h3⟩ := ht
    subst hcls;unfold leaving noteFrame;simp only [hf];refine wpAny_bind (wpAny_bind (wpAny_field he hd h1 ?_));rw [if_pos (show (Value.ref T != Value.none) = true from by simp)];refine wpAny_bind (wpAny_field hT hdT h3 ?_);rw [if_neg (show ¬ ((fl == rawInt L) = true) from fun z => hfl (eq_of_beq z))];refine wpAny_bind (wpAny_setField hT hdT (ZT.mp h3).1 ?_);have other : ∀ b, b ≠ T -> (s.heap.update T (Obj.mapFields (·.setIfInBounds 3 Value.none))).get? b = s.heap.get? b := fun b hb => Heap.get?_update_other _ _ (Ne.symm hb)
    have noRecord : ∀ b o, s.heap.get? b = some o -> (∀ vs, o.data ≠ .fields vs) -> b ≠ T := fun b o hb hnf q => by
      rw [q, hT] at hb; injection hb with hb; subst hb; exact hnf ts hdT
    refine wpAny_newEntryW hfr (hl.of_keeps fun b o hb hnf => ⟨o, (other b (noRecord b o hb hnf)).trans hb, rfl⟩) hf ((other e (Ne.symm hTe)).trans he)
      (fun b o hbo => (other b fun q => by rw [q, hnT] at hbo; cases hbo).trans (hkb b o hbo)) hen hd (ZT.mp h1).1 h0
      fun h' ⟨x1, ⟨_, _, x2⟩, x3, x4⟩ => hQ h' ⟨x1, hen, x2, x3⟩ fun b o hb hnf => x4 b o ((other b (noRecord b o hb hnf)).trans hb) hnf
end
theorem l7 {B h h' : Heap} {C : Addr} {oC : Obj} (hB : B.get? C = some oC) (sb : Heap.SameBut C h h') : ∀ {l : List Env}, h.FunFrames B l -> h'.FunFrames B l
  | [], _ => trivial
  | _ :: _, ⟨hk, ⟨L, o, hf, hn, ho, hd⟩, hr⟩ => ⟨hk, ⟨L, o, hf, hn, (sb.2 L (fun z => by rw [z, hB] at hn; cases hn)).trans ho, hd⟩, l7 hB sb hr⟩
theorem zdp {fs : List Addr} {H0 H1 : Hp} {h0 h1 h2 B : Heap} (u : Un fs [] H0 H1 h0 h1) (dom2 : ∀ b o, h0.get? b = some o -> b ∉ fs -> ∃ ob, B.get? b = some ob /\ (H0 b = none -> ob = o))
    (bh' : B.StaysIn h2) (sl : ∀ b ∈ fs, ∀ o, h1.get? b = some o -> (∀ vs, o.data ≠ .fields vs) -> ∃ sl, h2.get? b = some { o with slots := sl }) (hfr : ∀ b ∈ fs, ∀ o, h1.get? b = some o -> ∀ vs, o.data ≠ .fields vs) : Un fs [] H0 H1 h0 h2 where
  keep := fun b o e n hb _ => by
    obtain ⟨ob, e1, e2⟩ := dom2 b o e hb;rw [e2 n] at e1;exact bh' b o e1
  slot := fun b o e n hb hx => by
    obtain ⟨s1, e1⟩ := u.slot b o e n hb hx;obtain ⟨s2, e2⟩ := sl b hb _ e1 (hfr b hb _ e1);exact ⟨s2, e2⟩
  free := u.free
  there := fun b o e hx => by
    by_cases hb : b ∈ fs
    . obtain ⟨o1, e1⟩ := u.there b o e hx
      obtain ⟨s2, e2⟩ := sl b hb _ e1 (hfr b hb _ e1);exact ⟨_, e2⟩
    . obtain ⟨ob, e1, _⟩ := dom2 b o e hb
      exact ⟨ob, bh' b ob e1⟩
  tups := u.tups
  frzs := u.frzs
  tbls := u.tbls
section
variable {X : Cx} {pins : List (Addr × Obj)} {σ : St} {H : Hp} {s : Shared}
theorem stk_lt (I : Inv X pins σ H s) {b : Addr} (hb : b ∈ frs X.stack) : b < s.heap.objs.size := by
  obtain ⟨_, o, e, _⟩ := I.stack.mem hb;exact Heap.lt_size e
theorem passC {P : Program} {w : World} {K : Fg} {mg : Str -> Option Value} {base : Heap} {NN : List Str} {qual : Str} {scp : Scope} {f : Addr} {cd : Value} {A : Around} {outer : List Env} {s0 : Shared} {H0 : Hp} {E : XK} {use : Option (Value -> Sem Unit)} {Q : Value -> Shared -> Prop} {acc : Value} {scope : Scope} {cl : List (Str × Addr)} {C : Addr} {m : Str -> Option Value} {e : Value} {s' : Shared}
    (hX : X = cxOf (CX1 P w) P w K mg base NN qual scp f cd A outer s0 H0 E) (I : Inv X pins σ H s) (hn : s.heap.Ns C m) (hf : H C = none) (hC : X.s₀.heap.objs.size <= C) (hL : C ≠ X.env.locals) (hS : ∀ b ∈ frs X.stack, b ≠ C)
    (h : CX1 X.prog X.w X.stack H s (fun c _ H' => E c none H') e s') :
    notedBy (model X.prog X.w) X.A (compEnvC scope cl C X.env) (fun x s1 => compPost (model X.prog X.w) X.A X.xe use Q acc C (.error x) s1) e s' := by
  subst hX;obtain ⟨ea, Ce, a0, B, H', rfl, os, bare, un, hok, fl, hea, dom, dom2, hE1⟩ := h;obtain ⟨oC, esC, epC, hoC, rC⟩ := hn;obtain ⟨ob, hBC, hob⟩ := dom2 C oC hoC (fun z => hS C z rfl);rw [hob hf] at hBC;unfold notedBy;rw [gx (e1 := compEnvC scope cl C (cxOf (CX1 P w) P w K mg base NN qual scp f cd A outer s0 H0 E).env) (e2 := envOfC qual scp s0.heap.objs.size f cd) rfl];refine wpAny_looks_onW I.ok.frames rfl fl fun h1 held ups => ?_
  obtain ⟨g1, g2, g3, g4⟩ := held
  have hk : ∃ m, h1.Ns C m /\ ∀ h', Heap.SameBut C h1 h' -> ∀ cenv : Env, cenv.locals = C -> wpAny (model P w) (A.deeper (envOfC qual scp s0.heap.objs.size f cd)) (PySem.passOn "comprehension.variables-let-go" (.ref ea) cenv : Sem Value) (fun _ _ => False) (cxOf (CX1 P w) P w K mg base NN qual scp f cd A outer s0 H0 E).xe { s' with heap := h' } := by
    refine ⟨m, ⟨oC, esC, epC, g1 C oC hBC, rC⟩, fun h' sb cenv _ => ?_⟩;have kB : (PySem.W.hideAll B [C]).StaysIn B := fun b o q => PySem.W.of_hideAll _ q
    have neB : ∀ b o, (PySem.W.hideAll B [C]).get? b = some o -> b ≠ C := fun b o q z => by
      rw [z, PySem.W.hideAll_none [C] (by simp)] at q; cases q
    have inB : ∀ b o, B.get? b = some o -> b ≠ C -> (PySem.W.hideAll B [C]).get? b = some o := fun b o q n => PySem.W.hideAll_get [C] q (by simpa using n)
    have st' : (PySem.W.hideAll B [C]).StaysIn h' := fun b o q => (sb.2 b (neB b o q)).trans (g1 b o (kB b o q))
    have ff' : h'.FunFrames (PySem.W.hideAll B [C]) (envOfC qual scp s0.heap.objs.size f cd :: outer) := PySem.W.funFrames_base kB (l7 hBC sb g3);have he' : (PySem.W.hideAll B [C]).get? ea = none := PySem.W.fresh_of_stays kB g2
    have tr' : h'.TracedAtW (PySem.W.hideAll B [C]) ea (.ref Ce) a0 (rawInt s0.heap.objs.size) := by
      obtain ⟨oe, vs, T, oT, ts, a1, a2, a3, a4, a5, a6, a7, a8, a9⟩ := g4;exact ⟨oe, vs, T, oT, ts, (sb.2 ea (fun z => by rw [z, hBC] at g2; cases g2)).trans a1, a2, a3, a4, PySem.W.fresh_of_stays kB a5, a6, (sb.2 T (fun z => by rw [z, hBC] at a5; cases a5)).trans a7, a8, a9⟩
    unfold PySem.passOn;have tr2 := tr';obtain ⟨oe, vs, T, oT, ts, a1, a2, a3, a4, a5, a6, a7, a8, a9⟩ := tr2;refine wpAny_bind (wpAny_field (s := { s' with heap := h' }) a1 a3 a4 ?_);rw [if_neg (show ¬ ((Value.ref T == Value.none) = true) from by simp)];refine wpAny_bind (g5 (s := { s' with heap := h' }) (l := envOfC qual scp s0.heap.objs.size f cd :: outer) cenv.frame st' ff' tr' fun h2 b1 b2 b3 b4 => ?_);refine wpAny_throw ?_
    show wpAny _ _ (leaving _ (.ref ea)) _ _ _
    refine bi (s := { s' with heap := h2 }) I.ok.frames rfl b1 he' b2 b3 fun h3 x1 x2 => ?_
    have hst : s'.heap.FunFrames B (envOfC qual scp s0.heap.objs.size f cd :: outer) := fl.2.2.1;have un0 : Un (frs outer) [] H0 H s0.heap s.heap := I.base
    have sub : ∀ b ∈ frs outer, b ∈ frs (envOfC qual scp s0.heap.objs.size f cd :: outer) := fun b hb => by
      obtain ⟨env, he, hf⟩ := ZP.mp hb;exact ZP.mpr ⟨env, Zv _ he, hf⟩
    have notL : ∀ b o, s0.heap.get? b = some o -> b ∉ frs outer -> b ∉ frs (envOfC qual scp s0.heap.objs.size f cd :: outer) := fun b o q n z => by
      rcases ZK.mp (I.stkSub b z) with y | y
      . have h1 : s0.heap.objs.size <= b := by rw [y]; exact I.ok.above
        exact absurd (Zh (Heap.lt_size q) h1) (ZJ _)
      . exact n y
    have ut := (un0.mono sub (fun _ z => z)).trans un;have un1 : Un (frs outer) [] H0 H' s0.heap s'.heap := ⟨fun b o e n hb hx => ut.keep b o e n (notL b o e hb) hx, fun b o e n hb hx => ut.slot b o e n (sub b hb) hx, ut.free, ut.there, ut.tups, ut.frzs, ut.tbls⟩;have hf' : H' C = none := un.free C oC hoC hf (by simp)
    have dom' : ∀ b o, H' b = some o -> ∃ ob, (PySem.W.hideAll B [C]).get? b = some ob := fun b o q => by
      obtain ⟨ob, e1⟩ := dom b o q;exact ⟨ob, inB b ob e1 (fun z => by rw [z, hf'] at q; cases q)⟩
    have dom2' : ∀ b o, s0.heap.get? b = some o -> b ∉ frs outer -> ∃ ob, (PySem.W.hideAll B [C]).get? b = some ob /\ (H0 b = none -> ob = o) := fun b o q n => by
      obtain ⟨o1, e1⟩ := un0.there b o q (by simp);obtain ⟨ob, k1, k2⟩ := dom2 b o1 e1 (notL b o q n);refine ⟨ob, inB b ob k1 (fun z => ?_), fun z => ?_⟩
      . have h1 : s0.heap.objs.size <= b := by rw [z]; exact hC
        exact absurd (Zh (Heap.lt_size q) h1) (ZJ _)
      . have e2 := un0.keep b o q z n (by simp)
        rw [e1] at e2;cases e2;exact k2 (un0.free b _ q z (by simp))
    have hfr : ∀ b ∈ frs outer, ∀ o, s'.heap.get? b = some o -> ∀ vs, o.data ≠ .fields vs := fun b hb o q => by
      obtain ⟨_, o', e', n'⟩ := hst.mem (b := b) (sub b hb);rw [q] at e'; cases e';exact n'
    have sl : ∀ b ∈ frs outer, ∀ o, s'.heap.get? b = some o -> (∀ vs, o.data ≠ .fields vs) -> ∃ sl, h3.get? b = some { o with slots := sl } := fun b hb o q n => by
      obtain ⟨s1, e1⟩ := ups b o q n;have e2 := (sb.2 b (hS b (sub b hb))).trans e1;have e3 := b4 b _ e2 n;obtain ⟨s3, e4⟩ := x2 b _ e3 n;exact ⟨s3, e4⟩
    exact ⟨ea, Ce, a0, PySem.W.hideAll B [C], H', rfl, os.trans I.os, bare, zdp un1 dom2' x1.1 sl hfr, HOk.flown hok (fun b o q => fl.1 b o (kB b o q)) x1.1 dom', x1, hea, dom', dom2', hE1⟩
  cases use <;> exact hk
end
theorem aq {prog : Program} {w : World} {A : Around} {R : Result -> Shared -> Prop} {s : Shared} {elt target iter : Expr} {ifs : List Expr} {scope : Scope} {pos : Pos} {it acc : Value} {env : Env} (I : Nat -> Shared -> Prop)
    (turn : ∀ n s, I n s -> wpAny (model prog w) A (pyNext it) (fun r s₁ => match r with
      | none => R (.ok .next) s₁
      | some v => wpAny (model prog w) A (letOwnedTupleGo target it v) (fun _ s₁' => wpAny (model prog w) A (assign target env v) (fun _ s₂ =>
          wpAny (model prog w) A (forIn ifs true fun c r => if r = true then do let ok <- isTrue c env (eval c env); pure (ForInStep.yield ok) else pure (ForInStep.yield r)) (fun ok s₃ =>
            if ok = true then wpAny (model prog w) A (eval elt env) (fun x s₄ =>
              wpAny (model prog w) A (call (.builtin "list.append") [acc, x]) (fun _ s₅ => ∃ m, m < n /\ I m s₅) (fun _ _ => False) s₄) (notedBy (model prog w) A env fun x s' => R (.error x) s') s₃
            else ∃ m, m < n /\ I m s₃) (fun _ _ => False) s₂) (fun _ _ => False) s₁') (fun _ _ => False) s₁) (fun _ _ => False) s)
    (n : Nat) (h : I n s) :
    codeAny (model prog w) A (.compLoop (.ListComp elt [⟨target, iter, ifs, 0⟩] scope pos) 0 it acc env) R s := by
  refine codeAny_loop rfl I (fun n s hI => ?_) n h
  show wpAny _ A ((compTurn (.ListComp elt [⟨target, iter, ifs, 0⟩] scope pos) 0 it acc env).onRaise (fun x => do noteFrame x env; theTreesLotGoes x)) _ _ s
  refine wpAny_noted ?_;rw [compTurn_list];refine wpAny_bind (wpAny_standAt (wpAny_bind (wpAny_mono (turn n s hI) (fun r s₁ h₁ => ?_) fun _ _ f => f.elim)))
  cases r with
  | none => exact wpAny_pure h₁
  | some v =>
    refine wpAny_bind (wpAny_mono h₁ (fun _ s₁' h₁' => ?_) fun _ _ f => f.elim);refine wpAny_bind (wpAny_mono h₁' (fun _ s₂ h₂ => wpAny_bind (wpAny_mono h₂ (fun ok s₃ h₃ => ?_) fun _ _ f => f.elim)) fun _ _ f => f.elim)
    cases ok with
    | false => exact wpAny_pure ⟨rfl, h₃⟩
    | true =>
      exact wpAny_bind (wpAny_bind (wpAny_mono h₃ (fun x s₄ h₄ => wpAny_bind (wpAny_mono h₄ (fun _ s₅ h₅ => wpAny_pure (wpAny_pure ⟨rfl, h₅⟩)) fun _ _ f => f.elim)) fun _ _ f => f))
section
variable {X : Cx} {pins : List (Addr × Obj)} {σ : St} {H2 : Hp} {s₂ : Shared} {scope : Scope} {ts N2 : List Str} {cl : List (Str × Addr)} {C D : Addr} {fp : List Addr}
theorem ze4 (I2 : Inv X pins σ H2 s₂) (f2 : ∀ b ∈ fp, FpOk X pins H2 b) {σ' : St} {H' : Hp} {s' : Shared} {pl : List (Addr × Obj)}
    (J : Inv (z7 X scope (ts ++ N2) ⟨cl, C, s₂, H2, fp⟩) pl σ' H' s') : Inv X pins σ H' s' :=
  I2.call' (ch := fp) J.os J.base J.hok J.bare fun b hb => by
    obtain ⟨f0, f1, f3, f4, f5, f6⟩ := f2 b hb;exact ⟨f4, f1, f5, f6⟩
theorem zae {Ex : Value -> Hp -> Prop} {E : Value -> Shared -> Prop} {tg elt iter : Expr} {ifs : List Expr} {pos : Pos} {it : Addr} {tn : Nat -> Heap -> Prop} {J : It} {g : Dyn -> TG} {tt : Dyn -> TT} {te : Dyn -> TE} {RR : Value -> Addr -> Result -> Shared -> Prop} {Fin : List V -> Hp -> Prop}
    (I2 : Inv X pins σ H2 s₂) (hc : X.calm = true) (T : Turn X.prog X.w X.K tg J fp it tn) (st : tn 0 s₂.heap) (f2 : ∀ b ∈ fp, FpOk X pins H2 b) (hkind : scope.kind = .function) (hown : pq scope.names = true) (hfree : qg scope.names X.env = true) (hout : wy scope.names N2 X.N = true)
    (hcl1 : ∀ x c, cl.lookup x = some c -> X.env.cells.lookup x = some c) (hcl2 : ∀ y ∈ scope.names, y.2 = .free -> ∃ c, cl.lookup y.1 = some c)
    (hg : ∀ d, PG (z7 X scope (ts ++ N2) d) tg (g d)) (ht : ∀ d, PTs (z7 X scope (ts ++ N2) d) ifs (tt d)) (he : ∀ d pn, PE (jt (z7 X scope (ts ++ N2) d) pn fun _ c H' => Ex c H') elt (te d))
    (hW : ∀ d, oy J σ ts.length (g d) (tt d) (te d) H2 Fin)
    (hRR : ∀ D C s' H' ys, s₂.heap.objs.size <= C -> C ≠ D -> Inv X pins σ (upd H' D (.lst ys)) s' -> H' D = none -> H' C = none -> (∃ m, s'.heap.Ns C m) -> ys.length <= sizeLine -> Fin ys H' -> RR (.ref D) C (.ok .next) s')
    (hRE : ∀ acc C H' s' e s'' m, s₂.heap.objs.size <= C -> Inv X pins σ H' s' -> s'.heap.Ns C m -> H' C = none -> CX1 X.prog X.w X.stack H' s' (fun c _ H'' => Ex c H'') e s'' -> notedBy (model X.prog X.w) X.A (compEnvC scope cl C X.env) (fun x s1 => RR acc C (.error x) s1) e s'') :
    wpAny (model X.prog X.w) X.A (newList []) (fun acc s₃ => wpAny (model X.prog X.w) X.A (newFunctionEnv scope X.env.globals cl [] X.env.qual none .none (some X.env)) (fun cenv s₄ =>
      codeAny (model X.prog X.w) X.A (.compStart (.ListComp elt [⟨tg, iter, ifs, 0⟩] scope pos) 0 (.ref it) acc { cenv with scope := relabel scope X.env }) (RR acc cenv.locals) s₄) E s₃) E s₂ := by
  refine wpAny_newObj_type (wpAny_newFunctionEnv (lg hown) (by intro y hy; simp at hy) (fun h₁ hns₁ hsb₁ => ?_) hkind);dsimp only at hns₁ hsb₁ ⊢;generalize hH2 : s₂.heap.push { cls := .type "list", dict := none, data := .seq ([] : List Value).toArray } = HP at hns₁ hsb₁ ⊢;have hC : HP.objs.size = s₂.heap.objs.size + 1 := by rw [<- hH2, Heap.size_push]
  have hDC : s₂.heap.objs.size ≠ HP.objs.size := by rw [hC]; exact Zs (Yt _)
  have hCle : s₂.heap.objs.size <= HP.objs.size := by rw [hC]; exact YO _
  have below : ∀ b, b < s₂.heap.objs.size -> b ≠ HP.objs.size /\ b ≠ s₂.heap.objs.size := fun b hb => ⟨by rw [hC]; exact Zs (Yz hb), Zs hb⟩
  have old : ∀ b o, s₂.heap.get? b = some o -> h₁.get? b = some o := fun b o e => hsb₁.extBut b o (below b (Heap.lt_size e)).1 (Heap.get?_push_of_some _ (hH2 ▸ Heap.get?_push_of_some _ e))
  have hacc : h₁.get? s₂.heap.objs.size = some (lobj []) := hsb₁.extBut _ _ hDC (Heap.get?_push_of_some _ (hH2 ▸ Heap.get?_push_size _ rfl))
  have flt : ∀ b ∈ fp, b < s₂.heap.objs.size := fun b hb => by
    obtain ⟨o, e, _⟩ := T.obj _ _ st b hb;exact Heap.lt_size e
  generalize hDD : s₂.heap.objs.size = D at *;generalize hCC : HP.objs.size = C at *;have hDle : s₂.heap.objs.size <= D := YG hDD;have I4 := fun (tk : Nat) => i4 (ts := ts) (D := D) (C := C) (tk := tk) I2 hc (fun b hb => ⟨f2 b hb, by rw [hDD]; exact flt b hb⟩) hkind hown hfree hout hcl1 hcl2 (by rw [hDD]; exact hCle) hDC hDle hns₁ old hacc
  generalize hd : (⟨cl, C, s₂, H2, fp⟩ : Dyn) = d at *;obtain ⟨W, ⟨m0, w0⟩, turn⟩ := hW d
  have Xs : ∀ {pl : List (Addr × Obj)} {H' : Hp}, (∀ b ∈ fp, H' b = none) -> (∀ p ∈ pl, p.1 = D) -> ∀ b ∈ fp, FpOk (z7 X scope (ts ++ N2) d) pl H' b := fun {pl H'} hn hp b hb => by
    subst hd;obtain ⟨f0, f1, f3, f4, f5, f6⟩ := f2 b hb;refine ⟨hn b hb, (below b (flt b hb)).1, fun z => ?_, .inl hb, fun x c e => f5 x c (hcl1 x c e), fun p hp' => ?_⟩
    . rcases ZK.mp (I2.stkSub b z) with z | z
      . exact f1 z
      . exact f3 z
    . rw [hp p (by simpa using hp')]
      exact Ne.symm (below b (flt b hb)).2
  have loop : ∀ s₃ : Shared, s₃ = { s₂ with heap := h₁, toks := s₂.toks + ([] : List (Str × Value)).length } ->
      codeAny (model X.prog X.w) X.A (.compLoop (.ListComp elt [⟨tg, iter, ifs, 0⟩] scope pos) 0 (.ref it) (.ref D) (compEnvC scope cl C X.env)) (RR (.ref D) C) s₃ := by
    rintro s₃ rfl
    refine aq (fun n s' => ∃ i ys H' its, Inv (z7 X scope (ts ++ N2) d) [(D, lobj its)] (List.replicate ts.length none ++ σ) H' s' /\ tn i s'.heap /\ (∀ b ∈ fp, H' b = none) /\ Vals ys its /\ W i n ys H') ?_ m0
      ⟨0, [], H2, [], I4 _, T.keep _ _ _ st fun b _ o e => old b o e, fun b hb => (f2 b hb).1, .nil, w0⟩
    rintro n s3 ⟨i, ys, H3, its, I3, st3, fr3, hv3, w3⟩
    obtain ⟨hlen, tr⟩ := turn i n ys H3 w3
    have one : ∀ p ∈ [(D, lobj its)], p.1 = D := fun p hp => by
      have e : p = (D, lobj its) := by simpa using hp
      rw [e]
    have eenv : (z7 X scope (ts ++ N2) d).env = compEnvC scope cl C X.env := by subst hd; rfl
    rcases tr with ⟨stop, fin⟩ | ⟨go, N, hN, step⟩
    . refine thn (T.done (z7 X scope (ts ++ N2) d) rfl rfl rfl rfl i _ s3 _ H3 (fun _ _ => False) I3 (Xs fr3 one) st3 stop) fun r s4 ⟨hr, J4⟩ => ?_
      subst hr
      show RR (.ref D) C (.ok .next) s4
      obtain ⟨pe, pn, _⟩ := J4.pin (D, lobj its) (by simp);have fC : H3 C = none := by have := J4.free; rw [eenv] at this; exact this
      have nC : ∃ m, s4.heap.Ns C m := by
        obtain ⟨m, z, _⟩ := J4.loc;rw [eenv] at z;exact ⟨m, z⟩
      subst hd;exact hRR D C s4 H3 ys hCle (Ne.symm hDC) (bd I2 f2 hDle J4 pe pn hv3 hlen) pn fC nC hlen fin
    . refine thn (T.item (z7 X scope (ts ++ N2) d) rfl rfl rfl rfl i _ s3 _ H3 (fun _ _ => False) I3 (Xs fr3 one) st3 go) fun r s4 ⟨u, hr, h4⟩ => ?_
      subst hr;refine thn h4 fun _ s5 ⟨x, H5, I5, r5, y5, st5, fr5⟩ => ?_
      have I5' := I5.pinned (Xs fr5 one) (T.obj _ _ st5);rw [<- eenv];refine thn (hg d _ s5 _ H5 x u _ I5' r5 (step x H5 y5)) fun _ s6 ⟨σ6, H6, I6, hdrop, q6⟩ => ?_
      have back : ∀ {ys' : List V} {its' : List Value} {H' : Hp} {s' : Shared} {pl : List (Addr × Obj)}, Inv (z7 X scope (ts ++ N2) d) ([(D, lobj its')] ++ pl) σ6 H' s' -> Inv (z7 X scope (ts ++ N2) d) [(D, lobj its')] (List.replicate ts.length none ++ σ) H' s' := fun {ys' its' H' s' pl} I' => by
        have hl : σ6.length = (ts ++ N2).length := I'.len;refine (I'.pins_of (pins' := [(D, lobj its')]) fun p hp => I'.pin p (Zu _ (ZX _ hp))).weak ?_ ?_
        . rw [hl]; exact I3.len
        . intro j v e
          by_cases hj : j < ts.length
          . rw [Zg (by simpa using hj), Yl] at e
            split at e <;> cases e
          . have hj' : ts.length <= j := ZD.mp hj
            rw [Zf (by simpa using hj'), ZI, <- hdrop, ZQ] at e;rw [show ts.length + (j - ts.length) = j by omega] at e;exact e
      refine thn (ht d _ s6 σ6 H6 _ I6 q6) fun b s7 ⟨H7, I7, q7⟩ => ?_
      have pinsOf : ∀ {its' : List Value} {H' : Hp} {s' : Shared}, Inv (z7 X scope (ts ++ N2) d) ([(D, lobj its')] ++ mi fp s5.heap) σ6 H' s' -> (∀ b ∈ fp, ∀ o, s5.heap.get? b = some o -> s'.heap.get? b = some o) /\ ∀ b ∈ fp, H' b = none := fun {its' H' s'} I' => by
        refine ⟨fun b hb o e => (I'.pin (b, o) (Zu _ (Zu _ (vn hb e)))).1, fun b hb => ?_⟩;obtain ⟨o, e, _⟩ := T.obj _ _ st5 b hb;exact (I'.pin (b, o) (Zu _ (Zu _ (vn hb e)))).2.1
      cases b with
      | false =>
        have q7' : N ys H7 := by simpa using q7
        obtain ⟨m', hm, w7⟩ := hN _ _ q7';obtain ⟨k1, k2⟩ := pinsOf I7
        show ∃ m, m < n /\ _
        exact ⟨m', hm, i + 1, ys, H7, its, back (ys' := ys) I7, T.keep _ _ _ st5 k1, k2, hv3, w7⟩
      | true =>
        have q7' : te d σ6 H7 fun v H4 => N (ys ++ [v]) H4 := by simpa using q7
        show wpAny _ _ _ _ _ _
        refine wpAny_mono (he d _ _ s7 σ6 H7 _ (I7.intry fun _ c H' => Ex c H') q7') (fun y s8 ⟨v, H8, I8', r8, n8⟩ => ?_) (fun e s8 hx9 => by
          obtain ⟨pl9, σ9, H9, s9, J9, cx9⟩ := hx9;have K9 := Inv.outtry (X := z7 X scope (ts ++ N2) d) J9;obtain ⟨m9, n9, _⟩ := id K9.loc;rw [eenv] at n9;have f9 := K9.free;rw [eenv] at f9
          have I9 : Inv X pins σ H9 s9 := by
            subst hd;exact ze4 I2 f2 K9
          rw [eenv]
          exact hRE (.ref D) C H9 s9 e s8 m9 hCle I9 n9 f9 cx9)
        have I8 := Inv.outtry (X := z7 X scope (ts ++ N2) d) I8';obtain ⟨m', hm, w8⟩ := hN _ _ n8;obtain ⟨k1, k2⟩ := pinsOf I8;obtain ⟨pe, pn, pC, pf, pd⟩ := I8.pin (D, lobj its) (by simp);have hsz : its.toArray.size <= sizeLine := by rw [Zr, <- hv3.length]; exact hlen
        refine append_at (hsz := hsz) pe fun h9 sb9 e9 => ?_
        have J8 : Inv (z7 X scope (ts ++ N2) d) [] σ6 H8 s8 := I8.pins_of fun p hp => nomatch hp
        have hDs : (z7 X scope (ts ++ N2) d).s₀.heap.objs.size <= D := by subst hd; exact hDle
        have J9 : Inv (z7 X scope (ts ++ N2) d) [] σ6 H8 { s8 with heap := h9 } := J8.turned (t' := s8.toks) (it := D) (fun b o hb e => sb9.extBut b o hb e) pn pC (.inr hDs)
          (fun x c e => by
            obtain ⟨v', z⟩ := I3.cell x c e;subst hd;obtain ⟨v2, z2⟩ := I2.cell x c (hcl1 x c e)
            exact Zs (Zh z2.lt hDle)) (fun p hp => nomatch hp)
        have e9' : h9.get? D = some (lobj (its ++ [y])) := by
          rw [e9]
          show some ({ cls := .type "list", data := .seq (its.toArray.push y) (its.length + 1) } : Obj) = some { cls := .type "list", data := .seq (its ++ [y]).toArray (its ++ [y]).length }
          rw [Zo, Yd, List.push_toArray]
        have J9' : Inv (z7 X scope (ts ++ N2) d) ([(D, lobj (its ++ [y]))] ++ []) σ6 H8 { s8 with heap := h9 } := J9.pins_of fun p hp => by
          have e : p = (D, lobj (its ++ [y])) := by simpa using hp
          subst e;exact ⟨e9', pn, pC, pf, fun v z => by cases z⟩
        refine ⟨m', hm, i + 1, ys ++ [v], H8, its ++ [y], back (ys' := ys) J9', ?_, k2, hv3.append (.cons r8 .nil), w8⟩;exact T.keep _ _ _ st5 fun b hb o e => sb9.extBut b o (below b (flt b hb)).2 (k1 b hb o e)
  exact codeAny_compStart_list (loop _ rfl) (T.self _ 0 _ _ _ (T.keep _ _ _ st fun b _ o e => old b o e) (loop _ rfl))
end
theorem ze5 {X : Cx} {P : Program} {w : World} {K : Fg} {mg : Str -> Option Value} {base : Heap} {NN : List Str} {qual : Str} {scp : Scope} {f : Addr} {cd : Value} {A : Around} {outer : List Env} {s0 : Shared} {H0 : Hp} {E : XK} (hX : X = cxOf (CX1 P w) P w K mg base NN qual scp f cd A outer s0 H0 E) {tg elt iter : Expr} {ifs : List Expr} {scope : Scope} {pos spos py : Pos} {i : Nat} {y : Str} (ts N2 : List Str) {wi : TI} {g : Dyn -> TG} {tt : Dyn -> TT} {te : Dyn -> TE} (hN : X.N.Nodup) (hi' : X.N[i]? = some y) (hy : X.env.scope.names.lookup y = some .local) (hc : X.calm = true) (hi : PI X tg iter wi)
    (hg : ∀ d, PG (z7 X scope (ts ++ N2) d) tg (g d)) (ht : ∀ d, PTs (z7 X scope (ts ++ N2) d) ifs (tt d)) (he : ∀ d pn, PE (jt (z7 X scope (ts ++ N2) d) pn fun _ c H' => E c none H') elt (te d))
    (hkind : scope.kind = .function) (hown : pq scope.names = true) (hfree : qg scope.names X.env = true) (hout : wy scope.names N2 X.N = true)
    (hsw : swapsWith (.ListComp elt [⟨tg, iter, ifs, 0⟩] scope pos) (some (.Name y py)) spos.line X.env = pure true)
    (hs : ∀ x, foldedSetIterable iter X.env x = pure x := by intro _; rfl) : PS X (.Assign [.Name y py] (.ListComp elt [⟨tg, iter, ifs, 0⟩] scope pos) spos) (zb6 i (cc ts.length wi g tt te)) := by
  intro pins s σ H D0 I h;obtain ⟨cl, hclos, hcl1, hcl2⟩ := m5 (scope := scope) (env := X.env) fun z hz hf => I.ok.has z.1 (qv hfree hz hf)
  rw [exec_Assign_Name_used _ _ _ _ hsw];refine wpAny_bind (wpAny_standAt (wpAny_bind ?_))
  show wpAny _ X.A (do let _ <- comprehension (.ListComp elt [⟨tg, iter, ifs, 0⟩] scope pos) scope X.env _ (newList []) false (eval iter X.env) (some (assign (.Name y py) X.env))) _ _ s
  refine wpAny_bind (wpAny_mono (wpAny_comprehension_free (use := some (assign (.Name y py) X.env)) (Q := fun _ s' => SP X pins D0 .next s') rfl hs hclos hkind (me hown)
    (thn (hi pins s σ H _ I h) fun v s1 h1 => thn h1 fun itv s2 h2 => ?_)) (fun _ s' hq => wpAny_pure (wpAny_pure hq)) fun _ _ e => e)
  obtain ⟨it, fp, tn, J, H2, e, I2, T, st2, f2, hW⟩ := h2;subst e;refine zae (Ex := fun c H' => E c none H') (RR := fun acc C => compPost (model X.prog X.w) X.A X.xe (some (assign (.Name y py) X.env)) (fun _ s' => SP X pins D0 .next s') acc C) I2 hc T st2 f2 hkind hown hfree hout hcl1 hcl2 hg ht he hW ?_ (fun acc C H' s' e s'' m hC I' hn hf cx => passC hX I' hn hf (Zd I2.sz hC) (Yp (Zh I2.lt hC)) (fun b hb z => absurd (Zh (stk_lt I2 hb) hC) (by rw [z]; exact ZJ _)) cx);intro D C s' H' ys hC hCD I' hD hCn hNs hl fin;obtain ⟨m, hm⟩ := hNs
  show wpAny _ _ _ _ _ _
  have hcl : C ≠ X.env.locals := Yp (Zh I2.lt hC)
  have hcc : ∀ x c, X.env.cells.lookup x = some c -> c ≠ C := fun x c e => by
    obtain ⟨v, q⟩ := I2.cell x c e;exact Zs (Zh q.lt hC)
  refine wpAny_assign_Name (ko I' hN hi' (.inl hy) (v := .ref D) (u := .ref D) rfl (fun s'' I'' ⟨a, sb, ha⟩ => ?_) (.inr hy))
  have haC : C ≠ a := by
    rcases ha with z | z
    . rw [z]; exact hcl
    . exact Ne.symm (hcc y a z)
  refine ⟨m, hm.sameBut sb haC, fun h' sb' => ?_⟩
  have I3 : Inv X pins (σ.set i (some (.ref D))) (upd H' D (.lst ys)) { s'' with heap := h' } := by
    refine I''.turned (t' := s''.toks) (it := C) (fun b o hb e => sb'.extBut b o hb e) (by rw [z8 hCD]; exact hCn) hcl (.inr (Zd I2.sz hC)) hcc fun p hp => ?_
    exact Zs (Zh (Heap.lt_size (I2.pin p hp).1) hC)
  exact ⟨_, _, I3, fin D hD⟩
end L2
namespace L2
open PySem PySem.Spec PyProof.Rows
theorem g7 {x y : Str} {a c : Nat} {pre post r : List Nat} (hy : y.cps.toList = c :: r) (hd : x.cps.toList.drop a = pre ++ (y.cps.toList ++ post)) : StrLaws.At x y x.length (a + pre.length) := by
  have hl : x.cps.toList.length = x.length := by simp [Str.length]
  have hly : y.cps.toList.length = y.length := by simp [Str.length]
  have h1 : 1 <= y.length := by rw [<- hly, hy]; simp
  have e : (x.cps.toList.drop a).length = pre.length + (y.length + post.length) := by rw [hd]; simp [hly]
  rw [ZU, hl] at e
  have hd2 : x.cps.toList.drop (a + pre.length) = y.cps.toList ++ post := by
    rw [<- Yr, hd, Yh]
  refine ⟨by omega, ?_⟩;rw [StrLaws.subAt_eq, hd2, <- hly, YL];simp
theorem ie {x y : Str} {c k : Nat} {r : List Nat} (hy : y.cps.toList = c :: r) (h : StrLaws.At x y x.length k) : x.cps.toList[k]? = some c := by
  have h2 := h.2;rw [StrLaws.subAt_eq] at h2;have h3 : (x.cps.toList.drop k).take y.length = c :: r := by rw [<- hy]; exact eq_of_beq h2
  have h4 : ((x.cps.toList.drop k).take y.length)[0]? = some c := by rw [h3]; rfl
  have hly : 0 < y.length := by
    have : y.cps.toList.length = y.length := by simp [Str.length]
    rw [<- this, hy]; simp
  rw [Yi hly, ZQ] at h4;exact h4
theorem ij {y : Str} {c : Nat} {r : List Nat} (hy : y.cps.toList = c :: r) (x : Str) : ∀ (ps : List Str) (cuts : List Nat) (a f : Nat), ps ≠ [] -> (∀ p ∈ ps, c ∉ p.cps.toList) -> a <= x.length -> x.cps.toList.drop a = (Str.join y ps).cps.toList -> StrLaws.ChainG x y x.length a cuts f -> (∀ k, f <= k -> ¬ StrLaws.At x y x.length k) -> StrLaws.partsFrom x y.length a cuts = ps
  | [], _, _, _, h, _, _, _, _, _ => absurd rfl h
  | [p], cuts, a, f, _, hf, ha, hd, hG, hn => by
    have hl : x.cps.toList.length = x.length := by simp [Str.length]
    have hd' : x.cps.toList.drop a = p.cps.toList := hd
    cases cuts with
    | nil =>
      show [Builtin.Str.strSub x a x.length] = [p]
      congr 1
      apply Str.ext'
      apply ZV.mp
      rw [StrLaws.strSub_toList, hd', ZG];rw [<- hd', ZU, hl];omega
    | cons k rest =>
      exfalso
      have hc := ie hy hG.2.1;have : (x.cps.toList.drop a)[k - a]? = some c := by rw [ZQ, show a + (k - a) = k by have := hG.1; omega]; exact hc
      rw [hd'] at this;exact hf p ZA (Zi this)
  | p :: q :: ps, cuts, a, f, _, hf, ha, hd, hG, hn => by
    have hl : x.cps.toList.length = x.length := by simp [Str.length]
    have hly : y.cps.toList.length = y.length := by simp [Str.length]
    have hlp : p.cps.toList.length = p.length := by simp [Str.length]
    have hd' : x.cps.toList.drop a = p.cps.toList ++ (y.cps.toList ++ (Str.join y (q :: ps)).cps.toList) := by
      rw [hd]
      show (p ++ y ++ Str.join y (q :: ps)).cps.toList = _
      simp only [Str.cps_append, Yk, ZN]
    have hA := g7 hy hd';rw [hlp] at hA
    cases cuts with
    | nil =>
      have e : f = a := hG;exact absurd hA (hn _ (by omega))
    | cons k rest =>
      obtain ⟨g1, g2, g3, g4⟩ := hG;have hc := ie hy g2;have h1 : k <= a + p.length := ZD.mp fun z => g3 _ (Nat.le_add_right _ _) z hA
      have h2 : ¬ k - a < p.length := fun z => by
        have : (x.cps.toList.drop a)[k - a]? = some c := by rw [ZQ, show a + (k - a) = k by omega]; exact hc
        rw [hd', Zg (by rw [hlp]; exact z)] at this;exact hf p ZA (Zi this)
      have ek : k = a + p.length := by omega
      subst ek;have hk := g2.1
      have ih := ij hy x (q :: ps) rest (a + p.length + y.length) f (by simp) (fun z hz => hf z (Zv _ hz)) (by omega) (by
        rw [Nat.add_assoc, <- Yr, hd', <- ZN];have e2 : (p.cps.toList ++ y.cps.toList).length = p.length + y.length := by rw [Zo, hlp, hly]
        rw [<- e2, Yh]) g4 hn
      show Builtin.Str.strSub x a (a + p.length) :: StrLaws.partsFrom x y.length (a + p.length + y.length) rest = p :: q :: ps
      rw [ih]
      congr 1
      apply Str.ext'
      apply ZV.mp
      rw [StrLaws.strSub_toList, hd', Nat.add_sub_cancel_left, <- hlp, YL]
theorem bb (x : Str) : 1 <= Builtin.Str.strKind x := by
  unfold Builtin.Str.strKind
  split
  . exact Zm _
  . split <;> omega
theorem pp {y : Str} {c : Nat} {r : List Nat} (hy : y.cps.toList = c :: r) (hk : Builtin.Str.strKind y = 1) {ps : List Str} (h0 : ps ≠ []) (hf : ∀ p ∈ ps, c ∉ p.cps.toList) : Txt.split (Str.join y ps) y = ps := by
  generalize hx : Str.join y ps = x;have hly : y.cps.toList.length = y.length := by simp [Str.length]
  have h1 : 1 <= y.length := by rw [<- hly, hy]; simp
  obtain ⟨f, hG, hn⟩ := StrLaws.occ_tight x y h1;have key := ij hy x ps _ 0 f h0 hf (ZE _) (by rw [Yx, hx]) hG hn;unfold Txt.split
  split
  . rename_i hc
    rw [Bool.or_eq_true, decide_eq_true_eq, decide_eq_true_eq] at hc
    rcases hc with hc | hc
    . match ps, h0, hx with
      | [p], _, hx => rw [<- hx]; rfl
      | p :: q :: ps, _, hx =>
        exfalso
        have : (p ++ y ++ Str.join y (q :: ps)) = x := hx;have e := congrArg Str.length this;rw [Str.length_append, Str.length_append] at e;omega
    . have := bb x
      omega
  . split
    . rename_i he
      have e0 := List.isEmpty_iff.mp he;rw [e0] at key;have : [Builtin.Str.strSub x 0 x.length] = ps := key;rw [StrLaws.sub_whole] at this;exact this
    . rw [StrLaws.partsBetween_eq]
      exact key
theorem xy (y : Str) (ps : List Str) : Txt.join y ps = Str.join y ps := StrLaws.glued_eq_join y ps
theorem ka : ∀ (k : Nat) (ps : List Str), Vals (ps.map V.str) (strsFrom k ps)
  | _, [] => .nil
  | k, p :: ps => .cons ⟨k, rfl⟩ (ka (k + 1) ps)
section
variable {X : Cx}
def zew : V -> List V -> Hp -> VK -> Prop := fun x vs H Q => ∃ z y, x = .str z /\ vs = [.str y] /\ (y.length == 0) = false /\ z.length <= sizeLine /\ (Txt.split z y).length <= sizeLine /\ ∀ l, H l = none -> Q (.ref l) (upd H l (.lst ((Txt.split z y).map V.str)))
theorem ud : MtM X "str.split" zew := by
  intro pins s σ H x vs v us Q I rx rv h;obtain ⟨z, y, rfl, rfl, hy, hz, hn, q⟩ := h;obtain ⟨t, rfl⟩ := rx;obtain ⟨u, rfl, ru⟩ := rv.one;obtain ⟨t2, rfl⟩ := ru
  have fin : ∀ (its : List Value) (tk : Nat), Vals ((Txt.split z y).map V.str) its -> EP X pins σ Q (.ref s.heap.objs.size) { s with heap := s.heap.push { cls := .type "list", data := .seq its.toArray }, toks := tk } := fun its tk r =>
    ⟨.ref s.heap.objs.size, _, I.laid (t' := tk) (fun b o e => Heap.get?_push_of_some _ e) (Zm _) (show ObjOk X.prog X.w _ _ _ (.lst ((Txt.split z y).map V.str)) from ⟨by rw [Za]; exact hn, its, _, r, Heap.get?_push_size _ rfl⟩), rfl, q _ (I.hok.fresh (Zm _))⟩
  by_cases h1 : (decide (z.length < y.length) || decide (Builtin.Str.strKind z < Builtin.Str.strKind y)) = true
  . have e : Txt.split z y = [z] := by unfold Txt.split; rw [if_pos h1]
    rw [e] at fin;exact call_meets F.slot_str_split (typeIs_str _ _ _) F.entry_str_split (F.args_str_split_2 _ _) (meets_str_split_cannot_occur z y t t2 h1) (fin [.str z t] s.toks (.cons ⟨t, rfl⟩ .nil))
  . by_cases h2 : (Builtin.Str.occurrences z y 0 z.length (z.length + 1)).isEmpty = true
    . have e : Txt.split z y = [z] := by unfold Txt.split; rw [if_neg h1, if_pos h2]
      rw [e] at fin;exact call_meets F.slot_str_split (typeIs_str _ _ _) F.entry_str_split (F.args_str_split_2 _ _) (meets_str_split_not_found z y t t2 (Bool.eq_false_iff.mpr h1) hy h2) (fin [.str z t] s.toks (.cons ⟨t, rfl⟩ .nil))
    . have e : Txt.split z y = Builtin.Str.partsBetween z (Builtin.Str.occurrences z y 0 z.length (z.length + 1)) y.length := by unfold Txt.split; rw [if_neg h1, if_neg h2]
      rw [e] at fin hn;exact call_meets F.slot_str_split (typeIs_str _ _ _) F.entry_str_split (F.args_str_split_2 _ _) (meets_str_split_sep z y t t2 (Bool.eq_false_iff.mpr h1) hy (Bool.eq_false_iff.mpr h2) hz hn) (fin _ _ (ka _ _))
theorem zf7 {x : V} {vs : List V} {H : Hp} {Q : VK} : zew x vs H Q = ∃ z y, x = .str z /\ vs = [.str y] /\ (y.length == 0) = false /\ z.length <= sizeLine /\ (Txt.split z y).length <= sizeLine /\ ∀ l, H l = none -> Q (.ref l) (upd H l (.lst ((Txt.split z y).map V.str))) := rfl
end
end L2
namespace L2
open PySem PySem.Spec PyProof.Rows
end L2
namespace L2
open PySem PySem.Spec PyProof.Rows
def zcw (K : Fg) (mg : Str -> Option Value) (name : Str) (xs : List V) : Prop := ∃ p, mg name = some (.ref p) /\ ∀ H, SqT K H p xs
theorem tup_mk {K : Fg} {h : Heap} {mg : Str -> Option Value} (X : K.In h) (G : h.Ns mainGlobals mg) {name : Str} {p : Addr} {od : Option Addr} {its : Array Value} {n : Nat} {osl : Array (Option Value)} {xs : List V} (e : PySem.W.nsIn K mainGlobals name = some (some (.ref p))) (l : K.lookup p = some ⟨.type "tuple", od, .seq its n, osl⟩) (hz : its.size <= sizeLine) (r : Vals xs its.toList) : zcw K mg name xs :=
  ⟨p, PySem.W.mg_of X G e, fun H => .inr ⟨_, its, n, l, rfl, rfl, hz, r⟩⟩
def tGlT (K : Fg) (xs : List V) : TE := fun _ H Q => ∀ p, SqT K H p xs -> Q (.ref p) H
theorem zfz {X : Cx} {x : Str} {xs : List V} {pos : Pos} (hg : Gl X x) (hm : zcw X.K X.mg x xs) (hd : (x == ("__debug__" : Str)) = false := by decide) : PE X (.Name x pos) (tGlT X.K xs) := by
  obtain ⟨p, hm, hs⟩ := hm;intro pins s σ H Q I h;exact g0 (v := .ref p) hg hm rfl hd pins s σ H Q I (h p (hs H))
theorem e_glT {K : Fg} {xs : List V} {σ : St} {H : Hp} {Q : VK} : tGlT K xs σ H Q = ∀ p, SqT K H p xs -> Q (.ref p) H := rfl
end L2
namespace L2
open PySem PySem.Spec PyProof.Rows
def rIntS (xs : List V) (H : Hp) (Q : VK) : Prop := ∃ (x : Str) (n : Int), xs = [.str x] /\ PySem.intText? x = some n /\ x.length <= 640 /\ Q (.int n) H
theorem e_intS {xs : List V} {H : Hp} {Q : VK} : rIntS xs H Q = ∃ (x : Str) (n : Int), xs = [.str x] /\ PySem.intText? x = some n /\ x.length <= 640 /\ Q (.int n) H := rfl
section
variable {X : Cx}
theorem jb : CallR X (.type "int") rIntS := by
  intro pins s σ H xs us Q I r h;obtain ⟨x, n, rfl, hn, hl, q⟩ := h;obtain ⟨u, rfl, t, rfl⟩ := qy r;exact PySem.W.KIN.call_text hn hl ⟨.int n, H, I.tok _, ⟨_, rfl⟩, q⟩
end
section
variable {a b c d t e u : TS} {tc : TT} {D : Ends} {σ : L2.St} {H : Hp}
theorem gh (h : ∀ T : TS, T = t -> tSeq a T D σ H) : tSeq a t D σ H := h t rfl
theorem zcb (h : ∀ T : TS, T = t -> tSeq a (tSeq b T) D σ H) : tSeq a (tSeq b t) D σ H := h t rfl
theorem hide3 (h : ∀ T : TS, T = t -> tSeq a (tSeq b (tSeq c T)) D σ H) : tSeq a (tSeq b (tSeq c t)) D σ H := h t rfl
theorem zcm (h : ∀ T : TS, T = t -> tSeq a (tSeq b (tSeq c (tSeq d T))) D σ H) : tSeq a (tSeq b (tSeq c (tSeq d t))) D σ H := h t rfl
theorem hideK (h : ∀ T : TS, T = t -> tSeq (tIfS tc T e) u D σ H) : tSeq (tIfS tc t e) u D σ H := h t rfl
end
end L2
namespace L2
open PySem PySem.Spec PyProof.Rows
section
variable {P : Program} {w : World} {A : Around} {E : Value -> Shared -> Prop} {s : Shared}
def RawAt (h : Heap) (d : Addr) (es : Array DictEntry) (ep : Nat) : Prop := ∃ o, h.get? d = some o /\ o.ExactDict /\ o.data = .dict es ep
theorem RawAt.ty {d : Addr} {es : Array DictEntry} {ep : Nat} (x : RawAt s.heap d es ep) : s.TypeIs (.ref d) "dict" := let ⟨o, ho, hc, _⟩ := x; ⟨o, ho, hc.1⟩
end
def zdu (H : Hp) (kvs : List (List Key × V)) (as : List Addr) : Prop := Paired (fun (p : List Key × V) (a : Addr) => H a = some (.tup (p.1.map kV))) kvs as
def rListT (xs : List V) (H : Hp) (Q : VK) : Prop := ∃ (a : Addr) (kvs : List (List Key × V)), xs = [.ref a] /\ H a = some (.dT kvs) /\ ∀ as, zdu H kvs as -> ∀ p, H p = none -> Q (.ref p) (upd H p (.lst (as.map V.ref)))
theorem zf6 {xs : List V} {H : Hp} {Q : VK} : rListT xs H Q = ∃ (a : Addr) (kvs : List (List Key × V)), xs = [.ref a] /\ H a = some (.dT kvs) /\ ∀ as, zdu H kvs as -> ∀ p, H p = none -> Q (.ref p) (upd H p (.lst (as.map V.ref))) := rfl
section
variable {X : Cx}
end
section
variable {X : Cx} {e st : Expr} {te : TE} {ts : TO} {pos p2 : Pos}
def tDown (K : Fg) (te : TE) (ts : TO) : TE := fun σ H Q => te σ H fun x H1 => ts σ H1 fun k H2 => k = some (-1) /\ ∃ a xs, x = .ref a /\ SqL K H2 a xs /\ ∀ p, H2 p = none -> Q (.ref p) (upd H2 p (.lst xs.reverse))
theorem e_down {K : Fg} {σ : St} {H : Hp} {Q : VK} : tDown K te ts σ H Q = te σ H fun x H1 => ts σ H1 fun k H2 => k = some (-1) /\ ∃ a xs, x = .ref a /\ SqL K H2 a xs /\ ∀ p, H2 p = none -> Q (.ref p) (upd H2 p (.lst xs.reverse)) := rfl
end
end L2
namespace L2
open PySem PySem.Spec PyProof.Rows
section
variable {X : Cx} {tg : Expr}
end
end L2
namespace L2
open PySem PySem.Spec PyProof.Rows
section
variable {prog : Program} {w : World} {K : Type} [DecidableEq K] {knd : KeyKind prog w K}
end
section
variable {X : Cx} {pins : List (Addr × Obj)} {σ : St} {H : Hp} {s : Shared}
end
end L2
namespace L2
open PySem PySem.Spec PyProof.Rows
section
variable {prog : Program} {w : World} {K : Type} [DecidableEq K] {knd : KeyKind prog w K} {A : Around} {E : Value -> Shared -> Prop} {s : Shared}
end
section
variable {X : Cx}
end
end L2
namespace L2
open PySem PySem.Spec PyProof.Rows AutoSeq1
set_option maxHeartbeats 1000000 in
section
variable {prog : Program} {w : World} {A : Around} {E : Value -> Shared -> Prop} {s : Shared}
end
section
variable {σ : St} {k : Nat} {g : TG} {tt : TT} {te : TE} {H1 : Hp} {Fin : List V -> Hp -> Prop}
end
end L2
namespace L2
open PySem PySem.Spec PyProof.Rows
section
variable {X : Cx} {c e : Expr} {te : TE} {x : Str} {p2 pos : Pos}
end
section
variable {X : Cx}
end
end L2
namespace L2
open PySem PySem.Spec PyProof.Rows
section
variable {X : Cx}
end
section
variable {σ : St} {k : Nat} {g : TG} {tt : TT} {te : TE} {H1 : Hp} {Fin : List V -> Hp -> Prop}
end
end L2
namespace L2
open PySem PySem.Spec PyProof.Rows
section
variable {X : Cx} {e st : Expr} {te : TE} {ts : TO} {pos p2 : Pos}
end
section
variable {prog : Program} {w : World} {K : Type} [DecidableEq K] {knd : KeyKind prog w K} {A : Around} {E : Value -> Shared -> Prop} {s : Shared}
end
end L2
namespace L2
open PySem PySem.Spec PyProof.Rows
section
variable {X : Cx} {tg : Expr}
end
section
variable {X : Cx}
end
end L2
namespace L2
open PySem PySem.Spec PyProof.Rows
section
variable {X : Cx}
end
section
variable {X : Cx}
end
section
variable {σ : St} {k : Nat} {g : TG} {tt : TT} {te : TE} {H1 : Hp} {Fin : List V -> Hp -> Prop}
end
end L2
namespace L2
open PySem PySem.Spec PyProof.Rows
def offH {K : Type} [DecidableEq K] (xs : List (K × Addr × Value)) (k : K) : List (K × Addr × Value) := xs.filter fun x => decide (x.1 ≠ k)
section
variable {X : Cx} {pins : List (Addr × Obj)} {σ : St} {H : Hp} {s : Shared} {A : Around} {E : Value -> Shared -> Prop}
theorem KT.off {H : Hp} {kvs : List (List Key × V)} {xs : List (List Key × Addr × Value)} (r : KT H kvs xs) (k : List Key) : KT H (cf kvs k) (offH xs k) := by
  unfold cf offH
  induction r with
  | nil => exact .nil
  | @cons p q ps qs h t ih =>
    by_cases e : p.1 = k
    . rw [List.filter_cons_of_neg (by simp [e]), List.filter_cons_of_neg (by simp [<- h.1, e])]
      exact ih
    . rw [List.filter_cons_of_pos (by simp [e]), List.filter_cons_of_pos (by simp [<- h.1, e])]
      exact .cons h ih
end
section
variable {X : Cx} {o e f : Expr} {apos cpos : Pos} {td ty tx : TE}
end
end L2
namespace L2
open PySem PySem.Spec PyProof.Rows
section
variable {X : Cx}
end
section
variable {X : Cx} {o e f : Expr} {apos cpos : Pos} {td ty tx : TE}
end
end L2
namespace L2
open PySem PySem.Spec PyProof.Rows
section
variable {X : Cx}
def rSlS : V -> Option Int -> Option Int -> Hp -> VK -> Prop := fun x _ _ H Q => ∃ z : Str, x = .str z /\ z.length <= sizeLine /\ ∀ y : Str, y.length <= z.length -> Q (.str y) H
theorem e_slS {x : V} {lo hi : Option Int} {H : Hp} {Q : VK} : rSlS x lo hi H Q = ∃ z : Str, x = .str z /\ z.length <= sizeLine /\ ∀ y : Str, y.length <= z.length -> Q (.str y) H := rfl
end
end L2
namespace L2
open PySem PySem.Spec PyProof.Rows
section
variable {X : Cx}
def rPart : V -> List V -> Hp -> VK -> Prop := fun x vs H Q => ∃ z y, x = .str z /\ vs = [.str y] /\ (y.length == 0) = false /\ z.length <= sizeLine /\ ∀ l, H l = none -> Q (.ref l) (upd H l (.tup [.str (Txt.partition z y).1, .str (Txt.partition z y).2.1, .str (Txt.partition z y).2.2]))
theorem zgm {x : V} {vs : List V} {H : Hp} {Q : VK} : rPart x vs H Q = ∃ z y, x = .str z /\ vs = [.str y] /\ (y.length == 0) = false /\ z.length <= sizeLine /\ ∀ l, H l = none -> Q (.ref l) (upd H l (.tup [.str (Txt.partition z y).1, .str (Txt.partition z y).2.1, .str (Txt.partition z y).2.2])) := rfl
theorem kj : MtM X "str.partition" rPart := by
  intro pins s σ H x vs v us Q I rx rv h;obtain ⟨z, y, rfl, rfl, hy, hz, q⟩ := h;obtain ⟨t, rfl⟩ := rx;obtain ⟨u, rfl, ru⟩ := rv.one;obtain ⟨t2, rfl⟩ := ru
  have fin : ∀ (its : List Value) (tk : Nat), Vals [.str (Txt.partition z y).1, .str (Txt.partition z y).2.1, .str (Txt.partition z y).2.2] its -> EP X pins σ Q (.ref s.heap.objs.size) { s with heap := s.heap.push { cls := .type "tuple", data := .seq its.toArray }, toks := tk } := fun its tk r =>
    ⟨.ref s.heap.objs.size, _, I.laid (t' := tk) (fun b o e => Heap.get?_push_of_some _ e) (Zm _) (show ObjOk X.prog X.w _ _ _ (.tup [.str (Txt.partition z y).1, .str (Txt.partition z y).2.1, .str (Txt.partition z y).2.2]) from ⟨by show 3 <= sizeLine; decide, its, r, IsTupD.new _ _⟩), rfl, q _ (I.hok.fresh (Zm _))⟩
  refine call_meets F.slot_str_partition (typeIs_str _ _ _) F.entry_str_partition (F.args_str_partition_2 _ _) (meets_str_partition z y t t2 hy hz) ?_;unfold Txt.partition at fin
  revert fin
  cases Builtin.Str.occurrences z y 0 z.length 1 with
  | nil => intro fin; exact fin _ _ (.cons ⟨_, rfl⟩ (.cons ⟨_, rfl⟩ (.cons ⟨_, rfl⟩ .nil)))
  | cons i r => intro fin; exact fin _ _ (.cons ⟨_, rfl⟩ (.cons ⟨_, rfl⟩ (.cons ⟨_, rfl⟩ .nil)))
def zbs : V -> List V -> Hp -> VK -> Prop := fun x vs H Q => ∃ z y, x = .str z /\ vs = [.str y] /\ Q (.bl (Txt.startswith z y)) H
theorem ze0 {x : V} {vs : List V} {H : Hp} {Q : VK} : zbs x vs H Q = ∃ z y, x = .str z /\ vs = [.str y] /\ Q (.bl (Txt.startswith z y)) H := rfl
theorem zdo : MtM X "str.startswith" zbs := by
  intro pins s σ H x vs v us Q I rx rv h;obtain ⟨z, y, rfl, rfl, q⟩ := h;obtain ⟨t, rfl⟩ := rx;obtain ⟨u, rfl, ru⟩ := rv.one;obtain ⟨t2, rfl⟩ := ru;exact call_gives F.slot_str_startswith (typeIs_str _ _ _) F.entry_str_startswith (F.args_str_startswith_2 _ _) (gives_str_startswith z y t t2) ⟨.bl _, H, I, rfl, q⟩
def intS (n : Int) : Str := Str.ofString (toString n)
def rStrI (xs : List V) (H : Hp) (Q : VK) : Prop := ∃ n : Int, xs = [.int n] /\ -(10 ^ 61) < n /\ n < 10 ^ 61 /\ Q (.str (intS n)) H
theorem e_strI {xs : List V} {H : Hp} {Q : VK} : rStrI xs H Q = ∃ n : Int, xs = [.int n] /\ -(10 ^ 61) < n /\ n < 10 ^ 61 /\ Q (.str (intS n)) H := rfl
theorem kg : CallR X (.type "str") rStrI := by
  intro pins s σ H xs us Q I r h;obtain ⟨n, rfl, h1, h2, q⟩ := h;obtain ⟨u, rfl, t, rfl⟩ := qy r;exact P.str_of_int (shown h1 h2 (by decide +kernel)) ⟨.str (intS n), H, I.tok _, ⟨_, rfl⟩, q⟩
end
end L2
namespace L2
open PySem PySem.Spec PyProof.Rows
structure MtIn (K : Fg) (C : Addr) (m qual : Str) (st : Stmt) (ps : List Str) : Prop where
  ex : ∃ f fd, Meth K C m f /\ Fun K m qual st f fd /\ Binds K fd ps []
structure ca (P : Program) (w : World) (K : Fg) (mg : Str -> Option Value) (base : Heap) (C : Addr) (m : Str) (k : Nat) (ps : List Str) (sp : Sp) : Prop where
  ex : ∃ f fd, Meth K C m f /\ Binds K fd ps [] /\ FnOk P w K mg base (CX1 P w) k f fd ps sp
theorem zf2 {P : Program} {w : World} {K : Fg} {mg : Str -> Option Value} {base : Heap} {C : Addr} {m qual : Str} {st : Stmt} {N ps : List Str} {k : Nat} {sp : Sp} (D : MtIn K C m qual st ps) (S : zr N ps (zh st)) (len : ∀ vs H Q E, sp vs H Q E -> vs.length = ps.length)
    (hbody : ∀ (f : Addr) (cdv : Value) (A : Around) (outer : List Env) (s : Shared) (H : Hp) (vs : List V) (Q : VK) (E : XK), Room k (A.deeper (envOfC qual (zh st) s.heap.objs.size f cdv)) -> sp vs H Q E ->
      ∃ t, PSs (cxOf (CX1 P w) P w K mg base N qual (zh st) f cdv A outer s H E) (ya st) t /\ t { nx := fun _ H' => Q .non H', rt := Q } (start N vs) H) : ca P w K mg base C m (k + 1) ps sp := by
  obtain ⟨f, fd, hm, F, hb⟩ := D.ex;refine ⟨f, fd, hm, hb, ?_⟩;obtain ⟨oc, od, kV, doc, pm, an, cdv, ct, osl, rfl, lk, hcd⟩ := F.ex;exact zch lk hcd S len (hbody f cdv)
structure MkAt (P : Program) (w : World) (K : Fg) (mg : Str -> Option Value) (base : Heap) (name : Str) (C : Addr) (k : Nat) (ps : List Str) (sp : Sp) : Prop where
  ex : ∃ f fd, Mk K C f /\ mg name = some (.ref C) /\ Binds K fd ps [] /\ FnOk P w K mg base CX0 k f fd ps sp
structure jh (K : Fg) (mg : Str -> Option Value) (name : Str) (C : Addr) (qual : Str) (st : Stmt) (ps : List Str) (fs : List Str) : Prop where
  ex : ∃ f fd, Mk K C f /\ mg name = some (.ref C) /\ Fun K "__init__" qual st f fd /\ Binds K fd ps []
  cl : Cls K C
  no : ∀ f ∈ fs, NoAttr K C f
theorem zgv {P : Program} {w : World} {K : Fg} {mg : Str -> Option Value} {base : Heap} {name qual : Str} {C : Addr} {st : Stmt} {N ps fs : List Str} {k : Nat} {sp : Sp} (D : jh K mg name C qual st ps fs) (S : zr N ps (zh st)) (len : ∀ vs H Q E, sp vs H Q E -> vs.length = ps.length)
    (hbody : ∀ (f : Addr) (cdv : Value) (A : Around) (outer : List Env) (s : Shared) (H : Hp) (vs : List V) (Q : VK) (E : XK), Room k (A.deeper (envOfC qual (zh st) s.heap.objs.size f cdv)) -> sp vs H Q E ->
      ∃ t, PSs (cxOf CX0 P w K mg base N qual (zh st) f cdv A outer s H E).nox (ya st) t /\ t { nx := fun _ H' => Q .non H', rt := Q } (start N vs) H) : MkAt P w K mg base name C (k + 1) ps sp := by
  obtain ⟨f, fd, hM, hm, F, hb⟩ := D.ex;exact ⟨f, fd, hM, hm, hb, F.ok S len (hbody f)⟩
section
variable {X : Cx} {x m : Str} {C : Addr} {k : Nat} {ps : List Str} {sp : Sp} {p apos pos : Pos} {o e : Expr} {es : List Expr} {t : TA} {ta : TE}
theorem pe_mkA (F : MkAt X.prog X.w X.K X.mg X.base x C k ps sp) (hr : Room (k + 1) X.A) (hg : Gl X x) (hdb : (x == ("__debug__" : Str)) = false := by decide) : PE X (.Call (.Name x p) [] [] pos) (ce C sp [] E0 tNil) := by
  obtain ⟨f, fd, hM, hm, hb, G⟩ := F.ex;exact zf4 hM G hr hg hm hb .nil pass0 hdb
theorem bx {pl : Sem Bool} (he : PE X o ta) (c : Cls X.K C) (F : ca X.prog X.w X.K X.mg X.base C m k ps sp) (hr : Room k X.A) (ha : PA X (e :: es) t)
    (hst : starEach (e :: es) X.env = (false, eval e X.env) :: starEach es X.env := by rfl) (hpl : (backTo pos (starEach es X.env)).any (·.1) = false := by rfl)
    (ht : eval (.Call (.Attribute o m apos) (e :: es) [] pos) X.env = (do
      let ov <- eval o X.env
      standAt apos.atName
      let (f, first) <- holding [ov] (getMethod ov m pl)
      callWith pos f first (backTo pos (starEach (e :: es) X.env)) (backToKw pos (keywordEach [] X.env))) := by rfl) :
    PE X (.Call (.Attribute o m apos) (e :: es) [] pos) (cb C m sp [] E0 ta t) := by
  obtain ⟨f, fd, hm, hb, G⟩ := F.ex;exact zgh he c hm G hr hb .nil pass1 ha hst hpl ht
theorem e_meth {E : XK} {σ : St} {H : Hp} {Q : VK} : cb C m sp [] E ta t σ H Q = ta σ H fun x H1 => ∃ a dx fs, x = .ref a /\ H1 a = some (.ins C dx fs) /\ fs.lookup m = none /\ t σ H1 fun vs H2 => sp (x :: vs) H2 Q E := by
  simp only [cb, ZO]
theorem e_make {E : XK} {σ : St} {H : Hp} {Q : VK} : ce C sp [] E t σ H Q = t σ H fun vs H1 => ∀ x dx, H1 x = none -> H1 dx = none -> dx ≠ x -> sp (.ref x :: vs) (upd (upd H1 dx (.own x)) x (.ins C dx [])) (fun v H2 => v = .non /\ Q (.ref x) H2) E := by
  simp only [ce, ZO]
theorem e_fld {K : Fg} {f : Str} {σ : St} {H : Hp} {Q : VK} : tFld K ta f σ H Q = ta σ H fun x H1 => ∃ a C dx fs v, x = .ref a /\ H1 a = some (.ins C dx fs) /\ Cls K C /\ NoAttr K C f /\ fs.lookup f = some v /\ Q v H1 := rfl
end
end L2
namespace L2
open PySem PySem.Spec PyProof.Rows
def o6 (P : Program) (w : World) (K : Fg) (mg : Str -> Option Value) (ns : List (Str × Str)) (p : Addr) : Prop :=
  (p == sysModules) = false /\ (∀ n ∈ ns, (mg n.2).isSome = true) /\ ∀ h : Heap, K.In h -> ∃ kvs : List (Key × Value), h.DictOf (xq P w) p kvs /\ ∀ z : Str, valueAt kvs (.inr z) = (ns.lookup z).bind mg
def na (P : Program) (w : World) (K : Fg) (mg : Str -> Option Value) (name : Str) (ns : List (Str × Str)) : Prop := ∃ p, mg name = some (.ref p) /\ o6 P w K mg ns p
section
variable {X : Cx} {ns : List (Str × Str)}
def tGlD (P : Program) (w : World) (K : Fg) (mg : Str -> Option Value) (ns : List (Str × Str)) : TE := fun _ H Q => ∀ p, o6 P w K mg ns p -> Q (.ref p) H
theorem e_glD {P : Program} {w : World} {K : Fg} {mg : Str -> Option Value} {σ : St} {H : Hp} {Q : VK} : tGlD P w K mg ns σ H Q = ∀ p, o6 P w K mg ns p -> Q (.ref p) H := rfl
theorem oa {x : Str} {pos : Pos} (hg : Gl X x) (hm : na X.prog X.w X.K X.mg x ns) (hd : (x == ("__debug__" : Str)) = false := by decide) : PE X (.Name x pos) (tGlD X.prog X.w X.K X.mg ns) := by
  obtain ⟨p, hm, hs⟩ := hm;intro pins s σ H Q I h;exact g0 (v := .ref p) hg hm rfl hd pins s σ H Q I (h p hs)
theorem iy : ∀ {ns : List (Str × Str)} {z n : Str}, ns.lookup z = some n -> ∃ m ∈ ns, m.2 = n
  | (a, b) :: ns, z, n, h => by
    rw [ZF] at h
    split at h
    . exact ⟨_, ZA, Option.some.inj h⟩
    . obtain ⟨m, h1, h2⟩ := iy h
      exact ⟨m, Zv _ h1, h2⟩
theorem i0 {P : Program} {w : World} {K : Fg} {mg : Str -> Option Value} {p : Addr} (h : o6 P w K mg ns p) (z : Str) : ((ns.lookup z).bind mg).isSome = (ns.lookup z).isSome := by
  cases e : ns.lookup z with
  | none => rfl
  | some n =>
    obtain ⟨m, h1, rfl⟩ := iy e;exact h.2.1 m h1
def rInG (P : Program) (w : World) (K : Fg) (mg : Str -> Option Value) (neg : Bool) : R2 := fun y x H Q => ∃ a z ns, x = .ref a /\ y = .str z /\ o6 P w K mg ns a /\ Q (.bl (neg ^^ (ns.lookup z).isSome)) H
theorem e_inG {P : Program} {w : World} {K : Fg} {mg : Str -> Option Value} {neg : Bool} {y x : V} {H : Hp} {Q : VK} : rInG P w K mg neg y x H Q = ∃ a z ns, x = .ref a /\ y = .str z /\ o6 P w K mg ns a /\ Q (.bl (neg ^^ (ns.lookup z).isSome)) H := rfl
theorem op_inG : OpR X (compareOp .In) (rInG X.prog X.w X.K X.mg false) := by
  intro pins s σ H x y v u Q I rx ry h;obtain ⟨a, z, ns, rfl, rfl, g, q⟩ := h;cases ry;obtain ⟨kvs, dd, hv⟩ := g.2.2 _ I.kIn;refine wpAny_in_of (jd (k := .inr z) rx) g.1 dd.mapOf ?_;rw [hv, i0 g];exact ⟨.bl (ns.lookup z).isSome, H, I.tok _, rfl, by simpa using q⟩
theorem eu : OpR X (compareOp .NotIn) (rInG X.prog X.w X.K X.mg true) := by
  intro pins s σ H x y v u Q I rx ry h;obtain ⟨a, z, ns, rfl, rfl, g, q⟩ := h;cases ry;obtain ⟨kvs, dd, hv⟩ := g.2.2 _ I.kIn;refine wpAny_notIn_of (jd (k := .inr z) rx) g.1 dd.mapOf ?_;rw [hv, i0 g];exact ⟨.bl (!(ns.lookup z).isSome), H, I.tok _, rfl, by simpa using q⟩
def tGetG (P : Program) (w : World) (K : Fg) (mg : Str -> Option Value) (td ty : TE) : TE := fun σ H Q => td σ H fun x H1 => ty σ H1 fun y H2 => ∃ a z n f ns, x = .ref a /\ y = .str z /\ o6 P w K mg ns a /\ ns.lookup z = some n /\ mg n = some (.ref f) /\ Q (.ref f) H2
theorem e_getG {P : Program} {w : World} {K : Fg} {mg : Str -> Option Value} {td ty : TE} {σ : St} {H : Hp} {Q : VK} : tGetG P w K mg td ty σ H Q = td σ H fun x H1 => ty σ H1 fun y H2 => ∃ a z n f ns, x = .ref a /\ y = .str z /\ o6 P w K mg ns a /\ ns.lookup z = some n /\ mg n = some (.ref f) /\ Q (.ref f) H2 := rfl
theorem zbh {o i : Expr} {pos : Pos} {td ty : TE} (ho : PE X o td) (hi : PE X i ty) (hs : NoSl i) : PE X (.Subscript o i pos) (tGetG X.prog X.w X.K X.mg td ty) := by
  intro pins s σ H Q I h;refine zbj PySem.F.slot_dict_getitem.lookup hs (thn (ho pins s σ H _ I h) fun u s1 ⟨x, H1, I1, rx, q1⟩ => thn (hi pins s1 σ H1 _ I1 q1) fun iv s2 ⟨y, H2, I2, ry, a, z, n, f, ns, ex, ey, g, l, m, q2⟩ => ?_);subst ex ey;obtain rfl : u = Value.ref a := rx;obtain ⟨kvs, dd, hv⟩ := g.2.2 _ I2.kIn;have hw : valueAt kvs (.inr z) = some (.ref f) := by rw [hv, l]; exact m
  exact ⟨dd.typeIs, wpAny_getItem_of (jd (k := .inr z) ry) dd.mapOf hw ⟨.ref f, H2, I2.tok _, rfl, q2⟩⟩
end
section
variable {X : Cx} {k : Nat} {ps : List Str} {pos p1 : Pos} {e o i : Expr} {es : List Expr} {t : TA} {tf : TE}
def FnRX (P : Program) (w : World) (K : Fg) (mg : Str -> Option Value) (base : Heap) (f : Addr) (k : Nat) (ps : List Str) (sp : Sp) : Prop := ∃ fd, PySem.W.keepIn K (.ref f) = true /\ Binds K fd ps [] /\ FnOk P w K mg base (CX1 P w) k f fd ps sp
def zep (P : Program) (w : World) (K : Fg) (mg : Str -> Option Value) (base : Heap) (k : Nat) (ps : List Str) (J : St -> Value -> Hp -> Prop) (tf : TE) (t : TA) : TE := fun σ H Q => tf σ H fun v H1 => ∃ f sp, v = .ref f /\ FnRX P w K mg base f k ps sp /\ t σ H1 fun vs H2 => sp vs H2 Q fun c _ H' => J σ c H'
theorem zg1 {P : Program} {w : World} {K : Fg} {mg : Str -> Option Value} {base : Heap} {J : St -> Value -> Hp -> Prop} {σ : St} {H : Hp} {Q : VK} : zep P w K mg base k ps J tf t σ H Q = tf σ H fun v H1 => ∃ f sp, v = .ref f /\ FnRX P w K mg base f k ps sp /\ t σ H1 fun vs H2 => sp vs H2 Q fun c _ H' => J σ c H' := rfl
theorem cz (k : Nat) (ps : List Str) {J : St -> Value -> Hp -> Prop} (hf : PE X (.Subscript o i p1) tf) (hr : Room k X.A) (hx : cg X J) (ha : PA X (e :: es) t) (he : starEach (e :: es) X.env = (false, eval e X.env) :: starEach es X.env := by rfl)
    (hpl : (backTo pos (starEach es X.env)).any (·.1) = false := by rfl) : PE X (.Call (.Subscript o i p1) (e :: es) [] pos) (zep X.prog X.w X.K X.mg X.base k ps J tf t) := by
  intro pins s σ H Q I h
  show wpAny _ _ (eval (.Call (.Subscript o i p1) (e :: es) [] pos) X.env) _ _ s
  rw [show eval (.Call (.Subscript o i p1) (e :: es) [] pos) X.env = (do callWith pos (<- eval (.Subscript o i p1) X.env) [] (backTo pos (starEach (e :: es) X.env)) (backToKw pos (keywordEach [] X.env))) from rfl];refine wpAny_bind (thn (hf pins s σ H _ I h) fun u s0 ⟨v, H0, I0, rv, f, sp, ev, ⟨fd, hk, hb, G⟩, q0⟩ => ?_);subst ev;obtain rfl : u = Value.ref f := rv;refine PySem.W.callWith_K (h₀ := X.base) I.ok.mod.kin hk (thn (ha pos pins s0 σ H0 _ I0 q0) fun us s1 ⟨vs, H1, I1, r, q⟩ => ⟨I1.kIn, ?_⟩) he hpl;have hl : (us ++ []).length = ps.length := by rw [ZO, <- r.length]; exact G.len _ _ _ _ q
  refine wpAny_call (codeAny_mono (G.run X.A X.stack s1 H1 ⟨us, []⟩ us vs Q _ hr I1.env0 (by have := hb s1 us I1.kIn hl; rw [ZO] at this; exact this) r q) fun r' s' hq => ?_)
  cases r' with
  | error e => exact hx pins σ H1 s1 e s' I1 hq
  | ok fl =>
    cases fl with
    | ret u => exact I1.after hq
    | next => exact False.elim hq
    | brk => exact False.elim hq
    | cont => exact False.elim hq
end
end L2
namespace L2
open PySem PySem.Spec PyProof.Rows
def entD (w : World) (k : Str × Nat × Value) : DictEntry := ⟨PyData.keyHash w.params k.1, .str k.1 k.2.1, k.2.2⟩
theorem za9 {P : Program} {w : World} : ∀ ks : List (Str × Nat × Value), Pairs (xq P w) (ks.map (entD w)) (ks.map fun k => ((.inr k.1 : Key), k.2.2))
  | [] => .nil
  | k :: ks => .cons (nw P w k.1 k.2.1) rfl (za9 ks)
theorem eo {mg : Str -> Option Value} (z : Str) : ∀ {ns : List (Str × Str)} {ks : List (Str × Nat × Value)}, ns.map (fun n => n.1) = ks.map (fun k => k.1) -> ns.map (fun n => mg n.2) = ks.map (fun k => some k.2.2) -> valueAt (ks.map fun k => ((.inr k.1 : Key), k.2.2)) (.inr z) = (ns.lookup z).bind mg
  | [], [], _, _ => rfl
  | [], _ :: _, h, _ => by simp at h
  | _ :: _, [], h, _ => by simp at h
  | n :: ns, k :: ks, h1, h2 => by
    simp only [ZM, List.cons.injEq] at h1 h2;have ih := eo (mg := mg) z h1.2 h2.2;obtain ⟨a, b⟩ := n;simp only at h1 h2;rw [valueAt, ZM, Ye, zdt, ZF]
    by_cases e : k.1 = z
    . have e2 : (z == a) = true := by rw [h1.1, e]; exact beq_self_eq_true z
      rw [decide_eq_true e, e2]
      show some k.2.2 = mg b
      exact h2.1.symm
    . have e2 : (z == a) = false := by rw [h1.1]; exact beq_eq_false_iff_ne.mpr (Ne.symm e)
      rw [decide_eq_false e, e2];exact ih
theorem za4 : ∀ {xs : List Str}, xs.Nodup -> (xs.map fun x => (.inr x : Key)).Nodup
  | [], _ => List.nodup_nil
  | x :: xs, h => by
    rw [Yc] at h;rw [ZM, Yc];refine ⟨fun hm => ?_, za4 h.2⟩;obtain ⟨y, hy, e⟩ := Zp.mp hm;exact h.1 (Sum.inr.inj e ▸ hy)
theorem zet {P : Program} {w : World} {K : Fg} {h : Heap} {mg : Str -> Option Value} (X : K.In h) (G : h.Ns mainGlobals mg) {name : Str} {p : Addr} {es : Array DictEntry} {n : Nat} {ks : List (Str × Nat × Value)} {ns : List (Str × Str)}
    (e : PySem.W.nsIn K mainGlobals name = some (some (.ref p))) (l : K.lookup p = some ⟨.type "dict", none, .dict es n, #[]⟩) (he : es.toList = ks.map (entD w)) (hS : (p == sysModules) = false) (hx : ns.map (fun n => n.1) = ks.map (fun k => k.1)) (nd : (ns.map fun n => n.1).Nodup) (hv : ns.map (fun n => mg n.2) = ks.map (fun k => some k.2.2)) : na P w K mg name ns := by
  refine ⟨p, PySem.W.mg_of X G e, hS, fun m hm => ?_, fun h' X' => ⟨ks.map fun k => ((.inr k.1 : Key), k.2.2), ⟨_, es, n, X' _ _ l, ⟨rfl, rfl, rfl⟩, rfl, fun d hd => ?_, ?_, ?_⟩, fun z => eo z hx hv⟩⟩
  . have : mg m.2 ∈ ns.map fun n => mg n.2 := Zp.mpr ⟨m, hm, rfl⟩
    rw [hv] at this;obtain ⟨k, _, e⟩ := Zp.mp this;rw [<- e];rfl
  . have : d ∈ es.toList := Array.mem_def.mp hd
    rw [he] at this;obtain ⟨k, _, rfl⟩ := Zp.mp this;exact ⟨.inr k.1, nw P w k.1 k.2.1, rfl⟩
  . rw [he]
    exact za9 ks
  . rw [ZS]
    show (ks.map ((fun x => (.inr x : Key)) ∘ fun k => k.1)).Nodup
    rw [<- ZS];exact za4 (hx ▸ nd)
section
variable {K : Fg} {h : Heap} {mg : Str -> Option Value} {name m qual : Str} {st : Stmt} {C f : Addr} {oc : Value} {od an : Option Addr} {osl : Array (Option Value)} {kV doc pm cdv ct : Value} {ps fs : List Str}
theorem mt_mk (X : K.In h) (i : PySem.W.findIn K (.ref C) m = some (some (.ref f))) (fn : PySem.W.isFn K (.ref f) = true) (l : K.lookup f = some ⟨oc, od, .func (PySem.W.fnOf m qual (wb st) (ya st) (zh st) .none kV doc pm an cdv ct), osl⟩)
    (c : PySem.W.codeIn K cdv qual = true) (k : PySem.W.keepIn K (.ref f) = true)
    (hb : ∀ (kV doc pm : Value) (an : Option Addr) (cdv ct : Value) (us : List Value), us.length = ps.length -> bindArgs (PySem.W.fnOf m qual (wb st) (ya st) (zh st) .none kV doc pm an cdv ct) ⟨us, []⟩ = pure (ps.zip us)) : MtIn K C m qual st ps :=
  ⟨f, _, ⟨i, fn, k⟩, mr l c k, (mr (st := st) l c k).binds hb⟩
theorem own_mk (X : K.In h) (G : h.Ns mainGlobals mg) (a : PySem.W.nsIn K mainGlobals name = some (some (.ref C))) (mk : PySem.W.makesIn K C = true) (i : PySem.W.findIn K (.ref C) "__init__" = some (some (.ref f))) (fn : PySem.W.isFn K (.ref f) = true) (kc : PySem.W.keepIn K (.ref C) = true)
    (l : K.lookup f = some ⟨oc, od, .func (PySem.W.fnOf "__init__" qual (wb st) (ya st) (zh st) .none kV doc pm an cdv ct), osl⟩) (c : PySem.W.codeIn K cdv qual = true) (k : PySem.W.keepIn K (.ref f) = true)
    (hb : ∀ (kV doc pm : Value) (an : Option Addr) (cdv ct : Value) (us : List Value), us.length = ps.length -> bindArgs (PySem.W.fnOf "__init__" qual (wb st) (ya st) (zh st) .none kV doc pm an cdv ct) ⟨us, []⟩ = pure (ps.zip us))
    (pg : PySem.W.plainGet K C Str.empty = true) (hd : PySem.W.hasDictIn K C = true) (po : PySem.W.plainOver K C = true) (sa : PySem.W.findIn K (.ref C) "__setattr__" = some (some (.builtin "object.__setattr__"))) (no : ∀ f ∈ fs, PySem.W.findIn K (.ref C) f = some none) : jh K mg name C qual st ps fs :=
  ⟨⟨f, _, ⟨mk, i, fn, kc⟩, PySem.W.mg_of X G a, mr l c k, (mr (st := st) l c k).binds hb⟩, ⟨pg, hd, po, sa⟩, no⟩
end
theorem e_sfld {K : Fg} {ta tv : TE} {f : Str} {D : Ends} {σ : St} {H : Hp} : sFld K ta tv f D σ H = (tv σ H fun y H1 => ta σ H1 fun x H2 => ∃ a C dx fs, x = .ref a /\ H2 a = some (.ins C dx fs) /\ Cls K C /\ NoAttr K C f /\ fs.length < 1000 /\ D.nx σ (upd H2 a (.ins C dx (putF f y fs)))) := rfl
end L2
namespace L2
theorem cxMg {CX : CXT} {P : PySem.Program} {w : PySem.World} {K : Fg} {mg : PySem.Str -> Option PySem.Value} {base : PySem.Heap} {N : List PySem.Str} {qual : PySem.Str} {scope : PySem.Scope} {f : PySem.Addr} {cd : PySem.Value} {A : PySem.Around} {outer : List PySem.Env} {s : PySem.Shared} {H : Hp} {E : XK} : (cxOf CX P w K mg base N qual scope f cd A outer s H E).mg = mg := rfl
end L2
namespace L2
open PySem PySem.Spec PyProof.Rows
theorem de {x y : Str} {c d k : Nat} {r : List Nat} (hy : y.cps.toList = c :: d :: r) (h : StrLaws.At x y x.length k) : x.cps.toList[k + 1]? = some d := by
  have h2 := h.2;rw [StrLaws.subAt_eq] at h2;have h3 : (x.cps.toList.drop k).take y.length = c :: d :: r := by rw [<- hy]; exact eq_of_beq h2
  have h4 : ((x.cps.toList.drop k).take y.length)[1]? = some d := by rw [h3]; rfl
  have hly : 1 < y.length := by
    have : y.cps.toList.length = y.length := by simp [Str.length]
    rw [<- this, hy]; simp
  rw [Yi hly, ZQ] at h4;exact h4
theorem j1 {y : Str} {c d : Nat} {r : List Nat} (hy : y.cps.toList = c :: d :: r) (hcd : d ≠ c) (x : Str) : ∀ (ps : List Str) (cuts : List Nat) (a f : Nat), ps ≠ [] -> (∀ p ∈ ps, d ∉ p.cps.toList) -> a <= x.length -> x.cps.toList.drop a = (Str.join y ps).cps.toList -> StrLaws.ChainG x y x.length a cuts f -> (∀ k, f <= k -> ¬ StrLaws.At x y x.length k) -> StrLaws.partsFrom x y.length a cuts = ps
  | [], _, _, _, h, _, _, _, _, _ => absurd rfl h
  | [p], cuts, a, f, _, hf, ha, hd, hG, hn => by
    have hl : x.cps.toList.length = x.length := by simp [Str.length]
    have hd' : x.cps.toList.drop a = p.cps.toList := hd
    cases cuts with
    | nil =>
      show [Builtin.Str.strSub x a x.length] = [p]
      congr 1
      apply Str.ext'
      apply ZV.mp
      rw [StrLaws.strSub_toList, hd', ZG];rw [<- hd', ZU, hl];omega
    | cons k rest =>
      exfalso
      have hc := de hy hG.2.1;have : (x.cps.toList.drop a)[k + 1 - a]? = some d := by rw [ZQ, show a + (k + 1 - a) = k + 1 by have := hG.1; omega]; exact hc
      rw [hd'] at this;exact hf p ZA (Zi this)
  | p :: q :: ps, cuts, a, f, _, hf, ha, hd, hG, hn => by
    have hl : x.cps.toList.length = x.length := by simp [Str.length]
    have hly : y.cps.toList.length = y.length := by simp [Str.length]
    have hlp : p.cps.toList.length = p.length := by simp [Str.length]
    have hd' : x.cps.toList.drop a = p.cps.toList ++ (y.cps.toList ++ (Str.join y (q :: ps)).cps.toList) := by
      rw [hd]
      show (p ++ y ++ Str.join y (q :: ps)).cps.toList = _
      simp only [Str.cps_append, Yk, ZN]
    have hA := g7 hy hd';rw [hlp] at hA
    cases cuts with
    | nil =>
      have e : f = a := hG;exact absurd hA (hn _ (by omega))
    | cons k rest =>
      obtain ⟨g1, g2, g3, g4⟩ := hG;have hc := de hy g2;have h1 : k <= a + p.length := ZD.mp fun z => g3 _ (Nat.le_add_right _ _) z hA
      have h2 : ¬ k - a < p.length := fun z => by
        have h5 : (x.cps.toList.drop a)[k + 1 - a]? = some d := by rw [ZQ, show a + (k + 1 - a) = k + 1 by omega]; exact hc
        rw [hd'] at h5
        by_cases z2 : k + 1 - a < p.length
        . rw [Zg (by rw [hlp]; exact z2)] at h5
          exact hf p ZA (Zi h5)
        . rw [Zf (by rw [hlp]; omega), hlp, show k + 1 - a - p.length = 0 by omega, hy] at h5
          exact hcd (Option.some.inj h5).symm
      have ek : k = a + p.length := by omega
      subst ek;have hk := g2.1
      have ih := j1 hy hcd x (q :: ps) rest (a + p.length + y.length) f (by simp) (fun z hz => hf z (Zv _ hz)) (by omega) (by
        rw [Nat.add_assoc, <- Yr, hd', <- ZN];have e2 : (p.cps.toList ++ y.cps.toList).length = p.length + y.length := by rw [Zo, hlp, hly]
        rw [<- e2, Yh]) g4 hn
      show Builtin.Str.strSub x a (a + p.length) :: StrLaws.partsFrom x y.length (a + p.length + y.length) rest = p :: q :: ps
      rw [ih]
      congr 1
      apply Str.ext'
      apply ZV.mp
      rw [StrLaws.strSub_toList, hd', Nat.add_sub_cancel_left, <- hlp, YL]
theorem j5 {y : Str} {c d : Nat} {r : List Nat} (hy : y.cps.toList = c :: d :: r) (hcd : d ≠ c) (hk : Builtin.Str.strKind y = 1) {ps : List Str} (h0 : ps ≠ []) (hf : ∀ p ∈ ps, d ∉ p.cps.toList) : Txt.split (Str.join y ps) y = ps := by
  generalize hx : Str.join y ps = x;have hly : y.cps.toList.length = y.length := by simp [Str.length]
  have h1 : 1 <= y.length := by rw [<- hly, hy]; simp
  obtain ⟨f, hG, hn⟩ := StrLaws.occ_tight x y h1;have key := j1 hy hcd x ps _ 0 f h0 hf (ZE _) (by rw [Yx, hx]) hG hn;unfold Txt.split
  split
  . rename_i hc
    rw [Bool.or_eq_true, decide_eq_true_eq, decide_eq_true_eq] at hc
    rcases hc with hc | hc
    . match ps, h0, hx with
      | [p], _, hx => rw [<- hx]; rfl
      | p :: q :: ps, _, hx =>
        exfalso
        have : (p ++ y ++ Str.join y (q :: ps)) = x := hx;have e := congrArg Str.length this;rw [Str.length_append, Str.length_append] at e;omega
    . have := bb x
      omega
  . split
    . rename_i he
      have e0 := List.isEmpty_iff.mp he;rw [e0] at key;have : [Builtin.Str.strSub x 0 x.length] = ps := key;rw [StrLaws.sub_whole] at this;exact this
    . rw [StrLaws.partsBetween_eq]
      exact key
theorem zhp {a y b : Str} {c : Nat} (hy : y.cps.toList = [c]) (ha : c ∉ a.cps.toList) : Txt.partition (a ++ y ++ b) y = (a, y, b) := by
  have hx : (a ++ y ++ b).cps.toList = a.cps.toList ++ (y.cps.toList ++ b.cps.toList) := by simp only [Str.cps_append, Yk, ZN]
  have hla : a.cps.toList.length = a.length := by simp [Str.length]
  have hly : y.length = 1 := by
    have : y.cps.toList.length = y.length := by simp [Str.length]
    rw [<- this, hy];rfl
  have h1 : StrLaws.At (a ++ y ++ b) y (a ++ y ++ b).length (0 + a.cps.toList.length) := g7 (r := []) hy (by rw [Yx, hx]);rw [Nat.zero_add, hla] at h1;have hd := StrLaws.occ_head (a ++ y ++ b) y 1 (Zm _)
  rcases hd with ⟨_, h0⟩ | ⟨i, r, e, hi, hb⟩
  . exact absurd h1 (h0 _)
  have ei : i = a.length := by
    rcases Nat.lt_trichotomy i a.length with z | z | z
    . exfalso
      have := ie hy hi;rw [hx, Zg (by omega)] at this;exact ha (Zi this)
    . exact z
    . exact absurd h1 (hb _ z)
  subst ei;unfold Txt.partition;rw [e];have hl : (a ++ y ++ b).length = a.length + 1 + b.length := by rw [Str.length_append, Str.length_append, hly]
  have e1 : Builtin.Str.strSub (a ++ y ++ b) 0 a.length = a := by
    apply Str.ext'
    apply ZV.mp
    rw [StrLaws.strSub_toList, Yx, hx, Nat.sub_zero, <- hla, YL]
  have e2 : Builtin.Str.strSub (a ++ y ++ b) (a.length + y.length) (a ++ y ++ b).length = b := by
    apply Str.ext'
    apply ZV.mp
    have hlb : b.cps.toList.length = b.length := by simp [Str.length]
    rw [StrLaws.strSub_toList, hx, <- ZN, hly, hl, show a.length + 1 = (a.cps.toList ++ y.cps.toList).length by rw [Zo, hla, hy]; rfl, Yh, ZG (by rw [Zo, hla, hy, hlb]; simp)]
  show (Builtin.Str.strSub (a ++ y ++ b) 0 a.length, y, Builtin.Str.strSub (a ++ y ++ b) (a.length + y.length) (a ++ y ++ b).length) = _
  rw [e1, e2]
end L2
namespace L2
open PySem PySem.Spec PyProof.Rows PySem.NumText
def figs (m : Nat) : List Nat := (Nat.toDigits 10 m).map Char.toNat
theorem wk (m : Nat) : AllDigits (figs m) := fun c hc => by
  obtain ⟨ch, hch, e⟩ := Zp.mp hc;rw [<- e];exact digit_range (Nat.isDigit_of_mem_toDigits (by decide) (by decide) hch)
theorem gi : ∀ (k m : Nat), 1 <= k -> m < 10 ^ k -> (Nat.toDigits 10 m).length <= k
  | 0, _, h, _ => by omega
  | k + 1, m, _, hm => by
    by_cases h : m < 10
    . rw [Ym h]
      simp
    . have hm2 : m % 10 < 10 := Nat.mod_lt m (by decide)
      have t : Nat.toDigits 10 (m / 10) ++ Nat.toDigits 10 (m % 10) = Nat.toDigits 10 (10 * (m / 10) + m % 10) := YM (by decide) (by omega) hm2;rw [Nat.div_add_mod] at t;rw [<- t, Ym hm2, Zo]
      have hk : 1 <= k := by
        rcases Nat.eq_zero_or_pos k with z | z
        . subst z; simp at hm; omega
        . exact z
      have := gi k (m / 10) hk (by rw [Nat.pow_succ] at hm; omega);simp;omega
theorem lv {k m : Nat} (hk : 1 <= k) (hm : m < 10 ^ k) : (figs m).length <= k := by
  rw [figs, Za];exact gi k m hk hm
theorem jr (m : Nat) : figs m ≠ [] := by
  intro e;have e2 := List.map_eq_nil_iff.mp e
  by_cases h : m < 10
  . rw [Ym h] at e2
    cases e2
  . have hm2 : m % 10 < 10 := Nat.mod_lt m (by decide)
    have t : Nat.toDigits 10 (m / 10) ++ Nat.toDigits 10 (m % 10) = Nat.toDigits 10 (10 * (m / 10) + m % 10) := YM (by decide) (by omega) hm2;rw [Nat.div_add_mod] at t;rw [<- t, Ym hm2] at e2;simp at e2
theorem rb (m : Nat) : (intS (m : Int)).cps.toList = figs m := PySem.W.KIN.signs_num m
theorem lp (m : Nat) : (intS (Int.negSucc m)).cps.toList = 45 :: figs (m + 1) := by
  rw [intS, signs_ofString]
  show ("-" ++ Nat.repr (m + 1)).toList.map Char.toNat = _
  rw [String.toList_append, Zn, Nat.toList_repr];rfl
theorem wx (x : Str) : x.length = x.cps.toList.length := by simp [Str.length]
theorem ic {n : Int} (h1 : -(10 ^ 61) < n) (h2 : n < 10 ^ 61) : (intS n).length <= 62 := by
  rw [wx]
  cases n with
  | ofNat m =>
    rw [show (Int.ofNat m) = ((m : Nat) : Int) from rfl, rb];have := lv (k := 61) (m := m) (by decide) (by have : ((m : Nat) : Int) < 10 ^ 61 := h2; omega);omega
  | negSucc m =>
    rw [lp, ZL];have := lv (k := 61) (m := m + 1) (by decide) (by omega);omega
theorem zca {n : Int} (h1 : -(10 ^ 61) < n) (h2 : n < 10 ^ 61) : PySem.intText? (intS n) = some n := by
  have hl := ic h1 h2
  cases n with
  | ofNat m =>
    have e := intText_digits (x := intS (Int.ofNat m)) (by rw [show (Int.ofNat m) = ((m : Nat) : Int) from rfl, rb]; exact wk m) (by rw [show (Int.ofNat m) = ((m : Nat) : Int) from rfl, rb]; exact jr m) (by omega);rw [show (intS (Int.ofNat m)).cps.toList = figs m from rb m, figs, PySem.W.KIN.val_back] at e;exact e
  | negSucc m =>
    have e := intText_neg (x := intS (Int.negSucc m)) (lp m) (wk _) (jr _) (by omega);rw [figs, PySem.W.KIN.val_back] at e;rw [e];rfl
end L2
namespace L2
open PySem PySem.Spec PyProof.Rows
def m6 (k : Nat) (z : Str) : Str := ⟨(z.cps.toList.drop k).toArray⟩
theorem pi (k : Nat) (z : Str) : (m6 k z).cps.toList = z.cps.toList.drop k := by simp [m6]
theorem zfw (k len : Nat) (h : k <= len) : Builtin.Str.strSliceIndices (some (k : Int)) none 1 len = (List.range (len - k)).map (k + ·) := by
  rw [<- sliceRange_one];unfold Builtin.Str.strSliceIndices;simp only [show ¬ ((k : Int) < 0) by omega, if_false, show (1 : Int) > 0 by decide, if_true];rw [show max (0 : Int) (min (k : Int) (len : Int)) = (k : Int) by omega]
section
variable {X : Cx}
def rSlF : V -> Option Int -> Option Int -> Hp -> VK -> Prop := fun x lo hi H Q => ∃ (z : Str) (k : Nat), x = .str z /\ lo = some (k : Int) /\ hi = none /\ z.length <= sizeLine /\ k <= z.length /\ Q (.str (m6 k z)) H
theorem e_slF {x : V} {lo hi : Option Int} {H : Hp} {Q : VK} : rSlF x lo hi H Q = ∃ (z : Str) (k : Nat), x = .str z /\ lo = some (k : Int) /\ hi = none /\ z.length <= sizeLine /\ k <= z.length /\ Q (.str (m6 k z)) H := rfl
theorem zhr : SlR X rSlF := by
  intro pins s σ H x v vl vu lo hi sl Q I rx hs pl pu h;obtain ⟨z, k, rfl, rfl, rfl, hz, hk, q⟩ := h;obtain ⟨t, rfl⟩ := rx;cases pu
  obtain ⟨u, rfl⟩ : ∃ u, vl = partValue (some ((k : Int), u)) := by
    cases pl with
    | int i t => exact ⟨t, rfl⟩
  have hl : z.cps.toList.length = z.length := by simp [Str.length]
  have pk : slicePicked z (some ((k : Int), u)) none none = (List.range (z.length - k)).map (k + ·) := zfw k z.length hk;refine ⟨"str", _, F.slot_str_getitem.lookup, rfl, wpAny_getItem_str_slice (l := some ((k : Int), u)) (u := none) (st := none) hs rfl ?_⟩;unfold sliceMade;rw [pk]
  have ed : (⟨(((List.range (z.length - k)).map (k + ·)).filterMap (z.cps[·]?)).toArray⟩ : Str) = m6 k z := by
    apply Str.ext'
    apply ZV.mp
    rw [pi];have h := StrLaws.picks z.cps.toList (z.length - k) k (by omega);rw [ZG (by rw [ZU, hl]; omega)] at h
    simpa using h
  rw [ed]
  split
  . rename_i hc
    have e0 : k = 0 \/ z.length = 0 := by
      simp at hc;omega
    have : m6 k z = z := by
      apply Str.ext'
      apply ZV.mp
      rw [pi]
      rcases e0 with rfl | e0
      . rfl
      . have : z.cps.toList = [] := Yy.mp (by omega)
        rw [this];simp
    rw [this] at q;exact ⟨.str z, H, I, ⟨t, rfl⟩, q⟩
  . refine ⟨?_, .str _, H, I.tok _, ⟨_, rfl⟩, q⟩
    refine Zd ?_ hz;rw [wx, wx, pi, ZU];omega
end
end L2
namespace L2
open PySem PySem.Spec PyProof.Rows
section
variable {X : Cx}
def zdr (K : Fg) : V -> List V -> Hp -> VK -> Prop := fun x vs H Q => ∃ sep b texts, x = .str sep /\ vs = [.ref b] /\ SqT K H b (texts.map V.str) /\ JoinOk sep texts = true /\ Q (.str (Txt.join sep texts)) H
theorem zg7 {K : Fg} {x : V} {vs : List V} {H : Hp} {Q : VK} : zdr K x vs H Q = ∃ sep b texts, x = .str sep /\ vs = [.ref b] /\ SqT K H b (texts.map V.str) /\ JoinOk sep texts = true /\ Q (.str (Txt.join sep texts)) H := rfl
theorem zfk : MtM X "str.join" (zdr X.K) := by
  intro pins s σ H x vs v us Q I rx rv h;obtain ⟨sep, b, texts, rfl, rfl, hs, hok, q⟩ := h;obtain ⟨t, rfl⟩ := rx;obtain ⟨u, rfl, ru⟩ := rv.one;cases ru;obtain ⟨its, r, pl, hz⟩ := I.tuple hs;obtain ⟨l, e1, e2⟩ := fe r;subst e1;subst e2;have hok' := hok;unfold JoinOk at hok';rw [Bool.not_eq_true'] at hok';obtain ⟨o, ho, hc, n, hd⟩ := pl;exact call_meets F.slot_str_join (typeIs_str _ _ _) F.entry_str_join (F.args_str_join_2 _ _) (meets_str_join_tuple sep t _ l hok') ⟨⟨o, n, ho, hc, hd⟩, post_join l ⟨joinFit_length hok', fun t' k => ⟨.str (Txt.join sep _), H, I.tok _, ⟨_, rfl⟩, q⟩⟩⟩
end
end L2
namespace Mine
open PySem PySem.Spec PyProof.Rows L2
theorem yj {α β : Type} {g : α -> β} {xs : List α} {i : Nat} {x : β} (h : (xs.map g)[i]? = some x) : ∃ y, xs[i]? = some y /\ g y = x := by
  rw [Ze] at h
  cases e : xs[i]? with
  | none => rw [e] at h; cases h
  | some y => rw [e] at h; cases h; exact ⟨y, rfl, rfl⟩
def zi := And.intro @cxMg (And.intro @zg7 (And.intro @e_slF (And.intro @zgm (And.intro @ze0 (And.intro @e_strI (And.intro @e_meth (And.intro @e_make (And.intro @e_fld (And.intro @e_sfld (And.intro @e_glD (And.intro @e_inG (And.intro @e_getG (And.intro @zg1 (And.intro @e_slS (And.intro @zf6 (And.intro @e_down (And.intro @e_intS (And.intro @e_var (And.intro @e_C (And.intro @e_op (And.intro @e_un (And.intro @e_rI (And.intro @e_rI0 (And.intro @e_rU (And.intro @e_rEq (And.intro @e_rNe (And.intro @e_ixL (And.intro @e_ixT (And.intro @e_set (And.intro @e_cat (And.intro @e_test (And.intro @e_B (And.intro @e_and (And.intro @e_or (And.intro @e_not (And.intro @e_andV (And.intro @e_orV (And.intro @e_notV (And.intro @e_ifE (And.intro @e_all (And.intro @e_next (And.intro @e_seq (And.intro @e_brk (And.intro @e_cnt (And.intro @e_drop (And.intro @e_ret (And.intro @e_retN (And.intro @e_ifS (And.intro @e_asg (And.intro @zhs (And.intro @e_setC (And.intro @e_augS (And.intro @e_ipI (And.intro @e_nil (And.intro @e_cons (And.intro @e_tup (And.intro @e_lst (And.intro @e_call (And.intro @e_CB (And.intro @e_BM (And.intro @e_app (And.intro @e_rng1 (And.intro @e_rng2 (And.intro @e_iL (And.intro @e_for (And.intro @e_comp (And.intro @cxK (And.intro @e_zip (And.intro @e_gTup (And.intro @e_gNil (And.intro @zg6 (And.intro @e_rep (And.intro @e_gSub (And.intro @e_slL (And.intro @e_tSl (And.intro @zfd (And.intro @e_part (And.intro @zhf (And.intro @e_BM0 (And.intro @zgf (And.intro @e_in (And.intro @e_enum (And.intro @e_minK (And.intro @zgp (And.intro @zgs (And.intro @zhj (And.intro @e_try0 (And.intro @suK (And.intro @noxK (And.intro @tryK (And.intro @e_eqD (And.intro @e_inD (And.intro @e_iStr (And.intro @e_mulS (And.intro @e_ixS (And.intro @e_join (And.intro @e_iT (And.intro @e_iSeq (And.intro @e_tupL (And.intro @e_minL (And.intro @e_maxL (And.intro @zf1 (And.intro @e_leS (And.intro @e_vI0 (And.intro @e_vI (And.intro @e_ints (And.intro @e_isB (And.intro @e_catH (And.intro @ze8 (And.intro @e_slH (And.intro @e_slT (And.intro @zfo (And.intro @zf0 (And.intro @e_inK (And.intro @e_setD (And.intro @zgj (And.intro @e_dget (And.intro @e_BMT (And.intro @zgx (And.intro @zfb (And.intro @zf7 (@e_glT))))))))))))))))))))))))))))))))))))))))))))))))))))))))))))))))))))))))))))))))))))))))))))))))))))))))))))))))))))))))))
def zj := And.intro @ZL.{0} (And.intro @List.length_nil.{0} (And.intro @Nat.zero_add (And.intro @YK.{0} (And.intro @List.replicate_zero.{0} (And.intro @List.drop_succ_cons.{0} (And.intro @Yx.{0} (And.intro @Int.zero_add (And.intro @List.getElem?_cons_zero.{0} (And.intro @List.getElem?_cons_succ.{0} (And.intro @List.set_cons_zero.{0} (And.intro @List.set_cons_succ.{0} (And.intro @Option.some.injEq.{0} (And.intro @V.int.injEq (And.intro @V.ref.injEq (And.intro @V.bl.injEq (And.intro @V.ty.injEq (And.intro @V.str.injEq (And.intro @List.cons.injEq.{0} (And.intro @ZO.{0} (And.intro @Yv.{0} (And.intro @Yo.{0} (And.intro @exists_eq.{1} (And.intro @exists_eq'.{1} (And.intro @exists_eq_left.{1} (And.intro @exists_eq_left'.{1} (And.intro @exists_and_left.{1} (And.intro @exists_and_right.{1} (And.intro @and_assoc (And.intro @true_and (@and_true))))))))))))))))))))))))))))))
def zgu (s : Stmt) : List Stmt := match s with
  | .ClassDef _ _ _ b _ _ _ _ _ _ _ => b
  | _ => []
def top (i : Nat) : Stmt := if i < 1000 then PySem.Challenge.pw_trueword_k73_rules_said.main.body.getD i (.Pass ⟨0, 0, 0, 0⟩) else (zgu (PySem.Challenge.pw_trueword_k73_rules_said.main.body.getD (i % 1000) (.Pass ⟨0, 0, 0, 0⟩))).getD (i / 1000 - 1) (.Pass ⟨0, 0, 0, 0⟩)
abbrev pb : Stmt := top 11
theorem zar : zr ["thing"] ["thing"] (zh pb) := ⟨rfl, rfl, rfl, by decide +kernel, rfl, by decide +kernel, by decide +kernel⟩
abbrev tm : Stmt := top 12
theorem d7 : zr ["thing"] ["thing"] (zh tm) := ⟨rfl, rfl, rfl, by decide +kernel, rfl, by decide +kernel, by decide +kernel⟩
abbrev ub : Stmt := top 13
theorem g8 : zr ["thing", "width"] ["thing", "width"] (zh ub) := ⟨rfl, rfl, rfl, by decide +kernel, rfl, by decide +kernel, by decide +kernel⟩
abbrev o9 : Stmt := top 22
theorem zce : zr ["thing"] ["thing"] (zh o9) := ⟨rfl, rfl, rfl, by decide +kernel, rfl, by decide +kernel, by decide +kernel⟩
abbrev rm : Stmt := top 23
theorem cn : zr ["thing", "most"] ["thing", "most"] (zh rm) := ⟨rfl, rfl, rfl, by decide +kernel, rfl, by decide +kernel, by decide +kernel⟩
abbrev tu : Stmt := top 24
theorem dw : zr ["thing", "height", "width"] ["thing", "height", "width"] (zh tu) := ⟨rfl, rfl, rfl, by decide +kernel, rfl, by decide +kernel, by decide +kernel⟩
abbrev oz : Stmt := top 25
theorem zcj : zr ["thing", "width"] ["thing", "width"] (zh oz) := ⟨rfl, rfl, rfl, by decide +kernel, rfl, by decide +kernel, by decide +kernel⟩
abbrev qi : Stmt := top 26
theorem i7 : zr ["hand"] ["hand"] (zh qi) := ⟨rfl, rfl, rfl, by decide +kernel, rfl, by decide +kernel, by decide +kernel⟩
abbrev uq : Stmt := top 27
theorem jz : zr ["hands"] ["hands"] (zh uq) := ⟨rfl, rfl, rfl, by decide +kernel, rfl, by decide +kernel, by decide +kernel⟩
abbrev wf : Stmt := top 28
theorem ow : zr ["hand"] ["hand"] (zh wf) := ⟨rfl, rfl, rfl, by decide +kernel, rfl, by decide +kernel, by decide +kernel⟩
abbrev wu : Stmt := top 29
theorem ju : zr ["hand"] ["hand"] (zh wu) := ⟨rfl, rfl, rfl, by decide +kernel, rfl, by decide +kernel, by decide +kernel⟩
abbrev va : Stmt := top 31
theorem sc_count_of_rows : zr ["hands", "count", "hand"] ["hands"] (zh va) := ⟨rfl, rfl, rfl, by decide +kernel, rfl, by decide +kernel, by decide +kernel⟩
abbrev vy : Stmt := top 32
theorem fu : zr ["outcomes", "hands"] ["outcomes", "hands"] (zh vy) := ⟨rfl, rfl, rfl, by decide +kernel, rfl, by decide +kernel, by decide +kernel⟩
abbrev vp : Stmt := top 33
theorem sc_kept_hand : zr ["hand", "worths"] ["hand"] (zh vp) := ⟨rfl, rfl, rfl, by decide +kernel, rfl, by decide +kernel, by decide +kernel⟩
abbrev t9 : Stmt := top 34
theorem j3 : zr ["outcomes", "hands"] ["outcomes", "hands"] (zh t9) := ⟨rfl, rfl, rfl, by decide +kernel, rfl, by decide +kernel, by decide +kernel⟩
abbrev vv : Stmt := top 35
theorem fb : zr ["house"] ["house"] (zh vv) := ⟨rfl, rfl, rfl, by decide +kernel, rfl, by decide +kernel, by decide +kernel⟩
abbrev ph : Stmt := top 36
theorem zac : zr ["house"] ["house"] (zh ph) := ⟨rfl, rfl, rfl, by decide +kernel, rfl, by decide +kernel, by decide +kernel⟩
abbrev qc : Stmt := top 37
theorem sc_with_each : zr ["rows", "words", "longer", "row"] ["rows", "words"] (zh qc) := ⟨rfl, rfl, rfl, by decide +kernel, rfl, by decide +kernel, by decide +kernel⟩
abbrev rk : Stmt := top 38
theorem sc_rows_over : zr ["hands", "rows", "hand"] ["hands"] (zh rk) := ⟨rfl, rfl, rfl, by decide +kernel, rfl, by decide +kernel, by decide +kernel⟩
abbrev o5 : Stmt := top 39
theorem zb4 : zr ["house"] ["house"] (zh o5) := ⟨rfl, rfl, rfl, by decide +kernel, rfl, by decide +kernel, by decide +kernel⟩
abbrev jo : Stmt := top 54
theorem sc_holds : zr ["condition", "row", "kind"] ["condition", "row"] (zh jo) := ⟨rfl, rfl, rfl, by decide +kernel, rfl, by decide +kernel, by decide +kernel⟩
abbrev jn : Stmt := top 55
theorem zfp : zr ["rule", "row"] ["rule", "row"] (zh jn) := ⟨rfl, rfl, rfl, by decide +kernel, rfl, by decide +kernel, by decide +kernel⟩
abbrev qx : Stmt := top 56
theorem zas : zr ["house", "rule"] ["house", "rule"] (zh qx) := ⟨rfl, rfl, rfl, by decide +kernel, rfl, by decide +kernel, by decide +kernel⟩
abbrev vj : Stmt := top 83
theorem gm : zr ["told"] ["told"] (zh vj) := ⟨rfl, rfl, rfl, by decide +kernel, rfl, by decide +kernel, by decide +kernel⟩
abbrev pj : Stmt := top 84
theorem zaa : zr ["told"] ["told"] (zh pj) := ⟨rfl, rfl, rfl, by decide +kernel, rfl, by decide +kernel, by decide +kernel⟩
abbrev ox : Stmt := top 85
theorem zcf : zr ["words", "place"] ["words", "place"] (zh ox) := ⟨rfl, rfl, rfl, by decide +kernel, rfl, by decide +kernel, by decide +kernel⟩
abbrev r9 : Stmt := top 86
theorem sc_read_says : zr ["house", "name", "word", "names", "k"] ["house", "name", "word"] (zh r9) := ⟨rfl, rfl, rfl, by decide +kernel, rfl, by decide +kernel, by decide +kernel⟩
abbrev tq : Stmt := top 87
theorem dy : zr ["house", "figure", "word"] ["house", "figure", "word"] (zh tq) := ⟨rfl, rfl, rfl, by decide +kernel, rfl, by decide +kernel, by decide +kernel⟩
abbrev wq : Stmt := top 88
theorem sc_read_condition : zr ["house", "words", "place", "kind", "told", "one", "other"] ["house", "words", "place"] (zh wq) := ⟨rfl, rfl, rfl, by decide +kernel, rfl, by decide +kernel, by decide +kernel⟩
abbrev rg : Stmt := top 89
theorem am : zr ["house", "words"] ["house", "words"] (zh rg) := ⟨rfl, rfl, rfl, by decide +kernel, rfl, by decide +kernel, by decide +kernel⟩
abbrev v5 : Stmt := top 90
theorem sc_read_clause : zr ["house", "words", "told"] ["house", "words"] (zh v5) := ⟨rfl, rfl, rfl, by decide +kernel, rfl, by decide +kernel, by decide +kernel⟩
abbrev si : Stmt := top 91
theorem sc_clauses_in : zr ["text", "clauses"] ["text"] (zh si) := ⟨rfl, rfl, rfl, by decide +kernel, rfl, by decide +kernel, by decide +kernel⟩
abbrev qd : Stmt := top 92
theorem sc_read_rule : zr ["house", "text", "clauses", "rule"] ["house", "text"] (zh qd) := ⟨rfl, rfl, rfl, by decide +kernel, rfl, by decide +kernel, by decide +kernel⟩
abbrev ua : Stmt := top 95
theorem fq : zr ["text"] ["text"] (zh ua) := ⟨rfl, rfl, rfl, by decide +kernel, rfl, by decide +kernel, by decide +kernel⟩
abbrev rq : Stmt := top 96
theorem sc_number_of : zr ["text", "figures"] ["text"] (zh rq) := ⟨rfl, rfl, rfl, by decide +kernel, rfl, by decide +kernel, by decide +kernel⟩
abbrev sm : Stmt := top 97
theorem dt : zr ["words"] ["words"] (zh sm) := ⟨rfl, rfl, rfl, by decide +kernel, rfl, by decide +kernel, by decide +kernel⟩
abbrev qa : Stmt := top 98
theorem sc_hand_from : zr ["text", "parts", "sayings"] ["text"] (zh qa) := ⟨rfl, rfl, rfl, by decide +kernel, rfl, by decide +kernel, by decide +kernel⟩
abbrev ur : Stmt := top 99
theorem sc_read_house : zr ["text", "parts"] ["text"] (zh ur) := ⟨rfl, rfl, rfl, by decide +kernel, rfl, by decide +kernel, by decide +kernel⟩
abbrev tw : Stmt := top 108
theorem d6 : zr ["house", "rest"] ["house", "rest"] (zh tw) := ⟨rfl, rfl, rfl, by decide +kernel, rfl, by decide +kernel, by decide +kernel⟩
abbrev qu : Stmt := top 110
theorem sc_row_from : zr ["table", "rest", "row"] ["table", "rest"] (zh qu) := ⟨rfl, rfl, rfl, by decide +kernel, rfl, by decide +kernel, by decide +kernel⟩
abbrev rh : Stmt := top 111
theorem ar : zr ["house", "table", "rest"] ["house", "table", "rest"] (zh rh) := ⟨rfl, rfl, rfl, by decide +kernel, rfl, by decide +kernel, by decide +kernel⟩
abbrev sg : Stmt := top 119
theorem sc_refuse_row : zr ["row", "first"] ["row"] (zh sg) := ⟨rfl, rfl, rfl, by decide +kernel, rfl, by decide +kernel, by decide +kernel⟩
abbrev q8 : Stmt := top 122
theorem zak : zr ["script", "k"] ["script", "k"] (zh q8) := ⟨rfl, rfl, rfl, by decide +kernel, rfl, by decide +kernel, by decide +kernel⟩
abbrev ux : Stmt := top 123
theorem d5 : zr ["cell", "top"] ["cell", "top"] (zh ux) := ⟨rfl, rfl, rfl, by decide +kernel, rfl, by decide +kernel, by decide +kernel⟩
abbrev zt : Stmt := top 124
theorem sc_law_names : zr ["cell", "many", "letters", "words", "other", "names", "k", "sign", "head"] ["cell", "many"] (zh zt) := ⟨rfl, rfl, rfl, by decide +kernel, rfl, by decide +kernel, by decide +kernel⟩
abbrev ri : Stmt := top 125
theorem sc_law_hands : zr ["script", "places", "top", "many", "called", "hands", "spot", "k", "size", "worths", "t"] ["script", "places", "top"] (zh ri) := ⟨rfl, rfl, rfl, by decide +kernel, rfl, by decide +kernel, by decide +kernel⟩
abbrev qw : Stmt := top 126
theorem sc_law_rows : zr ["hands", "rows", "hand", "longer_ones", "row", "word"] ["hands"] (zh qw) := ⟨rfl, rfl, rfl, by decide +kernel, rfl, by decide +kernel, by decide +kernel⟩
abbrev vc : Stmt := top 131
theorem sc_law_house_row : zr ["outcomes", "hands", "some", "hand", "text", "t"] ["outcomes", "hands"] (zh vc) := ⟨rfl, rfl, rfl, by decide +kernel, rfl, by decide +kernel, by decide +kernel⟩
abbrev vb : Stmt := top 133
theorem sc_law_condition : zr ["cell", "hands", "k", "j", "one", "other"] ["cell", "hands"] (zh vb) := ⟨rfl, rfl, rfl, by decide +kernel, rfl, by decide +kernel, by decide +kernel⟩
abbrev xw : Stmt := top 134
theorem sc_law_condition_text : zr ["told", "hands", "one", "other", "some"] ["told", "hands"] (zh xw) := ⟨rfl, rfl, rfl, by decide +kernel, rfl, by decide +kernel, by decide +kernel⟩
abbrev xr : Stmt := top 135
theorem sc_law_condition_holds : zr ["told", "row", "one", "other"] ["told", "row"] (zh xr) := ⟨rfl, rfl, rfl, by decide +kernel, rfl, by decide +kernel, by decide +kernel⟩
abbrev v0 : Stmt := top 136
theorem sc_law_clauses : zr ["script", "hands", "outcomes", "clauses", "k", "cell"] ["script", "hands", "outcomes"] (zh v0) := ⟨rfl, rfl, rfl, by decide +kernel, rfl, by decide +kernel, by decide +kernel⟩
abbrev vg : Stmt := top 137
theorem sc_law_rule_row : zr ["clauses", "hands", "last", "some"] ["clauses", "hands", "last"] (zh vg) := ⟨rfl, rfl, rfl, by decide +kernel, rfl, by decide +kernel, by decide +kernel⟩
abbrev re : Stmt := top 138
theorem sc_law_dealt : zr ["clauses", "row", "last", "told", "outcome"] ["clauses", "row", "last"] (zh re) := ⟨rfl, rfl, rfl, by decide +kernel, rfl, by decide +kernel, by decide +kernel⟩
abbrev jp : Stmt := top 139
theorem sc_law : zr ["script", "places", "hands", "outcomes", "desk", "last", "clauses", "row", "found"] ["script"] (zh jp) := ⟨rfl, rfl, rfl, by decide +kernel, rfl, by decide +kernel, by decide +kernel⟩
abbrev xu : Stmt := top 1120
theorem j9 : zr ["self"] ["self"] (zh xu) := ⟨rfl, rfl, rfl, by decide +kernel, rfl, by decide +kernel, by decide +kernel⟩
abbrev qz : Stmt := top 2120
theorem sc_Desk_say : zr ["self", "row", "parts", "first", "rest"] ["self", "row"] (zh qz) := ⟨rfl, rfl, rfl, by decide +kernel, rfl, by decide +kernel, by decide +kernel⟩
structure Bt (mg : Str -> Option Value) : Prop where
  «abs» : mg "abs" = none
  «all» : mg "all" = none
  «any» : mg "any" = none
  «bool» : mg "bool" = none
  «dict» : mg "dict" = none
  «int» : mg "int" = none
  «isinstance» : mg "isinstance" = none
  «len» : mg "len" = none
  «list» : mg "list" = none
  «max» : mg "max" = none
  «range» : mg "range" = none
  «set» : mg "set" = none
  «str» : mg "str" = none
  «tuple» : mg "tuple" = none
  k_MOST_WORDS : ∃ t, mg "MOST_WORDS" = some (Value.int 8 t)
  k_MOST_LETTERS : ∃ t, mg "MOST_LETTERS" = some (Value.int 8 t)
  k_MOST_OUTCOMES : ∃ t, mg "MOST_OUTCOMES" = some (Value.int 8 t)
  k_MOST_HANDS : ∃ t, mg "MOST_HANDS" = some (Value.int 4 t)
  k_MOST_ROWS : ∃ t, mg "MOST_ROWS" = some (Value.int 256 t)
  k_MOST_CLAUSES : ∃ t, mg "MOST_CLAUSES" = some (Value.int 20 t)
  k_MOST_CLAUSE_WORDS : ∃ t, mg "MOST_CLAUSE_WORDS" = some (Value.int 40 t)
  k_MOST_FIGURES : ∃ t, mg "MOST_FIGURES" = some (Value.int 60 t)
structure Ad where
  NoHouse : Addr
  NoRule : Addr
  NoWord : Addr
  NoRow : Addr
  Desk : Addr
  NoStand : Addr
structure Ct (K : Fg) (mg : Str -> Option Value) (a : Ad) : Prop where
  m_NoHouse : mg "NoHouse" = some (.ref a.NoHouse)
  q_NoHouse : ErrQ K a.NoHouse
  m_NoRule : mg "NoRule" = some (.ref a.NoRule)
  q_NoRule : ErrQ K a.NoRule
  m_NoWord : mg "NoWord" = some (.ref a.NoWord)
  q_NoWord : ErrQ K a.NoWord
  m_NoRow : mg "NoRow" = some (.ref a.NoRow)
  q_NoRow : ErrQ K a.NoRow
  m_Desk : mg "Desk" = some (.ref a.Desk)
  m_NoStand : mg "NoStand" = some (.ref a.NoStand)
  q_NoStand : ErrQ K a.NoStand
  t_COUNTS : zcw K mg "COUNTS" [.str (Str.ofString "1"), .str (Str.ofString "2"), .str (Str.ofString "3"), .str (Str.ofString "4")]
  s_NoRule_NoRule : PySem.W.mroIn K a.NoRule (.ref a.NoRule) = some true
  k_NoRule_NoRule : PySem.W.kitOne K (.ref a.NoRule) (.ref a.NoRule) = some true
structure NewGrid (H H' : Hp) (b : Addr) (bs : List Addr) (rows : List (List Int)) (k n : Nat) : Prop where
  same : Same H H'
  nb : H b = none
  nr : ∀ r ∈ bs, H r = none
  nd : bs.Nodup
  ne : b ∉ bs
  at' : H' b = some (.lst (bs.map V.ref))
  lb : bs.length = k
  lr : rows.length = k
  row : ∀ (i : Nat) (r : Addr) (ns : List Int), bs[i]? = some r -> rows[i]? = some ns -> H' r = some (.lst (ns.map V.int)) /\ ns.length = n
theorem NewGrid.grid {K : Fg} {H H' : Hp} {b : Addr} {bs : List Addr} {rows : List (List Int)} {k n : Nat} (g : NewGrid H H' b bs rows k n) : GridL K H' b bs rows :=
  ⟨.of g.at', g.lb.trans g.lr.symm, fun i r ns e1 e2 => .of (g.row i r ns e1 e2).1⟩
theorem Same.upd {H H' : Hp} (s : Same H H') {a : Addr} {o : HO} (n : H a = none) : Same H (upd H' a o) := fun b u e => by
  rw [z8 (xb e n)]; exact s b u e
theorem NewGrid.nil {H H' : Hp} {b : Addr} {n : Nat} (s : Same H H') (nb : H' b = none) : NewGrid H (upd H' b (.lst [])) b [] [] 0 n :=
  ⟨Same.upd s (s.free nb), s.free nb, (fun _ z => nomatch z), List.nodup_nil, (fun z => nomatch z), zc, rfl, rfl, (fun i r ns e => by simp at e)⟩
theorem NewGrid.laid {H H' : Hp} {b c : Addr} {bs : List Addr} {rows : List (List Int)} {k n : Nat} {o : HO} (g : NewGrid H H' b bs rows k n) (nc : H' c = none) : NewGrid H (L2.upd H' c o) b bs rows k n :=
  ⟨Same.upd g.same (g.same.free nc), g.nb, g.nr, g.nd, g.ne, by rw [z8 (xb g.at' nc)]; exact g.at', g.lb, g.lr, fun i r ns e1 e2 => by
    obtain ⟨q, l⟩ := g.row i r ns e1 e2
    exact ⟨by rw [z8 (xb q nc)]; exact q, l⟩⟩
theorem NewGrid.snoc {H H' : Hp} {b c : Addr} {bs : List Addr} {rows : List (List Int)} {k n : Nat} {ns : List Int} (g : NewGrid H H' b bs rows k n) (hn : H c = none) (hc : H' c = some (.lst (ns.map V.int))) (hl : ns.length = n) (hb : c ∉ bs) (hcb : c ≠ b) :
    NewGrid H (L2.upd H' b (.lst (bs.map V.ref ++ [.ref c]))) b (bs ++ [c]) (rows ++ [ns]) (k + 1) n := by
  refine ⟨Same.upd g.same g.nb, g.nb, fun r hr => ?_, ?_, ?_, ?_, by rw [Zo, g.lb]; rfl, by rw [Zo, g.lr]; rfl, fun i r ms e1 e2 => ?_⟩
  . rcases ZH.mp hr with z | z
    . exact g.nr r z
    . rw [ZC.mp z]; exact hn
  . refine YT.mpr ⟨g.nd, by simp, fun x hx y hy => ?_⟩
    rw [ZC.mp hy]
    rintro rfl
    exact hb hx
  . intro z
    rcases ZH.mp z with z | z
    . exact g.ne z
    . exact hcb (ZC.mp z).symm
  . rw [zc, Zn]; rfl
  . have nb' : ∀ r, r ∈ bs ++ [c] -> r ≠ b := fun r hr => by
      rcases ZH.mp hr with z | z
      . rintro rfl; exact g.ne z
      . rw [ZC.mp z]; exact hcb
    have hr : r ∈ bs ++ [c] := Zi e1;rw [z8 (nb' r hr)]
    by_cases hi : i < bs.length
    . rw [Zg hi] at e1
      rw [Zg (by rw [g.lr, <- g.lb]; exact hi)] at e2;exact g.row i r ms e1 e2
    . have hi' : bs.length <= i := ZD.mp hi
      rw [Zf hi'] at e1;rw [Zf (by rw [g.lr, <- g.lb]; exact hi')] at e2
      have e0 : i - bs.length = 0 := by
        have := (Zc.mp e1).1;simp at this; omega
      rw [e0] at e1;have e0' : i - rows.length = 0 := by rw [g.lr, <- g.lb]; exact e0
      rw [e0'] at e2;simp at e1 e2;subst e1 e2;exact ⟨hc, hl⟩
theorem NewGrid.put {H H' : Hp} {b c : Addr} {bs : List Addr} {rows : List (List Int)} {k n j i : Nat} {ns : List Int} {v : Int} (g : NewGrid H H' b bs rows k n) (hi : bs[i]? = some c) (hr : rows[i]? = some ns) :
    NewGrid H (L2.upd H' c (.lst ((ns.map V.int).set j (.int v)))) b bs (rows.set i (ns.set j v)) k n := by
  have hm : c ∈ bs := Zi hi;have hcb : b ≠ c := by rintro rfl; exact g.ne hm
  refine ⟨Same.upd g.same (g.nr c hm), g.nb, g.nr, g.nd, g.ne, by rw [z8 hcb]; exact g.at', g.lb, by rw [List.length_set]; exact g.lr, fun i' r ms e1 e2 => ?_⟩
  by_cases e : i' = i
  . subst e
    rw [hi] at e1; cases e1;rw [YA (Zc.mp hr).1] at e2;cases e2;refine ⟨by rw [zc, List.map_set], ?_⟩;rw [List.length_set];exact (g.row _ c ns hi hr).2
  . have hrc : r ≠ c := by
      rintro rfl
      obtain ⟨h1, e1'⟩ := Zc.mp e1;obtain ⟨h2, e2'⟩ := Zc.mp hi;exact e ((YD g.nd).mp (e1'.trans e2'.symm))
    rw [YF (Ne.symm e)] at e2;rw [z8 hrc];exact g.row i' r ms e1 e2
theorem NewGrid.trans {H H1 H' : Hp} {b : Addr} {bs : List Addr} {rows : List (List Int)} {k n : Nat} (s : Same H H1) (g : NewGrid H1 H' b bs rows k n) : NewGrid H H' b bs rows k n :=
  ⟨s.trans g.same, s.free g.nb, fun r hr => s.free (g.nr r hr), g.nd, g.ne, g.at', g.lb, g.lr, g.row⟩
def iu (K : Fg) : Sp := fun vs H Q _ => ∃ (a : Addr) (ns : List Int) (k : Int), vs = [.ref a, .int k] /\ SqL K H a (ns.map V.int) /\ 0 <= k /\ ∀ v : Int, Q (.int v) H
def zcv (K : Fg) : Sp := fun vs H Q _ => ∃ (a : Addr) (ns : List Int), vs = [.ref a] /\ SqL K H a (ns.map V.int) /\ ns.length <= 63 /\ ∀ H', Q (.bl true) H'
theorem zde {K : Fg} {f : Addr} {fd : FuncData} (F : Fun K "law" "law" jp f fd) (s : Shared) (u : Value) : BindsTo s fd ⟨[u], []⟩ [("script", u)] := by
  obtain ⟨oc, od, kV, doc, pm, an, cdv, ct, osl, rfl, lk, hcd⟩ := F.ex;exact .of_eq rfl
structure Copy (H1 H2 : Hp) (rows : List (List Int)) (i : Nat) (cs : List Addr) : Prop where
  same : Same H1 H2
  len : cs.length = i
  row : ∀ (j : Nat) (c : Addr) (ns : List Int), cs[j]? = some c -> rows[j]? = some ns -> H2 c = some (.lst (ns.map V.int))
theorem Copy.snoc {H1 H2 : Hp} {rows : List (List Int)} {i : Nat} {cs : List Addr} {l : Addr} {ns : List Int} (C : Copy H1 H2 rows i cs) (hl : H2 l = none) (e : rows[i]? = some ns) : Copy H1 (upd H2 l (.lst (ns.map V.int))) rows (i + 1) (cs ++ [l]) := by
  refine ⟨Same.upd C.same (C.same.free hl), by rw [Zo, C.len]; rfl, fun j c ms e1 e2 => ?_⟩
  by_cases hj : j < cs.length
  . rw [Zg hj] at e1
    have q := C.row j c ms e1 e2;rw [z8 (xb q hl)]; exact q
  . have hj' : cs.length <= j := ZD.mp hj
    rw [Zf hj'] at e1
    have h0 : j - cs.length = 0 := by
      have := (Zc.mp e1).1;simp at this; omega
    rw [h0] at e1;simp at e1;subst e1;have hji : j = i := by rw [<- C.len]; omega
    subst hji;rw [e] at e2; cases e2;exact zc
theorem GridL.mono {K : Fg} {H H' : Hp} {g : Addr} {as : List Addr} {rows : List (List Int)} (S : Same H H') (G : GridL K H g as rows) : GridL K H' g as rows := ⟨S.seq G.1, G.2.1, fun i r ns e1 e2 => S.seq (G.2.2 i r ns e1 e2)⟩
theorem NewGrid.width {H H' : Hp} {b : Addr} {bs : List Addr} {rows : List (List Int)} {n : Nat} (G : NewGrid H H' b bs rows n n) : ∀ i : Nat, i < n -> ∃ ns : List Int, rows[i]? = some ns /\ ns.length = n := fun i hi => by
  have hr2 : i < rows.length := by rw [G.lr]; exact hi
  have hb2 : i < bs.length := by rw [G.lb]; exact hi
  exact ⟨rows[i], by simp [hr2], (G.row i bs[i] rows[i] (by simp [hb2]) (by simp [hr2])).2⟩
theorem ld {bs : List Addr} {i : Nat} {x : V} (hx : (bs.map V.ref)[i]? = some x) : ∃ r, bs[i]? = some r /\ x = V.ref r := by
  rw [Ze] at hx
  cases e : bs[i]? with
  | none => rw [e] at hx; cases hx
  | some r => rw [e] at hx; cases hx; exact ⟨r, rfl, rfl⟩
theorem zfm {ms : List Int} {i : Nat} {x : V} (hx : (ms.map V.int)[i]? = some x) : ∃ r, ms[i]? = some r /\ x = V.int r := by
  rw [Ze] at hx
  cases e : ms[i]? with
  | none => rw [e] at hx; cases hx
  | some r => rw [e] at hx; cases hx; exact ⟨r, rfl, rfl⟩
inductive Cd where
  | says (k : Nat) (w : Str)
  | count (n : Nat) (w : Str)
  | no (c : Cd)
  | an (c d : Cd)
  | orr (c d : Cd)
def dep : Cd -> Nat
  | .says _ _ => 0
  | .count _ _ => 0
  | .no c => dep c + 1
  | .an c d => max (dep c) (dep d) + 1
  | .orr c d => max (dep c) (dep d) + 1
def fit (n : Nat) : Cd -> Prop
  | .says k _ => k < n
  | .count _ _ => True
  | .no c => fit n c
  | .an c d => fit n c /\ fit n d
  | .orr c d => fit n c /\ fit n d
def ev (r : List Str) : Cd -> Bool
  | .says k w => decide (r[k]? = some w)
  | .count n w => decide ((n : Int) <= ((r.map V.str).countP fun z => eqV z (V.str w) : Nat))
  | .no c => !ev r c
  | .an c d => ev r c && ev r d
  | .orr c d => ev r c || ev r d
def CondAt (H : Hp) : Cd -> V -> Prop
  | .says k w, v => ∃ t, v = .ref t /\ H t = some (.tup [.str (Str.ofString "says"), .int k, .str w])
  | .count n w, v => ∃ t, v = .ref t /\ H t = some (.tup [.str (Str.ofString "count"), .int n, .str w])
  | .no c, v => ∃ t x, v = .ref t /\ H t = some (.tup [.str (Str.ofString "not"), x]) /\ CondAt H c x
  | .an c d, v => ∃ t x y, v = .ref t /\ H t = some (.tup [.str (Str.ofString "and"), x, y]) /\ CondAt H c x /\ CondAt H d y
  | .orr c d, v => ∃ t x y, v = .ref t /\ H t = some (.tup [.str (Str.ofString "or"), x, y]) /\ CondAt H c x /\ CondAt H d y
theorem CondAt.mono {H H' : Hp} (S : Same H H') : ∀ {c : Cd} {v : V}, CondAt H c v -> CondAt H' c v
  | .says _ _, _, h => by obtain ⟨t, e, h⟩ := h; exact ⟨t, e, S _ _ h⟩
  | .count _ _, _, h => by obtain ⟨t, e, h⟩ := h; exact ⟨t, e, S _ _ h⟩
  | .no _, _, h => by obtain ⟨t, x, e, h, h1⟩ := h; exact ⟨t, x, e, S _ _ h, CondAt.mono S h1⟩
  | .an _ _, _, h => by obtain ⟨t, x, y, e, h, h1, h2⟩ := h; exact ⟨t, x, y, e, S _ _ h, CondAt.mono S h1, CondAt.mono S h2⟩
  | .orr _ _, _, h => by obtain ⟨t, x, y, e, h, h1, h2⟩ := h; exact ⟨t, x, y, e, S _ _ h, CondAt.mono S h1, CondAt.mono S h2⟩
def CoAt (H : Hp) : Option Cd -> V -> Prop
  | none, v => v = .non
  | some c, v => CondAt H c v
def evo (r : List Str) : Option Cd -> Bool
  | none => true
  | some c => ev r c
def depo : Option Cd -> Nat
  | none => 0
  | some c => dep c
def fito (n : Nat) : Option Cd -> Prop
  | none => True
  | some c => fit n c
def za1 (K : Fg) (d : Nat) : Sp := fun vs H Q _ => ∃ (v : V) (r : Addr) (row : List Str) (c : Option Cd), vs = [v, .ref r] /\ CoAt H c v /\ H r = some (.tup (row.map V.str)) /\ fito row.length c /\ depo c < d /\ Q (.bl (evo row c)) H
theorem uf (zs : List Str) : (zs.map V.str).all xf = true := by
  rw [ZR];intro x hx;obtain ⟨z, _, rfl⟩ := Zp.mp hx;rfl
section
variable {P : Program} {w : World} {K : Fg} {mg : Str -> Option Value} {base : Heap}
theorem w4 (D : zg K mg "holds" jo ["condition", "row"]) : ∀ d, FnAt P w K mg base "holds" (d + 1) ["condition", "row"] (za1 K d)
  | 0 => by
    refine FnAt.of D sc_holds (fun vs H Q E h => ?_) (fun f cdv A outer s H vs Q E hr h => ?_)
    . obtain ⟨v, r, row, c, rfl, _⟩ := h
      rfl
    . obtain ⟨v, r, row, c, _, _, _, _, h, _⟩ := h
      omega
  | d + 1 => by
    have w4 := w4 D d;refine FnAt.of D sc_holds (fun vs H Q E h => ?_) (fun f cdv A outer s H vs Q E hr h => ?_)
    . obtain ⟨v, r, row, c, rfl, _⟩ := h
      rfl
    . obtain ⟨v, r, row, c, rfl, hc, hrow, hf, hd, q⟩ := h
      refine ⟨_, (@ze _ _ _ _ _ (@yd _ _ _ _ _ _ _ _ (@z5 _ _ _ _ _ _ _ _ av (pv 0) (@qf _ _ _) (z9 _)) (@zf _ _ _ (@zq _ _ _ _ (@vz _ _ _ _))) (@zz _)) (@ze _ _ _ _ _ (zv (i := 2) sc_holds.nd rfl (Or.inl rfl) (@zu _ _ _ _ _ _ _ yb (pv 0) (@zd _ _ _ _) (fun _ _ => rfl))) (@ze _ _ _ _ _ (@yd _ _ _ _ _ _ _ _ (@z5 _ _ _ _ _ _ _ _ xt (pv 2) (@zm _ _ _ _) (z9 _)) (@zf _ _ _ (@zq _ _ _ _ (@vm _ _ _ _ _ _ _ _ xt (@zu _ _ _ _ _ _ _ yb (pv 1) (@zu _ _ _ _ _ _ _ yb (pv 0) (@zd _ _ _ _) (fun _ _ => rfl)) (fun _ _ => rfl)) (@zu _ _ _ _ _ _ _ yb (pv 0) (@zd _ _ _ _) (fun _ _ => rfl)) (z9 _)))) (@zz _)) (@ze _ _ _ _ _ (@yd _ _ _ _ _ _ _ _ (@z5 _ _ _ _ _ _ _ _ xt (pv 2) (@zm _ _ _ _) (z9 _)) (@zf _ _ _ (@zq _ _ _ _ (@vm _ _ _ _ _ _ _ _ zcr (zd6 PySem.F.plainAttrs_tuple PySem.F.slot_tuple_count PySem.F.type_tuple_count f7 (pv 1) (za (@zu _ _ _ _ _ _ _ yb (pv 0) (@zd _ _ _ _) (fun _ _ => rfl)) (@zb _))) (@zu _ _ _ _ _ _ _ yb (pv 0) (@zd _ _ _ _) (fun _ _ => rfl)) (z9 _)))) (@zz _)) (@ze _ _ _ _ _ (@yd _ _ _ _ _ _ _ _ (@z5 _ _ _ _ _ _ _ _ xt (pv 2) (@zm _ _ _ _) (z9 _)) (@zf _ _ _ (@zq _ _ _ _ (@gf _ _ _ _ (zk w4 (hr.mono (by omega)) rfl (za (@zu _ _ _ _ _ _ _ yb (pv 0) (@zd _ _ _ _) (fun _ _ => rfl)) (za (pv 1) (@zb _))))))) (@zz _)) (@ze _ _ _ _ _ (@yd _ _ _ _ _ _ _ _ (@z5 _ _ _ _ _ _ _ _ xt (pv 2) (@zm _ _ _ _) (z9 _)) (@zf _ _ _ (@zq _ _ _ _ (@uw _ _ _ _ _ _ _ (zk w4 (hr.mono (by omega)) rfl (za (@zu _ _ _ _ _ _ _ yb (pv 0) (@zd _ _ _ _) (fun _ _ => rfl)) (za (pv 1) (@zb _)))) (@vq _ _ _ _ _ (zk w4 (hr.mono (by omega)) rfl (za (@zu _ _ _ _ _ _ _ yb (pv 0) (@zd _ _ _ _) (fun _ _ => rfl)) (za (pv 1) (@zb _)))))))) (@zz _)) (@zf _ _ _ (@zq _ _ _ _ (@pe_or _ _ _ _ _ _ _ (zk w4 (hr.mono (by omega)) rfl (za (@zu _ _ _ _ _ _ _ yb (pv 0) (@zd _ _ _ _) (fun _ _ => rfl)) (za (pv 1) (@zb _)))) (@vq _ _ _ _ _ (zk w4 (hr.mono (by omega)) rfl (za (@zu _ _ _ _ _ _ _ yb (pv 0) (@zd _ _ _ _) (fun _ _ => rfl)) (za (pv 1) (@zb _)))))))))))))), ?_⟩;rw [show start ["condition", "row", "kind"] [v, V.ref r] = [some v, some (V.ref r), none] from rfl];simp only [zi, zj, ↓reduceIte]
      cases c with
      | none =>
        cases hc;exact ite2 (fun _ => q) (fun z => absurd (decide_eq_true rfl) z)
      | some c =>
        cases c with
        | says k w =>
          obtain ⟨t, rfl, ht⟩ := hc;have hk : k < row.length := hf;refine ite2 (fun z => absurd (of_decide_eq_true z) (by simp)) (fun _ => ⟨t, rfl, _, .of ht, _, zn (j := 0) rfl, rfl, ite2 (fun _ => ?_) (fun z => absurd (decide_eq_true rfl) z)⟩);refine ⟨t, rfl, _, .of ht, _, zn (j := 1) rfl, _, _, rfl, .of hrow, _, zn (j := k) (by rw [Ze, Zb hk]; rfl), t, rfl, _, .of ht, _, zn (j := 2) rfl, rfl, ?_⟩
          have e : decide (V.str row[k] = V.str w) = evo row (some (.says k w)) := by
            show _ = decide (row[k]? = some w)
            rw [Zb hk];simp
          rw [e];exact q
        | count n w =>
          obtain ⟨t, rfl, ht⟩ := hc;refine ite2 (fun z => absurd (of_decide_eq_true z) (by simp)) (fun _ => ⟨t, rfl, _, .of ht, _, zn (j := 0) rfl, rfl, ite2 (fun z => absurd (of_decide_eq_true z) (by simp; decide)) (fun _ => ⟨rfl, ite2 (fun _ => ?_) (fun z => absurd (decide_eq_true rfl) z)⟩)⟩);exact ⟨⟨_, .of hrow⟩, t, rfl, _, .of ht, _, zn (j := 2) rfl, _, .of hrow, rfl, uf row, t, rfl, _, .of ht, _, zn (j := 1) rfl, _, rfl, q⟩
        | no c =>
          obtain ⟨t, x, rfl, ht, h1⟩ := hc;have hd' : dep c + 1 < d + 1 := hd;refine ite2 (fun z => absurd (of_decide_eq_true z) (by simp)) (fun _ => ⟨t, rfl, _, .of ht, _, zn (j := 0) rfl, rfl, ite2 (fun z => absurd (of_decide_eq_true z) (by simp; decide)) (fun _ => ⟨rfl, ite2 (fun z => absurd (of_decide_eq_true z) (by simp; decide)) (fun _ => ⟨rfl, ite2 (fun _ => ?_) (fun z => absurd (decide_eq_true rfl) z)⟩)⟩)⟩);exact ⟨t, rfl, _, .of ht, _, zn (j := 1) rfl, x, r, row, some c, rfl, h1, hrow, hf, (show dep c < d by omega), _, rfl, q⟩
        | an c d' =>
          obtain ⟨t, x, y, rfl, ht, h1, h2⟩ := hc;have hd' : max (dep c) (dep d') + 1 < d + 1 := hd;refine ite2 (fun z => absurd (of_decide_eq_true z) (by simp)) (fun _ => ⟨t, rfl, _, .of ht, _, zn (j := 0) rfl, rfl, ite2 (fun z => absurd (of_decide_eq_true z) (by simp; decide)) (fun _ => ⟨rfl, ite2 (fun z => absurd (of_decide_eq_true z) (by simp; decide)) (fun _ => ⟨rfl, ite2 (fun z => absurd (of_decide_eq_true z) (by simp; decide)) (fun _ => ⟨rfl, ite2 (fun _ => ?_) (fun z => absurd (decide_eq_true rfl) z)⟩)⟩)⟩)⟩);refine ⟨t, rfl, _, .of ht, _, zn (j := 1) rfl, x, r, row, some c, rfl, h1, hrow, hf.1, (show dep c < d by omega), ?_⟩;have e : evo row (some (.an c d')) = (evo row (some c) && evo row (some d')) := rfl;rw [e] at q;refine ⟨_, rfl, ite2 (fun z => ?_) (fun z => ?_)⟩
          . rw [z, Bool.true_and] at q
            exact ⟨t, rfl, _, .of ht, _, zn (j := 2) rfl, y, r, row, some d', rfl, h2, hrow, hf.2, (show dep d' < d by omega), q⟩
          . rw [Bool.eq_false_iff.mpr z, Bool.false_and] at q
            exact q
        | orr c d' =>
          obtain ⟨t, x, y, rfl, ht, h1, h2⟩ := hc;have hd' : max (dep c) (dep d') + 1 < d + 1 := hd;refine ite2 (fun z => absurd (of_decide_eq_true z) (by simp)) (fun _ => ⟨t, rfl, _, .of ht, _, zn (j := 0) rfl, rfl, ite2 (fun z => absurd (of_decide_eq_true z) (by simp; decide)) (fun _ => ⟨rfl, ite2 (fun z => absurd (of_decide_eq_true z) (by simp; decide)) (fun _ => ⟨rfl, ite2 (fun z => absurd (of_decide_eq_true z) (by simp; decide)) (fun _ => ⟨rfl, ite2 (fun z => absurd (of_decide_eq_true z) (by simp; decide)) (fun _ => ?_)⟩)⟩)⟩)⟩);refine ⟨t, rfl, _, .of ht, _, zn (j := 1) rfl, x, r, row, some c, rfl, h1, hrow, hf.1, (show dep c < d by omega), ?_⟩;have e : evo row (some (.orr c d')) = (evo row (some c) || evo row (some d')) := rfl;rw [e] at q;refine ⟨_, rfl, ite2 (fun z => ?_) (fun z => ?_)⟩
          . rw [z, Bool.true_or] at q
            exact q
          . rw [Bool.eq_false_iff.mpr z, Bool.false_or] at q
            exact ⟨t, rfl, _, .of ht, _, zn (j := 2) rfl, y, r, row, some d', rfl, h2, hrow, hf.2, (show dep d' < d by omega), q⟩
end
structure RuleAt (H : Hp) (l : Addr) (rl : List (Addr × Option Cd × Str)) (n : Nat) : Prop where
  at' : H l = some (.lst (rl.map fun c => V.ref c.1))
  cl : ∀ c ∈ rl, (∃ x, H c.1 = some (.tup [x, .str c.2.2]) /\ CoAt H c.2.1 x) /\ fito n c.2.1 /\ depo c.2.1 < 40
def vo (rl : List (Addr × Option Cd × Str)) (row : List Str) : List Str := (rl.filter fun c => evo row c.2.1).map fun c => c.2.2
theorem CoAt.mono {H H' : Hp} (S : Same H H') : ∀ {c : Option Cd} {v : V}, CoAt H c v -> CoAt H' c v
  | none, _, h => h
  | some _, _, h => CondAt.mono S h
theorem RuleAt.mono {H H' : Hp} {l : Addr} {rl : List (Addr × Option Cd × Str)} {n : Nat} (S : Same H H') (h : RuleAt H l rl n) : RuleAt H' l rl n := ⟨S _ _ h.at', fun c hc => by
  obtain ⟨⟨x, h1, h2⟩, h3⟩ := h.cl c hc
  exact ⟨⟨x, S _ _ h1, h2.mono S⟩, h3⟩⟩
def zbb (K : Fg) : Sp := fun vs H Q _ => ∃ (l r : Addr) (rl : List (Addr × Option Cd × Str)) (row : List Str) (z : Str) (zs : List Str), vs = [.ref l, .ref r] /\ RuleAt H l rl row.length /\ rl.length <= 60 /\ H r = some (.tup (row.map V.str)) /\ vo rl row = z :: zs /\ ∀ H', Same H H' -> Q (.str z) H'
def PvDl (H : Hp) (rl : List (Addr × Option Cd × Str)) (row : List Str) (i : Nat) (ys : List V) (H' : Hp) : Prop := H' = H /\ ys = (vo (rl.take i) row).map V.str
theorem jy {rl : List (Addr × Option Cd × Str)} {row : List Str} {i : Nat} {c : Addr × Option Cd × Str} (h : rl[i]? = some c) : vo (rl.take (i + 1)) row = vo (rl.take i) row ++ if evo row c.2.1 = true then [c.2.2] else [] := by
  rw [vo, Zq, h, List.filter_append, Zn]
  show vo (rl.take i) row ++ List.map _ (List.filter _ [c]) = _
  rw [YE, List.filter_nil];cases evo row c.2.1 <;> rfl
theorem zcu (rl : List (Addr × Option Cd × Str)) (row : List Str) : (vo rl row).length <= rl.length := by
  rw [vo, Za];exact List.length_filter_le _ _
section
variable {P : Program} {w : World} {K : Fg} {mg : Str -> Option Value} {base : Heap}
theorem fj (w4 : FnAt P w K mg base "holds" 42 ["condition", "row"] (za1 K 41)) (D : zg K mg "dealt" jn ["rule", "row"]) : FnAt P w K mg base "dealt" 43 ["rule", "row"] (zbb K) := by
  refine FnAt.of D zfp (fun vs H Q E h => ?_) (fun f cdv A outer s H vs Q E hr h => ?_)
  . obtain ⟨l, r, rl, row, z, zs, rfl, _⟩ := h
    rfl
  . obtain ⟨l, r, rl, row, z, zs, rfl, hR, l60, hrow, hz, q⟩ := h
    refine ⟨_, (@zf _ _ _ (@zq _ _ _ _ (@zu _ _ _ _ _ _ _ z3 (ym ["condition", "outcome"] ["rule", "row"] rfl (@yg _ _ _ _ (pv 0)) (fun _ => (bw rfl (sw (zx (i := 0) (show (["condition", "outcome", "rule", "row"] : List Str).Nodup by decide +kernel) rfl (Or.inl rfl)) (sw (zx (i := 1) (show (["condition", "outcome", "rule", "row"] : List Str).Nodup by decide +kernel) rfl (Or.inl rfl)) (@fc _))))) (fun _ => (@zf8 _ _ _ (xg (zk w4 (hr.mono (by decide)) rfl (za (pv 0) (za (pv 3) (@zb _))))))) (fun _ => (pv 1)) rfl (by decide +kernel) rfl rfl) (@zd _ _ _ _) (fun _ _ => rfl)))), ?_⟩;rw [show start ["rule", "row"] [V.ref l, V.ref r] = [some (V.ref l), some (V.ref r)] from rfl];simp only [zi, zj, ↓reduceIte];refine ⟨⟨_, .of hR.at'⟩, fun d => ?_⟩;refine yk (xs := rl.map fun c => V.ref c.1) (PvDl H rl row) ⟨rfl, rfl⟩ ?_ ?_ ?_
    . rintro i ys H2 hi ⟨rfl, rfl⟩
      refine ⟨?_, .of hR.at'⟩;rw [Za];have := zcu (rl.take i) row;rw [Zj] at this;exact Zd (show _ <= 100 by omega) (by decide)
    . rintro i x ys H2 hx ⟨rfl, rfl⟩
      obtain ⟨c, hc, rfl⟩ := yj hx;obtain ⟨⟨x, h1, h2⟩, h3, h4⟩ := hR.cl c (Zi hc);simp only [zi, zj, ↓reduceIte];refine ⟨_, .of h1, rfl, _, _, rfl, _, _, rfl, rfl, x, r, row, c.2.1, rfl, h2, hrow, h3, by omega, _, rfl, ite2 (fun y => ⟨rfl, ?_⟩) (fun y => ⟨rfl, ?_⟩)⟩
      . rw [jy hc, if_pos y, Zn]; rfl
      . rw [jy hc, if_neg y, ZO]
    . rintro ys H2 ⟨rfl, rfl⟩ l2 hl2
      rw [Za, Zt, hz];exact ⟨_, .of zc, _, zn (j := 0) rfl, q _ (Same.upd (Same.refl _) hl2)⟩
end
structure HX where
  t : Addr
  w : Addr
  g : Addr
  gs : List Addr
structure HD where
  name : Str
  words : List Str
  worths : List (List Int)
structure HandAt (H : Hp) (x : HX) (d : HD) : Prop where
  tup : H x.t = some (.tup [.str d.name, .ref x.w, .ref x.g])
  words : H x.w = some (.lst (d.words.map V.str))
  grid : H x.g = some (.lst (x.gs.map V.ref))
  len : x.gs.length = d.worths.length
  row : ∀ (i : Nat) (r : Addr) (ns : List Int), x.gs[i]? = some r -> d.worths[i]? = some ns -> H r = some (.lst (ns.map V.int))
theorem HandAt.mono {H H' : Hp} {x : HX} {d : HD} (S : Same H H') (h : HandAt H x d) : HandAt H' x d :=
  ⟨S _ _ h.tup, S _ _ h.words, S _ _ h.grid, h.len, fun i r ns e1 e2 => S _ _ (h.row i r ns e1 e2)⟩
def GoodN (z : Str) : Prop := 1 <= z.length /\ z.length <= 8 /\ ∀ c ∈ z.cps.toList, 97 <= c /\ c <= 122
theorem la {z : Str} {n c : Nat} (h : c ∈ (y9 z n).cps.toList) : c ∈ z.cps.toList := by
  unfold y9 at h;simp only [List.toList_toArray, YY] at h;obtain ⟨l, h1, h2⟩ := h;rw [(List.mem_replicate.mp h1).2] at h2;exact h2
theorem j4 {y z : Str} {c : Nat} (h : c ∈ (y ++ z).cps.toList) : c ∈ y.cps.toList \/ c ∈ z.cps.toList := by
  have : (y ++ z).cps.toList = y.cps.toList ++ z.cps.toList := by
    show (y.cps ++ z.cps).toList = _
    simp
  rw [this] at h;exact ZH.mp h
theorem zhb {x y : Str} {n : Nat} {a b : Nat} (f : Str) (h : y9 f n ++ chr1 a ++ x = y9 f n ++ chr1 b ++ y) : a = b := by
  have h1 : (y9 f n ++ chr1 a ++ x).cps.toList = (y9 f n ++ chr1 b ++ y).cps.toList := by rw [h]
  have e : ∀ (z : Str) (a : Nat), (y9 f n ++ chr1 a ++ z).cps.toList = (y9 f n).cps.toList ++ ([a] ++ z.cps.toList) := fun z a => by
    show (((y9 f n).cps ++ (chr1 a).cps) ++ z.cps).toList = _
    simp [chr1]
  rw [e, e] at h1;have := List.append_cancel_left h1;simp at this;exact this.1
def strT (z : Str) : Tr := .lf (.str z)
def intT (i : Int) : Tr := .lf (.int i)
def rowT (ns : List Int) : Tr := .tp (ns.map intT)
def zck (d : HD) : Tr := .tp [strT d.name, .tp (d.words.map strT), .tp (d.worths.map rowT)]
def houseT (outs : List Str) (ds : List HD) : Tr := .tp [.tp (outs.map strT), .tp (ds.map zck)]
structure HandsL (H : Hp) (b : Addr) (xs : List HX) (ds : List HD) : Prop where
  at' : H b = some (.lst (xs.map fun x => V.ref x.t))
  len : xs.length = ds.length
  hand : ∀ (i : Nat) (x : HX) (d : HD), xs[i]? = some x -> ds[i]? = some d -> HandAt H x d
theorem HandsL.mono {H H' : Hp} {b : Addr} {xs : List HX} {ds : List HD} (S : Same H H') (g : HandsL H b xs ds) : HandsL H' b xs ds := ⟨S _ _ g.at', g.len, fun i x d e1 e2 => (g.hand i x d e1 e2).mono S⟩
theorem fg {K : Fg} {H : Hp} : ∀ (zs : List Str), TrsAt K H (zs.map strT) (zs.map V.str)
  | [] => TrsAt.nil
  | z :: zs => TrsAt.cons (TrAt.lf rfl) (fg zs)
theorem zat {K : Fg} {H : Hp} : ∀ (zs : List Int), TrsAt K H (zs.map intT) (zs.map V.int)
  | [] => TrsAt.nil
  | z :: zs => TrsAt.cons (TrAt.lf rfl) (zat zs)
def PvD (K : Fg) (ds : List HD) (H1 : Hp) (i : Nat) (ys : List V) (H' : Hp) : Prop := Same H1 H' /\ ys.length = i /\ TrsAt K H' ((ds.take i).map zck) ys
def PvE (K : Fg) (rows : List (List Int)) (H1 : Hp) (i : Nat) (ys : List V) (H' : Hp) : Prop := Same H1 H' /\ ys.length = i /\ TrsAt K H' ((rows.take i).map rowT) ys
structure GoodHouse (outs : List Str) (ds : List HD) : Prop where
  outs1 : 1 <= outs.length /\ outs.length <= 8
  outsG : ∀ z ∈ outs, GoodN z
  outsD : outs.Nodup
  hands : 1 <= ds.length /\ ds.length <= 4
  handsG : ∀ d ∈ ds, GoodN d.name
  handsD : (ds.map HD.name).Nodup
  words1 : ∀ d ∈ ds, 1 <= d.words.length /\ d.words.length <= 8
  wordsG : ∀ d ∈ ds, ∀ z ∈ d.words, GoodN z
  wordsD : ∀ d ∈ ds, d.words.Nodup
  rows : ∀ d ∈ ds, d.worths.length = d.words.length
  cols : ∀ d ∈ ds, ∀ r ∈ d.worths, r.length = outs.length
  nums : ∀ d ∈ ds, ∀ r ∈ d.worths, ∀ n ∈ r, -(10 ^ 60) < n /\ n < 10 ^ 60
  few : (ds.map fun d => d.words.length).prod <= 256
def zgy (K : Fg) : Sp := fun vs H Q _ => ∃ (o b : Addr) (outs : List Str) (xs : List HX) (ds : List HD), vs = [.ref o, .ref b] /\ H o = some (.lst (outs.map V.str)) /\ HandsL H b xs ds /\ GoodHouse outs ds /\
  ∀ H' p us, Same H H' -> H' p = some (.tup us) -> TrAt K H' (houseT outs ds) (.ref p) -> Q (.ref p) H'
theorem zgw {n t : Nat} : ∀ {l : List Nat}, (∀ x ∈ l, x <= t) -> l.length = n -> l.prod <= t ^ n := by
  induction n with
  | zero => intro l _ hl; rw [Yy.mp hl]; simp
  | succ n ih =>
    intro l h hl
    match l, hl with
    | x :: l, hl =>
      rw [List.prod_cons, Nat.pow_succ, Nat.mul_comm];exact YN (ih (fun y hy => h y (Zv _ hy)) (by simpa using hl)) (h x ZA)
def d8 (i : Int) : Prop := -(10 ^ 60) < i /\ i < 10 ^ 60
def zdd : Sp := fun vs H Q _ => ∃ i : Int, vs = [.int i] /\ Q (.bl true) H
def zc7 : Sp := fun vs H Q _ => ∃ i : Int, vs = [.int i] /\ d8 i /\ Q (.bl true) H
def qRow : Sp := fun vs H Q _ => ∃ (r : Addr) (ns : List Int) (n : Nat), vs = [.ref r, .int n] /\ H r = some (.lst (ns.map V.int)) /\ ns.length = n /\ n <= 8 /\ (∀ i ∈ ns, d8 i) /\ ∀ H', Same H H' -> Q (.bl true) H'
def zb7 : Sp := fun vs H Q _ => ∃ z : Str, vs = [.str z] /\ GoodN z /\ ∀ H', Same H H' -> Q (.bl true) H'
def ad : Sp := fun vs H Q _ => ∃ (l : Addr) (zs : List Str) (m : Nat), vs = [.ref l, .int m] /\ H l = some (.lst (zs.map V.str)) /\ 1 <= zs.length /\ zs.length <= m /\ m <= 8 /\ (∀ z ∈ zs, GoodN z) /\ zs.Nodup /\ ∀ H', Same H H' -> Q (.bl true) H'
def za8 : Sp := fun vs H Q _ => ∃ (g : Addr) (gs : List Addr) (rows : List (List Int)) (h n : Nat), vs = [.ref g, .int h, .int n] /\ H g = some (.lst (gs.map V.ref)) /\ gs.length = h /\ rows.length = h /\ h <= 8 /\ n <= 8 /\ (∀ (i : Nat) (r : Addr) (ns : List Int), gs[i]? = some r -> rows[i]? = some ns -> H r = some (.lst (ns.map V.int))) /\
  (∀ r ∈ rows, r.length = n /\ ∀ i ∈ r, d8 i) /\ ∀ H', Same H H' -> Q (.bl true) H'
structure GoodD (d : HD) (n : Nat) : Prop where
  name : GoodN d.name
  words : 1 <= d.words.length /\ d.words.length <= 8
  wordsG : ∀ z ∈ d.words, GoodN z
  wordsD : d.words.Nodup
  rows : d.worths.length = d.words.length
  cols : ∀ r ∈ d.worths, r.length = n /\ ∀ i ∈ r, d8 i
theorem GoodHouse.hand {outs : List Str} {ds : List HD} (g : GoodHouse outs ds) {d : HD} (h : d ∈ ds) : GoodD d outs.length :=
  ⟨g.handsG d h, g.words1 d h, g.wordsG d h, g.wordsD d h, g.rows d h, fun r hr => ⟨g.cols d h r hr, fun i hi => g.nums d h r hr i hi⟩⟩
def qHand : Sp := fun vs H Q _ => ∃ (x : HX) (d : HD) (n : Nat), vs = [.ref x.t, .int n] /\ HandAt H x d /\ GoodD d n /\ n <= 8 /\ ∀ H', Same H H' -> Q (.bl true) H'
def up (f : HX -> HD -> V) : Sp := fun vs H Q _ => ∃ (x : HX) (d : HD), vs = [.ref x.t] /\ HandAt H x d /\ Q (f x d) H
def zd0 : Sp := fun vs H Q _ => ∃ (b : Addr) (xs : List HX) (ds : List HD), vs = [.ref b] /\ HandsL H b xs ds /\ (∀ d ∈ ds, d.words.length <= 8) /\ ds.length <= 4 /\ Q (.int ((ds.map fun d => d.words.length).prod : Nat)) H
def bu : Sp := fun vs H Q _ => ∃ (o b : Addr) (outs : List Str) (xs : List HX) (ds : List HD), vs = [.ref o, .ref b] /\ H o = some (.lst (outs.map V.str)) /\ HandsL H b xs ds /\ GoodHouse outs ds /\ ∀ H', Same H H' -> Q (.bl true) H'
def qKept (K : Fg) : Sp := fun vs H Q _ => ∃ (x : HX) (d : HD), vs = [.ref x.t] /\ HandAt H x d /\ d.worths.length <= 8 /\ ∀ H' p, Same H H' -> TrAt K H' (zck d) (.ref p) -> Q (.ref p) H'
def allT (n : Nat) : List Bool := List.replicate n true
def PvAT (H : Hp) (i : Nat) (ys : List V) (H' : Hp) : Prop := Same H H' /\ ys = (allT i).map V.bl
theorem uk (n : Nat) : (allT n).map V.bl ++ [V.bl true] = (allT (n + 1)).map V.bl := by
  rw [allT, allT, List.replicate_succ', Zn]; rfl
theorem sx (n : Nat) : (allT n).all id = true := by
  rw [ZR];intro x hx;exact List.eq_of_mem_replicate hx
theorem sv (n : Nat) : ((allT n).map V.bl).length = n := by rw [Za, allT, ZI]
theorem zbo {zs : List Str} (hd : zs.Nodup) : ∀ i, i <= zs.length -> seen (fun j => zs.getD j ⟨#[]⟩) i = zs.take i
  | 0, _ => rfl
  | i + 1, h => by
    have ih := zbo hd i (by omega);have hi : i < zs.length := by omega
    have e : zs.getD i ⟨#[]⟩ = zs[i] := by simp [Zk, hi]
    show (if zs.getD i ⟨#[]⟩ ∈ seen (fun j => zs.getD j ⟨#[]⟩) i then _ else seen (fun j => zs.getD j ⟨#[]⟩) i ++ [zs.getD i ⟨#[]⟩]) = _
    rw [ih, e, if_neg, Zq]
    . simp [hi]
    . intro hm
      obtain ⟨j, hj, ej⟩ := Zy hm;rw [Zj] at hj;rw [List.getElem_take] at ej;have := (YD hd).mp ej;omega
theorem jm : kit0 "str" "str" = some true := by decide +kernel
theorem je : kit0 "list" "list" = some true := by decide +kernel
theorem zg9 : kit0 "tuple" "tuple" = some true := by decide +kernel
theorem zg8 : kit0 "int" "int" = some true := by decide +kernel
theorem zgo : kit0 "int" "bool" = some false := by decide +kernel
theorem zgt {c : Nat} (h1 : 97 <= c) (h2 : c <= 122) : (!decide ((chr1 c).cps.toList < (Str.ofString "a").cps.toList)) = true /\ (!decide ((Str.ofString "z").cps.toList < (chr1 c).cps.toList)) = true := by
  have ea : (Str.ofString "a").cps.toList = [97] := by decide +kernel
  have ez : (Str.ofString "z").cps.toList = [122] := by decide +kernel
  have ec : (chr1 c).cps.toList = [c] := rfl;rw [ea, ez, ec]
  constructor
  . rw [decide_eq_false]
    . rfl
    . intro z
      rw [Ys] at z
      rcases z with z | ⟨_, z⟩
      . omega
      . exact absurd z (by simp)
  . rw [decide_eq_false]
    . rfl
    . intro z
      rw [Ys] at z
      rcases z with z | ⟨_, z⟩
      . omega
      . exact absurd z (by simp)
def PvNm (H : Hp) (ds : List HD) (i : Nat) (ys : List V) (H' : Hp) : Prop := H' = H /\ ys = ((ds.take i).map HD.name).map V.str
def PvCt (H : Hp) (b : Addr) (ds : List HD) (i : Nat) (σ : L2.St) (H4 : Hp) : Prop := H4 = H /\ ∃ v, σ = [some (.ref b), some (.int (((ds.take i).map fun d => d.words.length).prod : Nat)), v]
section
variable {P : Program} {w : World} {K : Fg} {mg : Str -> Option Value} {base : Heap} {a : Ad}
theorem l5 (B : Bt mg) (D : zg K mg "is_whole" pb ["thing"]) : FnAt P w K mg base "is_whole" 1 ["thing"] zdd := by
  refine FnAt.of D zar (fun vs H Q E h => ?_) (fun f cdv A outer s H vs Q E hr h => ?_)
  . obtain ⟨x, rfl, _⟩ := h
    rfl
  . obtain ⟨x, rfl, q⟩ := h
    refine ⟨_, (@zf _ _ _ (@zq _ _ _ _ (@uw _ _ _ _ _ _ _ (zy y4 rfl B.isinstance yu (za (pv 0) (za (se rfl B.int i5) (@zb _)))) (@vq _ _ _ _ _ (@gf _ _ _ _ (zy y4 rfl B.isinstance yu (za (pv 0) (za (se rfl B.bool zhi) (@zb _))))))))), ?_⟩;rw [show start ["thing"] [V.int x] = [some (V.int x)] from rfl];simp only [zi, zj, ↓reduceIte];exact ⟨_, .int _, true, zg8, iteT ⟨_, .int _, false, zgo, q⟩⟩
theorem p9 (B : Bt mg) (l5 : FnAt P w K mg base "is_whole" 1 ["thing"] zdd) (D : zg K mg "is_bounded" tm ["thing"]) : FnAt P w K mg base "is_bounded" 2 ["thing"] zc7 := by
  refine FnAt.of D d7 (fun vs H Q E h => ?_) (fun f cdv A outer s H vs Q E hr h => ?_)
  . obtain ⟨x, rfl, _⟩ := h
    rfl
  . obtain ⟨x, rfl, g, q⟩ := h
    refine ⟨_, (@zf _ _ _ (@zq _ _ _ _ (@uw _ _ _ _ _ _ _ (zk l5 (hr.mono (by decide)) rfl (za (pv 0) (@zb _))) (@vq _ _ _ _ _ (@vm _ _ _ _ _ _ _ _ op_lt (zy zfa rfl B.abs bt_abs (za (pv 0) (@zb _))) (@zo _ _ _ _ _ _ _ _ iz (@zd _ _ _ _) (@zd _ _ _ _)) (z9 _)))))), ?_⟩;rw [show start ["thing"] [V.int x] = [some (V.int x)] from rfl];simp only [zi, zj, ↓reduceIte];refine ⟨x, rfl, _, rfl, iteT ⟨⟨by decide, by decide, by decide⟩, ?_⟩⟩;rw [decide_eq_true]
    . exact q
    . have h1 := g.1
      have h2 := g.2
      show _ < (10 : Int) ^ 60
      split <;> omega
theorem qr (B : Bt mg) (p9 : FnAt P w K mg base "is_bounded" 2 ["thing"] zc7) (D : zg K mg "is_grid_row" ub ["thing", "width"]) : FnAt P w K mg base "is_grid_row" 3 ["thing", "width"] qRow := by
  refine FnAt.of D g8 (fun vs H Q E h => ?_) (fun f cdv A outer s H vs Q E hr h => ?_)
  . obtain ⟨r, ns, n, rfl, _⟩ := h
    rfl
  . obtain ⟨r, ns, n, rfl, hr1, ln, n8, hg, q⟩ := h
    refine ⟨_, (@ze _ _ _ _ _ (@yd _ _ _ _ _ _ _ _ (PW.pt (@v9 _ _ _ _ _ _ _ (@xn _ _ _ _ (xg (zy y4 rfl B.isinstance yu (za (pv 0) (za (se rfl B.list ji) (@zb _)))))) (@vd _ _ _ _ (@z5 _ _ _ _ _ _ _ _ vx (zy yc rfl B.len yz (za (pv 0) (@zb _))) (pv 1) (z9 _))))) (@zf _ _ _ (@zq _ _ _ _ (@vz _ _ _ _))) (@zz _)) (@zf _ _ _ (@zq _ _ _ _ (zy (uj rfl) rfl B.all mm (za (ym ["worth"] ["thing", "width"] rfl (@yg _ _ _ _ (pv 0)) (fun _ => (zx (i := 0) (show (["worth", "thing", "width"] : List Str).Nodup by decide +kernel) rfl (Or.inl rfl))) (fun _ => (@yi _)) (fun _ => (zk p9 (hr.mono (by decide)) rfl (za (pv 0) (@zb _)))) rfl (by decide +kernel) rfl rfl) (@zb _)))))), ?_⟩;rw [show start ["thing", "width"] [V.ref r, V.int n] = [some (V.ref r), some (V.int n)] from rfl];simp only [zi, zj, ↓reduceIte];refine ⟨_, .lst hr1, true, je, iteF ⟨_, .inl (.of hr1), rfl, ?_⟩⟩;rw [Za, ln];refine zcd rfl ⟨⟨_, .of hr1⟩, fun d => ?_⟩;refine yk (xs := ns.map V.int) (PvAT H) ⟨Same.refl _, rfl⟩ ?_ ?_ ?_
    . rintro i ys H2 hi ⟨S, rfl⟩
      rw [Za] at hi;exact ⟨by rw [sv]; exact Zd hi (Zd (show ns.length <= 8 by omega) (by decide)), S.seq (.of hr1)⟩
    . rintro i x ys H2 hx ⟨S, rfl⟩
      obtain ⟨y, hy, rfl⟩ := yj hx;simp only [zi, zj, ↓reduceIte];exact ⟨y, rfl, hg y (Zi hy), S, uk i⟩
    . rintro ys H2 ⟨S, rfl⟩ l hl
      refine ⟨_, .of zc, ?_⟩;rw [sx];exact q _ (S.trans (Same.upd (Same.refl _) hl))
theorem qk (B : Bt mg) (D : zg K mg "is_name" o9 ["thing"]) : FnAt P w K mg base "is_name" 1 ["thing"] zb7 := by
  refine FnAt.of D zce (fun vs H Q E h => ?_) (fun f cdv A outer s H vs Q E hr h => ?_)
  . obtain ⟨x, rfl, _⟩ := h
    rfl
  . obtain ⟨z, rfl, g, q⟩ := h
    refine ⟨_, (@ze _ _ _ _ _ (@yd _ _ _ _ _ _ _ _ (PW.pt (@v9 _ _ _ _ _ _ _ (@xn _ _ _ _ (xg (zy y4 rfl B.isinstance yu (za (pv 0) (za (se rfl B.str on) (@zb _)))))) (@vd _ _ _ _ (@xn _ _ _ _ (ah le le (@zd _ _ _ _) (zy kr rfl B.len yz (za (pv 0) (@zb _))) (ve rfl B.k_MOST_LETTERS)))))) (@zf _ _ _ (@zq _ _ _ _ (@vz _ _ _ _))) (@zz _)) (@zf _ _ _ (@zq _ _ _ _ (zy (uj rfl) rfl B.all mm (za (ym ["sign"] ["thing"] rfl (@zek _ _ _ _ (pv 0)) (fun _ => (zx (i := 0) (show (["sign", "thing"] : List Str).Nodup by decide +kernel) rfl (Or.inl rfl))) (fun _ => (@yi _)) (fun _ => (ig gu gu (@zm _ _ _ _) (pv 0) (@zm _ _ _ _))) rfl (by decide +kernel) rfl rfl) (@zb _)))))), ?_⟩;rw [show start ["thing"] [V.str z] = [some (V.str z)] from rfl];simp only [zi, zj, ↓reduceIte];obtain ⟨g1, g2, g3⟩ := g;refine ⟨_, .str _, true, jm, iteF ?_⟩;refine ⟨Zd g2 (by decide), ite2 (fun _ => ite2 (fun h => ?_) fun _ => ?_) fun h => (h (decide_eq_true (by omega))).elim⟩
    . rw [decide_eq_true (show (z.length : Int) <= 8 by omega)] at h
      cases h
    . intro d
      refine cu (PvAT H) ⟨Same.refl _, rfl⟩ ?_ ?_ ?_
      . rintro i ys H' hi ⟨S, rfl⟩
        rw [sv];exact Zd hi (Zd (show z.cps.size <= 8 from g2) (by decide))
      . rintro i c ys H' hc ⟨S, rfl⟩
        have hm : c ∈ z.cps.toList := by
          obtain ⟨hi, e⟩ := ZT.mp hc;rw [<- e];exact Array.getElem_mem_toList hi
        obtain ⟨o1, o2⟩ := zgt (g3 c hm).1 (g3 c hm).2;simp only [zi, zj, ↓reduceIte];rw [if_pos o1, o2];exact ⟨S, uk i⟩
      . rintro ys H' ⟨S, rfl⟩ l hl
        refine ⟨_, .of zc, ?_⟩;rw [sx];exact q _ (S.trans (Same.upd (Same.refl _) hl))
theorem w5 (B : Bt mg) (qk : FnAt P w K mg base "is_name" 1 ["thing"] zb7) (D : zg K mg "are_names" rm ["thing", "most"]) : FnAt P w K mg base "are_names" 2 ["thing", "most"] ad := by
  refine FnAt.of D cn (fun vs H Q E h => ?_) (fun f cdv A outer s H vs Q E hr h => ?_)
  . obtain ⟨l, zs, m, rfl, _⟩ := h
    rfl
  . obtain ⟨l, zs, m, rfl, hl, g1, g2, g3, gG, gD, q⟩ := h
    refine ⟨_, (@ze _ _ _ _ _ (@yd _ _ _ _ _ _ _ _ (PW.pt (@v9 _ _ _ _ _ _ _ (@xn _ _ _ _ (xg (zy y4 rfl B.isinstance yu (za (pv 0) (za (se rfl B.list ji) (@zb _)))))) (@vd _ _ _ _ (@xn _ _ _ _ (ah le le (@zd _ _ _ _) (zy yc rfl B.len yz (za (pv 0) (@zb _))) (pv 1)))))) (@zf _ _ _ (@zq _ _ _ _ (@vz _ _ _ _))) (@zz _)) (@zf _ _ _ (@zq _ _ _ _ (@uw _ _ _ _ _ _ _ (zy (uj rfl) rfl B.all mm (za (ym ["one"] ["thing", "most"] rfl (@yg _ _ _ _ (pv 0)) (fun _ => (zx (i := 0) (show (["one", "thing", "most"] : List Str).Nodup by decide +kernel) rfl (Or.inl rfl))) (fun _ => (@yi _)) (fun _ => (zk qk (hr.mono (by decide)) rfl (za (pv 0) (@zb _)))) rfl (by decide +kernel) rfl rfl) (@zb _))) (@vq _ _ _ _ _ (@vm _ _ _ _ _ _ _ _ xt (zeq rfl rfl B.len rfl B.set (za (pv 0) (@zb _))) (zy yc rfl B.len yz (za (pv 0) (@zb _))) (z9 _))))))), ?_⟩;rw [show start ["thing", "most"] [V.ref l, V.int m] = [some (V.ref l), some (V.int m)] from rfl];simp only [zi, zj, ↓reduceIte];refine ⟨_, .lst hl, true, je, iteF ⟨_, .inl (.of hl), ?_⟩⟩;rw [Za];refine ite2 (fun _ => ite2 (fun h => ?_) fun _ => ?_) fun h => (h (decide_eq_true (by omega))).elim
    . rw [decide_eq_true (show (zs.length : Int) <= m by omega)] at h
      cases h
    . refine ⟨⟨_, .of hl⟩, fun d => ?_⟩
      refine yk (xs := zs.map V.str) (PvAT H) ⟨Same.refl _, rfl⟩ ?_ ?_ ?_
      . rintro i ys H2 hi ⟨S, rfl⟩
        rw [Za] at hi;exact ⟨by rw [sv]; exact Zd hi (Zd (show zs.length <= 8 by omega) (by decide)), S.seq (.of hl)⟩
      . rintro i x ys H2 hx ⟨S, rfl⟩
        obtain ⟨y, hy, rfl⟩ := yj hx;simp only [zi, zj, ↓reduceIte];exact ⟨y, rfl, gG y (Zi hy), fun H3 S3 => ⟨S.trans S3, uk i⟩⟩
      . rintro ys H2 ⟨S, rfl⟩ p hp
        have S2 : Same H (upd H2 p (.lst ((allT (zs.map V.str).length).map V.bl))) := S.trans (Same.upd (Same.refl _) hp);refine ⟨_, .of zc, ?_⟩;rw [sx];generalize upd H2 p (.lst ((allT (zs.map V.str).length).map V.bl)) = H3 at *;refine ⟨zs, S2.seq (.of hl), by omega, _, .inl (S2.seq (.of hl)), rfl, ?_⟩;rw [zbo gD _ (Zm _), Zt, Za, decide_eq_true rfl];exact q _ S2
theorem oh (B : Bt mg) (qr : FnAt P w K mg base "is_grid_row" 3 ["thing", "width"] qRow) (D : zg K mg "are_worths" tu ["thing", "height", "width"]) : FnAt P w K mg base "are_worths" 4 ["thing", "height", "width"] za8 := by
  refine FnAt.of D dw (fun vs H Q E h => ?_) (fun f cdv A outer s H vs Q E hr h => ?_)
  . obtain ⟨g, gs, rows, ht, n, rfl, _⟩ := h
    rfl
  . obtain ⟨g, gs, rows, ht, n, rfl, hg, l1, l2, b1, b2, hrow, hG, q⟩ := h
    refine ⟨_, (@ze _ _ _ _ _ (@yd _ _ _ _ _ _ _ _ (PW.pt (@v9 _ _ _ _ _ _ _ (@xn _ _ _ _ (xg (zy y4 rfl B.isinstance yu (za (pv 0) (za (se rfl B.list ji) (@zb _)))))) (@vd _ _ _ _ (@z5 _ _ _ _ _ _ _ _ vx (zy yc rfl B.len yz (za (pv 0) (@zb _))) (pv 1) (z9 _))))) (@zf _ _ _ (@zq _ _ _ _ (@vz _ _ _ _))) (@zz _)) (@zf _ _ _ (@zq _ _ _ _ (zy (uj rfl) rfl B.all mm (za (ym ["row"] ["thing", "height", "width"] rfl (@yg _ _ _ _ (pv 0)) (fun _ => (zx (i := 0) (show (["row", "thing", "height", "width"] : List Str).Nodup by decide +kernel) rfl (Or.inl rfl))) (fun _ => (@yi _)) (fun _ => (zk qr (hr.mono (by decide)) rfl (za (pv 0) (za (pv 3) (@zb _))))) rfl (by decide +kernel) rfl rfl) (@zb _)))))), ?_⟩;rw [show start ["thing", "height", "width"] [V.ref g, V.int ht, V.int n] = [some (V.ref g), some (V.int ht), some (V.int n)] from rfl];simp only [zi, zj, ↓reduceIte];refine ⟨_, .lst hg, true, je, iteF ⟨_, .inl (.of hg), rfl, ?_⟩⟩;rw [Za, l1];refine zcd rfl ⟨⟨_, .of hg⟩, fun d => ?_⟩;refine yk (xs := gs.map V.ref) (PvAT H) ⟨Same.refl _, rfl⟩ ?_ ?_ ?_
    . rintro i ys H2 hi ⟨S, rfl⟩
      rw [Za] at hi;exact ⟨by rw [sv]; exact Zd hi (Zd (show gs.length <= 8 by omega) (by decide)), S.seq (.of hg)⟩
    . rintro i x ys H2 hx ⟨S, rfl⟩
      obtain ⟨r, hr', rfl⟩ := yj hx;have hi : i < rows.length := by have := (Zc.mp hr').1; omega
      have e2 : rows[i]? = some rows[i] := by simp [hi]
      have hm := hG rows[i] (Zl hi);simp only [zi, zj, ↓reduceIte];exact ⟨r, rows[i], n, rfl, S _ _ (hrow i r rows[i] hr' e2), hm.1, b2, hm.2, fun H3 S3 => ⟨S.trans S3, uk i⟩⟩
    . rintro ys H2 ⟨S, rfl⟩ l hl
      refine ⟨_, .of zc, ?_⟩;rw [sx];exact q _ (S.trans (Same.upd (Same.refl _) hl))
theorem ki (B : Bt mg) (qk : FnAt P w K mg base "is_name" 1 ["thing"] zb7) (w5 : FnAt P w K mg base "are_names" 2 ["thing", "most"] ad) (oh : FnAt P w K mg base "are_worths" 4 ["thing", "height", "width"] za8) (D : zg K mg "is_hand" oz ["thing", "width"]) : FnAt P w K mg base "is_hand" 5 ["thing", "width"] qHand := by
  refine FnAt.of D zcj (fun vs H Q E h => ?_) (fun f cdv A outer s H vs Q E hr h => ?_)
  . obtain ⟨x, d, n, rfl, _⟩ := h
    rfl
  . obtain ⟨x, d, n, rfl, hx, g, n8, q⟩ := h
    refine ⟨_, (@ze _ _ _ _ _ (@yd _ _ _ _ _ _ _ _ (PW.pt (@v9 _ _ _ _ _ _ _ (@xn _ _ _ _ (xg (zy y4 rfl B.isinstance yu (za (pv 0) (za (se rfl B.tuple xv) (@zb _)))))) (@vd _ _ _ _ (@z5 _ _ _ _ _ _ _ _ vx (zy yc rfl B.len yz (za (pv 0) (@zb _))) (@zd _ _ _ _) (z9 _))))) (@zf _ _ _ (@zq _ _ _ _ (@vz _ _ _ _))) (@zz _)) (@zf _ _ _ (@zq _ _ _ _ (@uw _ _ _ _ _ _ _ (zk qk (hr.mono (by decide)) rfl (za (@zu _ _ _ _ _ _ _ yb (pv 0) (@zd _ _ _ _) (fun _ _ => rfl)) (@zb _))) (@uw _ _ _ _ _ _ _ (zk w5 (hr.mono (by decide)) rfl (za (@zu _ _ _ _ _ _ _ yb (pv 0) (@zd _ _ _ _) (fun _ _ => rfl)) (za (ve rfl B.k_MOST_WORDS) (@zb _)))) (@vq _ _ _ _ _ (zk oh (hr.mono (by decide)) rfl (za (@zu _ _ _ _ _ _ _ yb (pv 0) (@zd _ _ _ _) (fun _ _ => rfl)) (za (zy yc rfl B.len yz (za (@zu _ _ _ _ _ _ _ yb (pv 0) (@zd _ _ _ _) (fun _ _ => rfl)) (@zb _))) (za (pv 1) (@zb _))))))))))), ?_⟩;rw [show start ["thing", "width"] [V.ref x.t, V.int n] = [some (V.ref x.t), some (V.int n)] from rfl];simp only [zi, zj, ↓reduceIte];refine ⟨_, .tup hx.tup, true, zg9, iteF ⟨_, .inr (.of hx.tup), rfl, zcd rfl ?_⟩⟩;refine ⟨_, .of hx.tup, _, zn (j := 0) rfl, d.name, rfl, g.name, fun H1 S1 => ?_⟩;have hx1 := hx.mono S1;refine ⟨_, rfl, iteT ⟨_, .of hx1.tup, _, zn (j := 1) rfl, x.w, d.words, 8, rfl, hx1.words, g.words.1, g.words.2, Zm _, g.wordsG, g.wordsD, fun H2 S2 => ?_⟩⟩;have hx2 := hx1.mono S2;refine ⟨_, rfl, iteT ⟨_, .of hx2.tup, _, zn (j := 2) rfl, _, .of hx2.tup, _, zn (j := 1) rfl, x.w, rfl, _, .inl (.of hx2.words), ?_⟩⟩;rw [Za];have hw := g.words.2;have hr2 := g.rows;exact ⟨x.g, x.gs, d.worths, d.words.length, n, rfl, hx2.grid, by rw [hx2.len]; exact hr2, hr2, hw, n8, hx2.row, g.cols, fun H3 S3 => q H3 (S1.trans (S2.trans S3))⟩
theorem wc (D : zg K mg "name_of" qi ["hand"]) : FnAt P w K mg base "name_of" 1 ["hand"] (up fun _ d => .str d.name) := by
  refine FnAt.of D i7 (fun vs H Q E h => ?_) (fun f cdv A outer s H vs Q E hr h => ?_)
  . obtain ⟨x, d, rfl, _⟩ := h
    rfl
  . obtain ⟨x, d, rfl, hx, q⟩ := h
    refine ⟨_, (@zf _ _ _ (@zq _ _ _ _ (@zu _ _ _ _ _ _ _ yb (pv 0) (@zd _ _ _ _) (fun _ _ => rfl)))), ?_⟩;rw [show start ["hand"] [V.ref x.t] = [some (V.ref x.t)] from rfl];simp only [zi, zj, ↓reduceIte];exact ⟨_, .of hx.tup, _, zn (j := 0) rfl, q⟩
theorem yf (D : zg K mg "words_of_hand" wf ["hand"]) : FnAt P w K mg base "words_of_hand" 1 ["hand"] (up fun x _ => .ref x.w) := by
  refine FnAt.of D ow (fun vs H Q E h => ?_) (fun f cdv A outer s H vs Q E hr h => ?_)
  . obtain ⟨x, d, rfl, _⟩ := h
    rfl
  . obtain ⟨x, d, rfl, hx, q⟩ := h
    refine ⟨_, (@zf _ _ _ (@zq _ _ _ _ (@zu _ _ _ _ _ _ _ yb (pv 0) (@zd _ _ _ _) (fun _ _ => rfl)))), ?_⟩;rw [show start ["hand"] [V.ref x.t] = [some (V.ref x.t)] from rfl];simp only [zi, zj, ↓reduceIte];exact ⟨_, .of hx.tup, _, zn (j := 1) rfl, q⟩
theorem x0 (D : zg K mg "worths_of_hand" wu ["hand"]) : FnAt P w K mg base "worths_of_hand" 1 ["hand"] (up fun x _ => .ref x.g) := by
  refine FnAt.of D ju (fun vs H Q E h => ?_) (fun f cdv A outer s H vs Q E hr h => ?_)
  . obtain ⟨x, d, rfl, _⟩ := h
    rfl
  . obtain ⟨x, d, rfl, hx, q⟩ := h
    refine ⟨_, (@zf _ _ _ (@zq _ _ _ _ (@zu _ _ _ _ _ _ _ yb (pv 0) (@zd _ _ _ _) (fun _ _ => rfl)))), ?_⟩;rw [show start ["hand"] [V.ref x.t] = [some (V.ref x.t)] from rfl];simp only [zi, zj, ↓reduceIte];exact ⟨_, .of hx.tup, _, zn (j := 2) rfl, q⟩
theorem tj (B : Bt mg) (yf : FnAt P w K mg base "words_of_hand" 1 ["hand"] (up fun x _ => .ref x.w)) (D : zg K mg "count_of_rows" va ["hands"]) : FnAt P w K mg base "count_of_rows" 2 ["hands"] zd0 := by
  refine FnAt.of D sc_count_of_rows (fun vs H Q E h => ?_) (fun f cdv A outer s H vs Q E hr h => ?_)
  . obtain ⟨b, xs, ds, rfl, _⟩ := h
    rfl
  . obtain ⟨b, xs, ds, rfl, hh, h8, h4, q⟩ := h
    refine ⟨_, (@ze _ _ _ _ _ (zv (i := 1) sc_count_of_rows.nd rfl (Or.inl rfl) (@zd _ _ _ _)) (@ze _ _ _ _ _ (xz PassesOwn.never rfl (@yg _ _ _ _ (pv 0)) (zx (i := 2) sc_count_of_rows.nd rfl (Or.inl rfl)) (@zf _ _ _ (zv (i := 1) sc_count_of_rows.nd rfl (Or.inl rfl) (@zo _ _ _ _ _ _ _ _ p7 (pv 1) (zy yc rfl B.len yz (za (zk yf (hr.mono (by decide)) rfl (za (pv 2) (@zb _))) (@zb _))))))) (@zf _ _ _ (@zq _ _ _ _ (pv 1))))), ?_⟩;rw [show start ["hands", "count", "hand"] [V.ref b] = [some (V.ref b), none, none] from rfl];simp only [zi, zj, ↓reduceIte];refine ⟨⟨_, .of hh.at'⟩, ?_⟩;refine wv (xs := xs.map fun x => V.ref x.t) (PvCt H b ds) ⟨rfl, _, rfl⟩ ?_ ?_ ?_
    . rintro i σ H4 hi ⟨rfl, v, rfl⟩
      exact .of hh.at'
    . rintro i x σ H4 hx ⟨rfl, v, rfl⟩
      obtain ⟨y, hy, rfl⟩ := yj hx;have hi : i < ds.length := by have := (Zc.mp hy).1; have := hh.len; omega
      have e2 : ds[i]? = some ds[i] := by simp [hi]
      have hd := hh.hand i y ds[i] hy e2;have hw := h8 ds[i] (Zl hi);simp only [zi, zj, ↓reduceIte];refine ⟨y, ds[i], rfl, hd, ?_⟩;simp only [zi, zj, ↓reduceIte];refine ⟨_, .inl (.of hd.words), ?_⟩;rw [Za];refine ⟨.inr ⟨by omega, by omega⟩, rfl, some (V.ref y.t), ?_⟩;rw [Zq, e2, Zn, List.prod_append];simp only [Option.toList, ZM, Yq, List.prod_cons, List.prod_nil, Nat.mul_one, Int.natCast_mul]
    . rintro σ H4 ⟨rfl, v, rfl⟩
      simp only [zi, zj, ↓reduceIte];rw [Za, hh.len, Zt];exact q
def cr : Sp := fun vs H Q _ => ∃ (b : Addr) (xs : List HX) (ds : List HD), vs = [.ref b] /\ HandsL H b xs ds /\ ds.length <= 4 /\ ∀ l, H l = none -> Q (.ref l) (upd H l (.lst ((ds.map HD.name).map V.str)))
theorem uz (wc : FnAt P w K mg base "name_of" 1 ["hand"] (up fun _ d => .str d.name)) (D : zg K mg "names_of" uq ["hands"]) : FnAt P w K mg base "names_of" 2 ["hands"] cr := by
  refine FnAt.of D jz (fun vs H Q E h => ?_) (fun f cdv A outer s H vs Q E hr h => ?_)
  . obtain ⟨b, xs, ds, rfl, _⟩ := h
    rfl
  . obtain ⟨b, xs, ds, rfl, hh3, g4, q⟩ := h
    refine ⟨_, (@zf _ _ _ (@zq _ _ _ _ (ym ["hand"] ["hands"] rfl (@bt _ _ _ _ (pv 0)) (fun _ => (zx (i := 0) (show (["hand", "hands"] : List Str).Nodup by decide +kernel) rfl (Or.inl rfl))) (fun _ => (@yi _)) (fun _ => (zk wc (hr.mono (by decide)) rfl (za (pv 0) (@zb _)))) rfl (by decide +kernel) rfl rfl))), ?_⟩;rw [show start ["hands"] [V.ref b] = [some (V.ref b)] from rfl];simp only [zi, zj, ↓reduceIte];refine .inl ⟨⟨_, .of hh3.at'⟩, fun d2 => ?_⟩;refine yk (xs := xs.map fun x => V.ref x.t) (PvNm H ds) ⟨rfl, rfl⟩ ?_ ?_ ?_
    . rintro i ys H4 hi ⟨rfl, rfl⟩
      refine ⟨?_, .of hh3.at'⟩;rw [Za, Za, Zj];exact Zd (ZB _ _) (Zd g4 (by decide))
    . rintro i x ys H4 hx ⟨rfl, rfl⟩
      obtain ⟨y, hy, rfl⟩ := yj hx;have hi : i < ds.length := by have := (Zc.mp hy).1; have := hh3.len; omega
      have e2 : ds[i]? = some ds[i] := by simp [hi]
      simp only [zi, zj, ↓reduceIte];refine ⟨y, ds[i], rfl, hh3.hand i y ds[i] hy e2, rfl, ?_⟩;rw [Zq, e2, Zn, Zn];rfl
    . rintro ys H4 ⟨rfl, rfl⟩ l hl
      rw [Za, hh3.len, Zt];exact q l hl
theorem wz (B : Bt mg) (w5 : FnAt P w K mg base "are_names" 2 ["thing", "most"] ad) (ki : FnAt P w K mg base "is_hand" 5 ["thing", "width"] qHand) (uz : FnAt P w K mg base "names_of" 2 ["hands"] cr) (tj : FnAt P w K mg base "count_of_rows" 2 ["hands"] zd0)
    (D : zg K mg "makes_house" vy ["outcomes", "hands"]) : FnAt P w K mg base "makes_house" 6 ["outcomes", "hands"] bu := by
  refine FnAt.of D fu (fun vs H Q E h => ?_) (fun f cdv A outer s H vs Q E hr h => ?_)
  . obtain ⟨o, b, outs, xs, ds, rfl, _⟩ := h
    rfl
  . obtain ⟨o, b, outs, xs, ds, rfl, ho, hh, g, q⟩ := h
    refine ⟨_, (@ze _ _ _ _ _ (@yd _ _ _ _ _ _ _ _ (PW.pt (@v9 _ _ _ _ _ _ _ (@xn _ _ _ _ (xg (zk w5 (hr.mono (by decide)) rfl (za (pv 0) (za (ve rfl B.k_MOST_OUTCOMES) (@zb _)))))) (@vd _ _ _ _ (@xn _ _ _ _ (xg (zy y4 rfl B.isinstance yu (za (pv 1) (za (se rfl B.list ji) (@zb _))))))))) (@zf _ _ _ (@zq _ _ _ _ (@vz _ _ _ _))) (@zz _)) (@ze _ _ _ _ _ (@yd _ _ _ _ _ _ _ _ (@xn _ _ _ _ (xg (zy (uj rfl) rfl B.all mm (za (ym ["hand"] ["outcomes", "hands"] rfl (@yg _ _ _ _ (pv 1)) (fun _ => (zx (i := 0) (show (["hand", "outcomes", "hands"] : List Str).Nodup by decide +kernel) rfl (Or.inl rfl))) (fun _ => (@yi _)) (fun _ => (zk ki (hr.mono (by decide)) rfl (za (pv 0) (za (zy yc rfl B.len yz (za (pv 1) (@zb _))) (@zb _))))) rfl (by decide +kernel) rfl rfl) (@zb _))))) (@zf _ _ _ (@zq _ _ _ _ (@vz _ _ _ _))) (@zz _)) (@zf _ _ _ (@zq _ _ _ _ (@uw _ _ _ _ _ _ _ (zk w5 (hr.mono (by decide)) rfl (za (zk uz (hr.mono (by decide)) rfl (za (pv 1) (@zb _))) (za (ve rfl B.k_MOST_HANDS) (@zb _)))) (@vq _ _ _ _ _ (@vm _ _ _ _ _ _ _ _ le (zk tj (hr.mono (by decide)) rfl (za (pv 1) (@zb _))) (ve rfl B.k_MOST_ROWS) (z9 _)))))))), ?_⟩;rw [show start ["outcomes", "hands"] [V.ref o, V.ref b] = [some (V.ref o), some (V.ref b)] from rfl];simp only [zi, zj, ↓reduceIte];have g1 := g.outs1;have g2 := g.hands;refine ⟨o, outs, 8, rfl, ho, g1.1, g1.2, Zm _, g.outsG, g.outsD, fun H1 S1 => ?_⟩;simp only [zi, zj, ↓reduceIte];have hh1 := hh.mono S1;have ho1 := S1 _ _ ho;refine iteF ⟨_, .lst hh1.at', true, je, iteF ⟨⟨_, .of hh1.at'⟩, fun d => ?_⟩⟩;refine yk (xs := xs.map fun x => V.ref x.t) (PvAT H1) ⟨Same.refl _, rfl⟩ ?_ ?_ ?_
    . rintro i ys H2 hi ⟨S, rfl⟩
      rw [Za, hh.len] at hi;exact ⟨by rw [sv]; exact Zd hi (Zd g2.2 (by decide)), S.seq (.of hh1.at')⟩
    . rintro i x ys H2 hx ⟨S, rfl⟩
      obtain ⟨y, hy, rfl⟩ := yj hx;have hi : i < ds.length := by have := (Zc.mp hy).1; have := hh.len; omega
      have e2 : ds[i]? = some ds[i] := by simp [hi]
      simp only [zi, zj, ↓reduceIte];refine ⟨_, .inl (S.seq (.of ho1)), ?_⟩;rw [Za];exact ⟨y, ds[i], outs.length, rfl, (hh1.hand i y ds[i] hy e2).mono S, g.hand (Zl hi), g1.2, fun H3 S3 => ⟨S.trans S3, uk i⟩⟩
    . rintro ys H2 ⟨S, rfl⟩ p hp
      have S2 : Same H1 (upd H2 p (.lst ((allT (xs.map fun x => V.ref x.t).length).map V.bl))) := S.trans (Same.upd (Same.refl _) hp);refine ⟨_, .of zc, ?_⟩;rw [sx];generalize upd H2 p (.lst ((allT (xs.map fun x => V.ref x.t).length).map V.bl)) = H3 at *;have hh3 := hh1.mono S2;refine iteF ⟨b, xs, ds, rfl, hh3, g2.2, fun l hl => ?_⟩;have S5 : Same H3 (upd H3 l (.lst ((ds.map HD.name).map V.str))) := Same.upd (Same.refl _) hl;refine ⟨l, ds.map HD.name, 4, rfl, zc, by rw [Za]; exact g2.1, by rw [Za]; exact g2.2, by decide, fun z hz => ?_, g.handsD, fun H6 S6 => ?_⟩
      . obtain ⟨d, hd, rfl⟩ := Zp.mp hz
        exact g.handsG d hd
      . generalize upd H3 l (.lst ((ds.map HD.name).map V.str)) = H5 at *
        have S36 := S5.trans S6;have few := g.few;refine ⟨_, rfl, iteT ⟨b, xs, ds, rfl, hh3.mono S36, fun d hd => (g.words1 d hd).2, g2.2, _, rfl, ?_⟩⟩;rw [decide_eq_true (by omega)];exact q _ (S1.trans (S2.trans S36))
theorem qb (B : Bt mg) (wc : FnAt P w K mg base "name_of" 1 ["hand"] (up fun _ d => .str d.name)) (yf : FnAt P w K mg base "words_of_hand" 1 ["hand"] (up fun x _ => .ref x.w)) (x0 : FnAt P w K mg base "worths_of_hand" 1 ["hand"] (up fun x _ => .ref x.g))
    (D : zg K mg "kept_hand" vp ["hand"]) : FnAt P w K mg base "kept_hand" 2 ["hand"] (qKept K) := by
  refine FnAt.of D sc_kept_hand (fun vs H Q E h => ?_) (fun f cdv A outer s H vs Q E hr h => ?_)
  . obtain ⟨x, d, rfl, _⟩ := h
    rfl
  . obtain ⟨x, d, rfl, hx, h8, q⟩ := h
    refine ⟨_, (@ze _ _ _ _ _ (zv (i := 1) sc_kept_hand.nd rfl (Or.inl rfl) (yo xp rfl B.tuple xv (za (ym ["row"] ["hand", "worths"] rfl (@yg _ _ _ _ (zk x0 (hr.mono (by decide)) rfl (za (pv 0) (@zb _)))) (fun _ => (zx (i := 0) (show (["row", "hand", "worths"] : List Str).Nodup by decide +kernel) rfl (Or.inl rfl))) (fun _ => (@yi _)) (fun _ => (yo xp rfl B.tuple xv (za (pv 0) (@zb _)))) rfl (by decide +kernel) rfl rfl) (@zb _)))) (@zf _ _ _ (@zq _ _ _ _ (@y0 _ _ _ _ _ (za (zk wc (hr.mono (by decide)) rfl (za (pv 0) (@zb _))) (za (yo xp rfl B.tuple xv (za (zk yf (hr.mono (by decide)) rfl (za (pv 0) (@zb _))) (@zb _))) (za (pv 1) (@zb _)))))))), ?_⟩;rw [show start ["hand", "worths"] [V.ref x.t] = [some (V.ref x.t), none] from rfl];simp only [zi, zj, ↓reduceIte];refine ⟨x, d, rfl, hx, ?_⟩;simp only [zi, zj, ↓reduceIte];refine ⟨⟨_, .of hx.grid⟩, fun dd => ?_⟩;refine yk (xs := x.gs.map V.ref) (PvE K d.worths H) ⟨Same.refl _, rfl, TrsAt.nil⟩ ?_ ?_ ?_
    . rintro i ys H2 hi ⟨S, ly, _⟩
      rw [Za, hx.len] at hi;exact ⟨by rw [ly]; exact Zd hi (Zd h8 (by decide)), S.seq (.of hx.grid)⟩
    . rintro i y ys H2 hy ⟨S, ly, ty⟩
      obtain ⟨r, hr', rfl⟩ := yj hy;have hi : i < d.worths.length := by have := (Zc.mp hr').1; have := hx.len; omega
      have e2 : d.worths[i]? = some d.worths[i] := by simp [hi]
      simp only [zi, zj, ↓reduceIte];refine ⟨_, S.seq (.of (hx.row i r _ hr' e2)), fun l hl => ?_⟩;have S3 : Same H2 (upd H2 l (.tup ((d.worths[i]).map V.int))) := Same.upd (Same.refl _) hl;refine ⟨S.trans S3, by simp [ly], ?_⟩;rw [Zq, e2, Zn];exact TrsAt.append (TrsAt.mono S3 ty) (TrsAt.cons (TrAt.tp (.of zc) (zat _)) TrsAt.nil)
    . rintro ys H2 ⟨S, ly, ty⟩ l hl
      rw [Za, hx.len, Zt] at ty;have S3 : Same H2 (upd H2 l (.lst ys)) := Same.upd (Same.refl _) hl;refine ⟨_, .of zc, fun l1 hl1 => ?_⟩;generalize upd H2 l (.lst ys) = H3 at *;have S4 : Same H3 (upd H3 l1 (.tup ys)) := Same.upd (Same.refl _) hl1;have h4 : upd H3 l1 (.tup ys) l1 = some (.tup ys) := zc;generalize upd H3 l1 (.tup ys) = H4 at *;have S24 := S.trans (S3.trans S4);refine ⟨x, d, rfl, hx.mono S24, x, d, rfl, hx.mono S24, x.w, rfl, _, .of (hx.mono S24).words, fun l2 hl2 => ⟨by decide, fun p hp => ?_⟩⟩;have S5 : Same H4 (upd H4 l2 (.tup (d.words.map V.str))) := Same.upd (Same.refl _) hl2;have h5 : upd H4 l2 (.tup (d.words.map V.str)) l2 = some (.tup (d.words.map V.str)) := zc;generalize upd H4 l2 (.tup (d.words.map V.str)) = H5 at *;have S6 : Same H5 (upd H5 p (.tup [V.str d.name, V.ref l2, V.ref l1])) := Same.upd (Same.refl _) hp;refine q _ p (S24.trans (S5.trans S6)) (TrAt.tp (.of zc) (TrsAt.cons (TrAt.lf rfl) (TrsAt.cons (TrAt.tp (.of (S6 _ _ h5)) (fg _)) (TrsAt.cons (TrAt.tp (.of ((S5.trans S6) _ _ h4)) (TrsAt.mono (S3.trans (S4.trans (S5.trans S6))) ty)) TrsAt.nil))))
theorem gd (B : Bt mg) (C : Ct K mg a) (wz : FnAt P w K mg base "makes_house" 6 ["outcomes", "hands"] bu) (qb : FnAt P w K mg base "kept_hand" 2 ["hand"] (qKept K)) (D : zg K mg "house_of" t9 ["outcomes", "hands"]) : FnAtX P w K mg base "house_of" 7 ["outcomes", "hands"] (zgy K) := by
  refine FnAtX.of D j3 (fun vs H Q E h => ?_) (fun f cdv A outer s H vs Q E hr h => ?_)
  . obtain ⟨o, b, outs, xs, ds, rfl, _⟩ := h
    rfl
  . obtain ⟨o, b, outs, xs, ds, rfl, ho, hh, g, q⟩ := h
    refine ⟨_, (@ze _ _ _ _ _ (@yd _ _ _ _ _ _ _ _ (@xn _ _ _ _ (xg (zk wz (hr.mono (by decide)) rfl (za (pv 0) (za (pv 1) (@zb _)))))) (@zf _ _ _ (yv rfl C.q_NoHouse.toErr rfl C.m_NoHouse (yh rfl) (za (@zm _ _ _ _) (@zb _)))) (@zz _)) (@zf _ _ _ (PS.nox (@zq _ _ _ _ (@y0 _ _ _ _ _ (za (yo xp rfl B.tuple xv (za (pv 0) (@zb _))) (za (yo xp rfl B.tuple xv (za (ym ["hand"] ["outcomes", "hands"] rfl (@yg _ _ _ _ (pv 1)) (fun _ => (zx (i := 0) (show (["hand", "outcomes", "hands"] : List Str).Nodup by decide +kernel) rfl (Or.inl rfl))) (fun _ => (@yi _)) (fun _ => (zk qb (hr.mono (by decide)) rfl (za (pv 0) (@zb _)))) rfl (by decide +kernel) rfl rfl) (@zb _))) (@zb _)))))))), ?_⟩;rw [show start ["outcomes", "hands"] [V.ref o, V.ref b] = [some (V.ref o), some (V.ref b)] from rfl];simp only [zi, zj, ↓reduceIte];have g2 := g.hands;refine ⟨o, b, outs, xs, ds, rfl, ho, hh, g, fun H1 S1 => ?_⟩;simp only [zi, zj, ↓reduceIte];have hh1 := hh.mono S1;have ho1 := S1 _ _ ho;refine iteF ⟨_, .of ho1, fun l hl => ?_⟩;have S2 : Same H1 (upd H1 l (.tup (outs.map V.str))) := Same.upd (Same.refl _) hl;have h2 : upd H1 l (.tup (outs.map V.str)) l = some (.tup (outs.map V.str)) := zc;generalize upd H1 l (.tup (outs.map V.str)) = H2 at *;have hh2 := hh1.mono S2;refine ⟨⟨_, .of hh2.at'⟩, fun d => ?_⟩;refine yk (xs := xs.map fun x => V.ref x.t) (PvD K ds H2) ⟨Same.refl _, rfl, TrsAt.nil⟩ ?_ ?_ ?_
    . rintro i ys H3 hi ⟨S, ly, _⟩
      rw [Za, hh.len] at hi;exact ⟨by rw [ly]; exact Zd hi (Zd g2.2 (by decide)), S.seq (.of hh2.at')⟩
    . rintro i y ys H3 hy ⟨S, ly, ty⟩
      obtain ⟨x, hx, rfl⟩ := yj hy;have hi : i < ds.length := by have := (Zc.mp hx).1; have := hh.len; omega
      have e2 : ds[i]? = some ds[i] := by simp [hi]
      have hm := Zl hi;have r8 : (ds[i]).worths.length <= 8 := by rw [g.rows _ hm]; exact (g.words1 _ hm).2
      simp only [zi, zj, ↓reduceIte];refine ⟨x, ds[i], rfl, (hh2.hand i x ds[i] hx e2).mono S, r8, fun H4 p S4 tp => ?_⟩;refine ⟨S.trans S4, by simp [ly], ?_⟩;rw [Zq, e2, Zn];exact TrsAt.append (TrsAt.mono S4 ty) (TrsAt.cons tp TrsAt.nil)
    . rintro ys H3 ⟨S, ly, ty⟩ l1 hl1
      rw [Za, hh.len, Zt] at ty;have S4 : Same H3 (upd H3 l1 (.lst ys)) := Same.upd (Same.refl _) hl1;refine ⟨_, .of zc, fun l2 hl2 => ⟨by decide, fun p hp => ?_⟩⟩;generalize upd H3 l1 (.lst ys) = H4 at *;have S5 : Same H4 (upd H4 l2 (.tup ys)) := Same.upd (Same.refl _) hl2;have h5 : upd H4 l2 (.tup ys) l2 = some (.tup ys) := zc;generalize upd H4 l2 (.tup ys) = H5 at *;have S6 : Same H5 (upd H5 p (.tup [V.ref l, V.ref l2])) := Same.upd (Same.refl _) hp;have S36 := S4.trans (S5.trans S6);exact q _ p _ (S1.trans (S2.trans (S.trans S36))) zc (TrAt.tp (.of zc) (TrsAt.cons (TrAt.tp (.of ((S.trans S36) _ _ h2)) (fg _)) (TrsAt.cons (TrAt.tp (.of (S6 _ _ h5)) (TrsAt.mono S36 ty)) TrsAt.nil)))
end
section
variable {α : Type}
def xh (r : List α) (ws : List α) : List (List α) := ws.map fun w => r ++ [w]
def xc (rs : List (List α)) (ws : List α) : List (List α) := (rs.map fun r => xh r ws).flatten
def yr (wss : List (List α)) : List (List α) := wss.foldl xc [[]]
theorem zcs (wss : List (List α)) (ws : List α) : yr (wss ++ [ws]) = xc (yr wss) ws := by simp [yr]
theorem io (r : List α) (rs : List (List α)) (ws : List α) : xc (r :: rs) ws = xh r ws ++ xc rs ws := by simp [xc]
theorem gp (rs : List (List α)) (r : List α) (ws : List α) : xc (rs ++ [r]) ws = xc rs ws ++ xh r ws := by simp [xc]
theorem rf (r : List α) (ws : List α) : (xh r ws).length = ws.length := by simp [xh]
theorem ni (ws : List α) : ∀ rs : List (List α), (xc rs ws).length = rs.length * ws.length
  | [] => by simp [xc]
  | r :: rs => by rw [io, Zo, rf, ni ws rs, ZL, Nat.succ_mul, Nat.add_comm]
theorem vi {wss : List (List α)} {j : Nat} {ws : List α} (h : wss[j]? = some ws) : yr (wss.take (j + 1)) = xc (yr (wss.take j)) ws := by
  rw [Zq, h];exact zcs _ _
theorem kn {rs : List (List α)} {ws : List α} {row : List α} (h : row ∈ xc rs ws) : ∃ r w, r ∈ rs /\ w ∈ ws /\ row = r ++ [w] := by
  simp only [xc, xh, YY, Zp] at h;obtain ⟨l, ⟨r, hr, rfl⟩, h⟩ := h;obtain ⟨w, hw, rfl⟩ := Zp.mp h;exact ⟨r, w, hr, hw, rfl⟩
theorem md (wss : List (List α)) : ∀ n, n <= wss.length -> ∀ row ∈ yr (wss.take n), row.length = n := by
  intro n
  induction n with
  | zero => intro _ row h; simp [yr] at h; simp [h]
  | succ n ih =>
    intro h row hr;have e : wss[n]? = some wss[n] := Zb (by omega);rw [vi e] at hr;obtain ⟨r, w, h1, _, rfl⟩ := kn hr;simp [ih (by omega) r h1]
theorem zcl {wss : List (List α)} {row : List α} (h : row ∈ yr wss) : row.length = wss.length := md wss wss.length (Zm _) row (by rw [Zt]; exact h)
end
structure TupsAt (H : Hp) (as : List Addr) (rs : List (List Str)) : Prop where
  len : as.length = rs.length
  at' : ∀ (i : Nat) (a : Addr) (r : List Str), as[i]? = some a -> rs[i]? = some r -> H a = some (.tup (r.map V.str))
theorem TupsAt.nil {H : Hp} : TupsAt H [] [] := ⟨rfl, fun i a r e => by simp at e⟩
theorem TupsAt.mono {H H' : Hp} {as : List Addr} {rs : List (List Str)} (S : Same H H') (h : TupsAt H as rs) : TupsAt H' as rs := ⟨h.len, fun i a r e1 e2 => S _ _ (h.at' i a r e1 e2)⟩
theorem TupsAt.append {H : Hp} {as bs : List Addr} {rs qs : List (List Str)} (h1 : TupsAt H as rs) (h2 : TupsAt H bs qs) : TupsAt H (as ++ bs) (rs ++ qs) := by
  refine ⟨by simp [h1.len, h2.len], fun i a r e1 e2 => ?_⟩
  by_cases hi : i < as.length
  . rw [Zg hi] at e1
    rw [Zg (by rw [<- h1.len]; exact hi)] at e2;exact h1.at' i a r e1 e2
  . rw [Zf (ZD.mp hi)] at e1
    rw [Zf (by rw [<- h1.len]; exact ZD.mp hi)] at e2;rw [h1.len] at e1;exact h2.at' _ a r e1 e2
theorem TupsAt.one {H : Hp} {a : Addr} {r : List Str} (h : H a = some (.tup (r.map V.str))) : TupsAt H [a] [r] := ⟨rfl, fun i b q e1 e2 => by
  cases i with
  | zero =>
    simp at e1 e2;subst e1 e2;exact h
  | succ i => simp at e1⟩
theorem TupsAt.past {H : Hp} {p : Addr} {xs ys : List V} {as : List Addr} {rs : List (List Str)} (hp : H p = some (.lst xs)) (h : TupsAt H as rs) : TupsAt (upd H p (.lst ys)) as rs :=
  ⟨h.len, fun i a r e1 e2 => by
    have := h.at' i a r e1 e2;rw [z8 (fun e => by rw [e, hp] at this; cases this)]
    exact this⟩
structure RwsAt (H : Hp) (l : Addr) (as : List Addr) (rs : List (List Str)) : Prop where
  lst : H l = some (.lst (as.map V.ref))
  tups : TupsAt H as rs
theorem RwsAt.mono {H H' : Hp} {l : Addr} {as : List Addr} {rs : List (List Str)} (S : Same H H') (h : RwsAt H l as rs) : RwsAt H' l as rs := ⟨S _ _ h.lst, h.tups.mono S⟩
structure KHand (K : Fg) (H : Hp) (t : Addr) (d : HD) (w g : Addr) (gs : List Addr) : Prop where
  tup : SqT K H t [.str d.name, .ref w, .ref g]
  words : SqT K H w (d.words.map V.str)
  grid : SqT K H g (gs.map V.ref)
  len : gs.length = d.worths.length
  row : ∀ (i : Nat) (r : Addr) (ns : List Int), gs[i]? = some r -> d.worths[i]? = some ns -> SqT K H r (ns.map V.int)
def KHands (K : Fg) (H : Hp) (hs : List Addr) (ds : List HD) : Prop := hs.length = ds.length /\ ∀ (i : Nat) (t : Addr) (d : HD), hs[i]? = some t -> ds[i]? = some d -> ∃ w g gs, KHand K H t d w g gs
structure KHouse (K : Fg) (H : Hp) (p o h : Addr) (hs : List Addr) (outs : List Str) (ds : List HD) : Prop where
  tup : SqT K H p [.ref o, .ref h]
  outs : SqT K H o (outs.map V.str)
  hands : SqT K H h (hs.map V.ref)
  hand : KHands K H hs ds
theorem KHand.mono {K : Fg} {H H' : Hp} {t : Addr} {d : HD} {w g : Addr} {gs : List Addr} (S : Same H H') (h : KHand K H t d w g gs) : KHand K H' t d w g gs :=
  ⟨S.seqT h.tup, S.seqT h.words, S.seqT h.grid, h.len, fun i r ns e1 e2 => S.seqT (h.row i r ns e1 e2)⟩
theorem KHands.mono {K : Fg} {H H' : Hp} {hs : List Addr} {ds : List HD} (S : Same H H') (h : KHands K H hs ds) : KHands K H' hs ds :=
  ⟨h.1, fun i t d e1 e2 => by
    obtain ⟨w, g, gs, q⟩ := h.2 i t d e1 e2
    exact ⟨w, g, gs, q.mono S⟩⟩
theorem KHouse.mono {K : Fg} {H H' : Hp} {p o h : Addr} {hs : List Addr} {outs : List Str} {ds : List HD} (S : Same H H') (q : KHouse K H p o h hs outs ds) : KHouse K H' p o h hs outs ds :=
  ⟨S.seqT q.tup, S.seqT q.outs, S.seqT q.hands, q.hand.mono S⟩
def wa (K : Fg) (j : Nat) : Sp := fun vs H Q _ => ∃ (t : Addr) (us : List V) (v : V), vs = [.ref t] /\ SqT K H t us /\ us[j]? = some v /\ Q v H
def zem (K : Fg) : Sp := fun vs H Q _ => ∃ (l wd : Addr) (as : List Addr) (rs : List (List Str)) (ws : List Str), vs = [.ref l, .ref wd] /\ RwsAt H l as rs /\ SqT K H wd (ws.map V.str) /\ rs.length <= 4096 /\ ws.length <= 8 /\ (∀ r ∈ rs, r.length <= 8) /\
  ∀ H' l' as', Same H H' -> H l' = none -> RwsAt H' l' as' (xc rs ws) -> Q (.ref l') H'
def PvEach (l wd p : Addr) (rs : List (List Str)) (ws : List Str) (H : Hp) (i : Nat) (σ : L2.St) (H' : Hp) : Prop := ∃ (as' : List Addr) (v : Option V), H' p = some (.lst (as'.map V.ref)) /\ TupsAt H' as' (xc (rs.take i) ws) /\ Same H H' /\ σ = [some (.ref l), some (.ref wd), some (.ref p), v]
def PvLong (r ws : List Str) (H : Hp) (i : Nat) (ys : List V) (H' : Hp) : Prop := ∃ as' : List Addr, ys = as'.map V.ref /\ TupsAt H' as' (xh r (ws.take i)) /\ Same H H'
def zdq (K : Fg) : Sp := fun vs H Q _ => ∃ (h : Addr) (hs : List Addr) (ds : List HD), vs = [.ref h] /\ SqT K H h (hs.map V.ref) /\ KHands K H hs ds /\ ds.length <= 4 /\ (∀ d ∈ ds, d.words.length <= 8) /\
  ∀ H' l as, Same H H' -> H l = none -> RwsAt H' l as (yr (ds.map HD.words)) -> Q (.ref l) H'
def PvOver (h : Addr) (ds : List HD) (H : Hp) (i : Nat) (σ : L2.St) (H' : Hp) : Prop := ∃ (l : Addr) (as : List Addr) (v : Option V), H l = none /\ RwsAt H' l as (yr ((ds.map HD.words).take i)) /\ Same H H' /\ σ = [some (.ref h), some (.ref l), v]
def bv (K : Fg) : Sp := fun vs H Q _ => ∃ (p o h : Addr) (hs : List Addr) (outs : List Str) (ds : List HD), vs = [.ref p] /\ KHouse K H p o h hs outs ds /\ ds.length <= 4 /\ (∀ d ∈ ds, d.words.length <= 8) /\
  ∀ H' l as, Same H H' -> H l = none -> RwsAt H' l as (yr (ds.map HD.words)) -> Q (.ref l) H'
theorem ib {wss : List (List Str)} (h4 : wss.length <= 4) (h8 : ∀ ws ∈ wss, ws.length <= 8) (n : Nat) (hn : n <= wss.length) : (yr (wss.take n)).length <= 4096 := by
  have : ∀ m, m <= wss.length -> (yr (wss.take m)).length <= 8 ^ m := by
    intro m
    induction m with
    | zero => intro _; exact Zm _
    | succ m ih =>
      intro h;have e : wss[m]? = some wss[m] := Zb (by omega);rw [vi e, ni, Nat.pow_succ];exact YN (ih (by omega)) (h8 _ (Zl (by omega)))
  exact Zd (this n hn) (Nat.pow_le_pow_right (by decide) (show n <= 4 by omega))
section
variable {P : Program} {w : World} {K : Fg} {mg : Str -> Option Value} {base : Heap}
theorem zcn (D : zg K mg "hands_of" ph ["house"]) : FnAt P w K mg base "hands_of" 1 ["house"] (wa K 1) := by
  refine FnAt.of D zac (fun vs H Q E h => ?_) (fun f cdv A outer s H vs Q E hr h => ?_)
  . obtain ⟨t, us, v, rfl, _⟩ := h
    rfl
  . obtain ⟨t, us, v, rfl, ht, e, q⟩ := h
    refine ⟨_, (@zf _ _ _ (@zq _ _ _ _ (@zu _ _ _ _ _ _ _ yb (pv 0) (@zd _ _ _ _) (fun _ _ => rfl)))), ?_⟩;rw [show start ["house"] [V.ref t] = [some (V.ref t)] from rfl];simp only [zi, zj, ↓reduceIte];exact ⟨_, ht, _, zn (j := 1) e, q⟩
theorem gv (D : zg K mg "words_of_hand" wf ["hand"]) : FnAt P w K mg base "words_of_hand" 1 ["hand"] (wa K 1) := by
  refine FnAt.of D ow (fun vs H Q E h => ?_) (fun f cdv A outer s H vs Q E hr h => ?_)
  . obtain ⟨t, us, v, rfl, _⟩ := h
    rfl
  . obtain ⟨t, us, v, rfl, ht, e, q⟩ := h
    refine ⟨_, (@zf _ _ _ (@zq _ _ _ _ (@zu _ _ _ _ _ _ _ yb (pv 0) (@zd _ _ _ _) (fun _ _ => rfl)))), ?_⟩;rw [show start ["hand"] [V.ref t] = [some (V.ref t)] from rfl];simp only [zi, zj, ↓reduceIte];exact ⟨_, ht, _, zn (j := 1) e, q⟩
theorem nn (B : Bt mg) (D : zg K mg "with_each" qc ["rows", "words"]) : FnAt P w K mg base "with_each" 1 ["rows", "words"] (zem K) := by
  refine FnAt.of D sc_with_each (fun vs H Q E h => ?_) (fun f cdv A outer s H vs Q E hr h => ?_)
  . obtain ⟨l, wd, as, rs, ws, rfl, _⟩ := h
    rfl
  . obtain ⟨l, wd, as, rs, ws, rfl, hR, hW, b1, b2, b3, q⟩ := h
    refine ⟨_, (@ze _ _ _ _ _ (zv (i := 2) sc_with_each.nd rfl (Or.inl rfl) (@y3 _ _ _ _ (@zb _))) (@ze _ _ _ _ _ (xz PassesOwn.never rfl (@yg _ _ _ _ (pv 0)) (zx (i := 3) sc_with_each.nd rfl (Or.inr rfl)) (@zf _ _ _ (ul (xa PySem.F.plainAttrs_list PySem.F.slot_list_extend PySem.F.type_list_extend zdm (pv 2) (za (ym ["word"] ["rows", "words", "longer", "row"] rfl (@zdb _ _ _ _ (pv 1)) (fun _ => (zx (i := 0) (show (["word", "rows", "words", "longer", "row"] : List Str).Nodup by decide +kernel) rfl (Or.inl rfl))) (fun _ => (@yi _)) (fun _ => (@zo _ _ _ _ _ _ _ _ zaz (pv 4) (@y0 _ _ _ _ _ (za (pv 0) (@zb _))))) rfl (by decide +kernel) rfl rfl) (@zb _)))))) (@zf _ _ _ (@zq _ _ _ _ (pv 2))))), ?_⟩;rw [show start ["rows", "words", "longer", "row"] [V.ref l, V.ref wd] = [some (V.ref l), some (V.ref wd), none, none] from rfl];simp only [zi, zj, ↓reduceIte];refine ⟨by decide, fun p hp => ?_⟩;have S1 : Same H (upd H p (.lst [])) := Same.upd (Same.refl _) hp;refine ⟨⟨_, .of (S1 _ _ hR.lst)⟩, ?_⟩;refine wv (xs := as.map V.ref) (PvEach l wd p rs ws H) ⟨[], _, zc, TupsAt.nil, S1, rfl⟩ ?_ ?_ ?_
    . rintro i σ H' hi ⟨as', v, h1, h2, S, rfl⟩
      exact .of (S _ _ hR.lst)
    . rintro i x σ H' hx ⟨as', v, h1, h2, S, rfl⟩
      obtain ⟨a, ha, rfl⟩ := yj hx;have hi : i < rs.length := by have := (Zc.mp ha).1; have := hR.tups.len; omega
      have er : rs[i]? = some rs[i] := Zb hi;have hrow := hR.tups.at' i a _ ha er;have hr8 := b3 _ (Zl hi);simp only [zi, zj, ↓reduceIte];refine ⟨.inl ⟨rfl, _, .of h1⟩, ⟨_, S.seqT hW⟩, fun d => ?_⟩;refine j8 (xs := ws.map V.str) (PvLong rs[i] ws H') ⟨[], rfl, TupsAt.nil, Same.refl _⟩ ?_ ?_ ?_
      . rintro j ys H2 hj ⟨bs, rfl, t2, S2⟩
        refine ⟨?_, S2.seqT (S.seqT hW)⟩;rw [Za, t2.len, rf, Zj];exact Zd (ZB _ _) (Zd b2 (by decide))
      . rintro j y ys H2 hy ⟨bs, rfl, t2, S2⟩
        obtain ⟨z, hz, rfl⟩ := yj hy;simp only [zi, zj, ↓reduceIte];refine ⟨by decide, fun c hc => ?_⟩;have S3 : Same H2 (upd H2 c (.tup [V.str z])) := Same.upd (Same.refl _) hc;refine ⟨_, (S.trans (S2.trans S3)) _ _ hrow, _, zc, ?_, fun H4 e S4 he => ?_⟩
        . rw [Za]
          exact Zd (show _ <= 9 by simp; omega) (by decide)
        . refine ⟨bs ++ [e], by simp, ?_, S2.trans (S3.trans S4)⟩
          rw [Zq, hz]
          show TupsAt H4 (bs ++ [e]) (xh _ (ws.take j ++ [z]))
          rw [xh, Zn];exact (t2.mono (S3.trans S4)).append (TupsAt.one (by rw [he]; simp))
      . rintro ys H2 ⟨bs, rfl, t2, S2⟩ l2 hl2
        rw [Za, Zt] at t2;have S3 : Same H2 (upd H2 l2 (.lst (bs.map V.ref))) := Same.upd (Same.refl _) hl2;have h3 : upd H2 l2 (.lst (bs.map V.ref)) l2 = some (.lst (bs.map V.ref)) := zc;generalize upd H2 l2 (.lst (bs.map V.ref)) = H3 at *;have hp3 := (S2.trans S3) _ _ h1;refine ⟨_, hp3, _, h3, ?_, ?_⟩
        . rw [Za, Za, h2.len, t2.len, rf, ni, Zj]
          have : min i rs.length * ws.length <= 4096 * 8 := YN (by omega) b2;exact Zd (show _ <= 4096 * 8 + 8 by omega) (by decide)
        . refine ⟨as' ++ bs, _, by rw [zc, Zn], ?_, Same.upd (S.trans (S2.trans S3)) hp, rfl⟩
          rw [Zq, er]
          show TupsAt _ _ (xc (rs.take i ++ [rs[i]]) ws)
          rw [gp];exact ((h2.mono (S2.trans S3)).append (t2.mono S3)).past hp3
    . rintro σ H' ⟨as', v, h1, h2, S, rfl⟩
      simp only [zi, zj, ↓reduceIte];rw [Za, hR.tups.len, Zt] at h2;exact q H' p as' S hp ⟨h1, h2⟩
theorem nz (B : Bt mg) (nn : FnAt P w K mg base "with_each" 1 ["rows", "words"] (zem K)) (yf : FnAt P w K mg base "words_of_hand" 1 ["hand"] (wa K 1)) (D : zg K mg "rows_over" rk ["hands"]) : FnAt P w K mg base "rows_over" 2 ["hands"] (zdq K) := by
  refine FnAt.of D sc_rows_over (fun vs H Q E h => ?_) (fun f cdv A outer s H vs Q E hr h => ?_)
  . obtain ⟨b, hs, ds, rfl, _⟩ := h
    rfl
  . obtain ⟨b, hs, ds, rfl, hH, hK, h4, h8, q⟩ := h
    refine ⟨_, (@ze _ _ _ _ _ (@zv _ _ 1 _ _ _ _ sc_rows_over.nd rfl (Or.inl rfl) (@y3 _ _ _ _ (@za _ _ _ _ _ (@y0 _ _ _ _ _ (@zb _)) (@zb _) (zp nofun))) rfl (Or.inl rfl)) (@ze _ _ _ _ _ (xz PassesOwn.never rfl (@zdb _ _ _ _ (pv 0)) (zx (i := 2) sc_rows_over.nd rfl (Or.inl rfl)) (@zf _ _ _ (zv (i := 1) sc_rows_over.nd rfl (Or.inl rfl) (zk nn (hr.mono (by decide)) rfl (za (pv 1) (za (zk yf (hr.mono (by decide)) rfl (za (pv 2) (@zb _))) (@zb _))))))) (@zf _ _ _ (@zq _ _ _ _ (pv 1))))), ?_⟩;rw [show start ["hands", "rows", "hand"] [V.ref b] = [some (V.ref b), none, none] from rfl];simp only [zi, zj, ↓reduceIte];refine ⟨by decide, fun c hc => ⟨by decide, fun p hp => ?_⟩⟩;have S1 : Same H (upd H c (.tup [])) := Same.upd (Same.refl _) hc;have h1 : upd H c (.tup []) c = some (.tup []) := zc;generalize upd H c (.tup []) = H1 at *;have S2 : Same H1 (upd H1 p (.lst [V.ref c])) := Same.upd (Same.refl _) hp;have h2 : upd H1 p (.lst [V.ref c]) p = some (.lst [V.ref c]) := zc;generalize upd H1 p (.lst [V.ref c]) = H2 at *;have S := S1.trans S2;refine ⟨⟨_, S.seqT hH⟩, ?_⟩;refine zhe (xs := hs.map V.ref) (PvOver b ds H) ⟨p, [c], _, S1.free hp, ⟨h2, TupsAt.one (S2 _ _ h1)⟩, S, rfl⟩ ?_ ?_ ?_
    . rintro i σ H' hi ⟨l, as, v, hl, hR, S', rfl⟩
      exact S'.seqT hH
    . rintro i x σ H' hx ⟨l, as, v, hl, hR, S', rfl⟩
      obtain ⟨t, ht, rfl⟩ := yj hx;have hi : i < ds.length := by have := (Zc.mp ht).1; have := hK.1; omega
      have ed : ds[i]? = some ds[i] := Zb hi;obtain ⟨wd, g, gs, hd⟩ := (hK.mono S').2 i t _ ht ed;simp only [zi, zj, ↓reduceIte];refine ⟨t, _, _, rfl, hd.tup, rfl, ?_⟩;have ew : (ds.map HD.words)[i]? = some ds[i].words := by rw [Ze, ed]; rfl
      have hb : ∀ r ∈ yr ((ds.map HD.words).take i), r.length <= 8 := fun r hr => by
        have := md (ds.map HD.words) i (by rw [Za]; omega) r hr;omega
      refine ⟨l, wd, as, _, ds[i].words, rfl, hR, hd.words, ib (by rw [Za]; exact h4) (fun ws hws => ?_) i (by rw [Za]; omega), h8 _ (Zl hi), hb, fun H3 l3 as3 S3 hl3 R3 => ?_⟩
      . obtain ⟨d, hd, rfl⟩ := Zp.mp hws
        exact h8 d hd
      . simp only [zi, zj, ↓reduceIte]
        refine ⟨l3, as3, _, S'.free hl3, ?_, S'.trans S3, rfl⟩;rw [vi ew];exact R3
    . rintro σ H' ⟨l, as, v, hl, hR, S', rfl⟩
      simp only [zi, zj, ↓reduceIte];rw [Za, hK.1, ZG (by rw [Za]; omega)] at hR;exact q H' l as S' hl hR
theorem k8 (B : Bt mg) (nz : FnAt P w K mg base "rows_over" 2 ["hands"] (zdq K)) (f_hands_of : FnAt P w K mg base "hands_of" 1 ["house"] (wa K 1)) (D : zg K mg "rows_of" o5 ["house"]) : FnAt P w K mg base "rows_of" 3 ["house"] (bv K) := by
  refine FnAt.of D zb4 (fun vs H Q E h => ?_) (fun f cdv A outer s H vs Q E hr h => ?_)
  . obtain ⟨p, o, a, hs, outs, ds, rfl, _⟩ := h
    rfl
  . obtain ⟨p, o, a, hs, outs, ds, rfl, hH, h4, h8, q⟩ := h
    refine ⟨_, (@zf _ _ _ (@zq _ _ _ _ (zk nz (hr.mono (by decide)) rfl (za (zk f_hands_of (hr.mono (by decide)) rfl (za (pv 0) (@zb _))) (@zb _))))), ?_⟩;rw [show start ["house"] [V.ref p] = [some (V.ref p)] from rfl];simp only [zi, zj, ↓reduceIte];exact ⟨p, _, _, rfl, hH.tup, rfl, a, hs, ds, rfl, hH.hands, hH.hand, h4, h8, q⟩
end
structure HHand (H : Hp) (t : Addr) (d : HD) (w g : Addr) (gs : List Addr) : Prop where
  tup : H t = some (.tup [.str d.name, .ref w, .ref g])
  words : H w = some (.tup (d.words.map V.str))
  grid : H g = some (.tup (gs.map V.ref))
  len : gs.length = d.worths.length
  row : ∀ (i : Nat) (r : Addr) (ns : List Int), gs[i]? = some r -> d.worths[i]? = some ns -> H r = some (.tup (ns.map V.int))
theorem HHand.mono {H H' : Hp} {t : Addr} {d : HD} {w g : Addr} {gs : List Addr} (S : Same H H') (h : HHand H t d w g gs) : HHand H' t d w g gs :=
  ⟨S _ _ h.tup, S _ _ h.words, S _ _ h.grid, h.len, fun i r ns e1 e2 => S _ _ (h.row i r ns e1 e2)⟩
theorem HHand.k {K : Fg} {H : Hp} {t : Addr} {d : HD} {w g : Addr} {gs : List Addr} (h : HHand H t d w g gs) : KHand K H t d w g gs :=
  ⟨.of h.tup, .of h.words, .of h.grid, h.len, fun i r ns e1 e2 => .of (h.row i r ns e1 e2)⟩
def HHands (H : Hp) (hs : List Addr) (ds : List HD) : Prop := hs.length = ds.length /\ ∀ (i : Nat) (t : Addr) (d : HD), hs[i]? = some t -> ds[i]? = some d -> ∃ w g gs, HHand H t d w g gs
theorem HHands.mono {H H' : Hp} {hs : List Addr} {ds : List HD} (S : Same H H') (h : HHands H hs ds) : HHands H' hs ds :=
  ⟨h.1, fun i t d e1 e2 => by
    obtain ⟨w, g, gs, q⟩ := h.2 i t d e1 e2
    exact ⟨w, g, gs, q.mono S⟩⟩
theorem HHands.snoc {H : Hp} {hs : List Addr} {ds : List HD} {t : Addr} {d : HD} {w g : Addr} {gs : List Addr} (h : HHands H hs ds) (q : HHand H t d w g gs) : HHands H (hs ++ [t]) (ds ++ [d]) := by
  refine ⟨by simp [h.1], fun i a e e1 e2 => ?_⟩
  by_cases hi : i < hs.length
  . rw [Zg hi] at e1
    rw [Zg (by rw [<- h.1]; exact hi)] at e2;exact h.2 i a e e1 e2
  . rw [Zf (ZD.mp hi)] at e1
    rw [Zf (by rw [<- h.1]; exact ZD.mp hi)] at e2
    have h0 : i - hs.length = 0 := by
      have := (Zc.mp e1).1;simp at this;omega
    rw [h0] at e1;rw [<- h.1, h0] at e2;simp at e1 e2;subst e1 e2;exact ⟨w, g, gs, q⟩
structure HHouse (H : Hp) (p o h : Addr) (hs : List Addr) (outs : List Str) (ds : List HD) : Prop where
  tup : H p = some (.tup [.ref o, .ref h])
  outs : H o = some (.tup (outs.map V.str))
  hands : H h = some (.tup (hs.map V.ref))
  hand : HHands H hs ds
theorem HHouse.mono {H H' : Hp} {p o h : Addr} {hs : List Addr} {outs : List Str} {ds : List HD} (S : Same H H') (q : HHouse H p o h hs outs ds) : HHouse H' p o h hs outs ds :=
  ⟨S _ _ q.tup, S _ _ q.outs, S _ _ q.hands, q.hand.mono S⟩
theorem HHouse.k {K : Fg} {H : Hp} {p o h : Addr} {hs : List Addr} {outs : List Str} {ds : List HD} (q : HHouse H p o h hs outs ds) : KHouse K H p o h hs outs ds :=
  ⟨.of q.tup, .of q.outs, .of q.hands, q.hand.1, fun i t d e1 e2 => by
    obtain ⟨w, g, gs, z⟩ := q.hand.2 i t d e1 e2
    exact ⟨w, g, gs, z.k⟩⟩
structure IntTs (H : Hp) (ls : List Addr) (ps : List (List Int)) : Prop where
  len : ls.length = ps.length
  at' : ∀ (i : Nat) (l : Addr) (p : List Int), ls[i]? = some l -> ps[i]? = some p -> H l = some (.tup (p.map V.int))
theorem IntTs.mono {H H' : Hp} {ls : List Addr} {ps : List (List Int)} (S : Same H H') (h : IntTs H ls ps) : IntTs H' ls ps := ⟨h.len, fun i l p e1 e2 => S _ _ (h.at' i l p e1 e2)⟩
theorem IntTs.snoc {H : Hp} {ls : List Addr} {ps : List (List Int)} {l : Addr} {p : List Int} (h : IntTs H ls ps) (hl : H l = some (.tup (p.map V.int))) : IntTs H (ls ++ [l]) (ps ++ [p]) := by
  refine ⟨by simp [h.len], fun i a q e1 e2 => ?_⟩
  by_cases hi : i < ls.length
  . rw [Zg hi] at e1
    rw [Zg (by rw [<- h.len]; exact hi)] at e2;exact h.at' i a q e1 e2
  . rw [Zf (ZD.mp hi)] at e1
    rw [Zf (by rw [<- h.len]; exact ZD.mp hi)] at e2
    have h0 : i - ls.length = 0 := by
      have := (Zc.mp e1).1;simp at this;omega
    rw [h0] at e1;rw [<- h.len, h0] at e2;simp at e1 e2;subst e1 e2;exact hl
def zd8 : Sp := fun vs H Q _ => ∃ (x : HX) (d : HD), vs = [.ref x.t] /\ HandAt H x d /\ d.worths.length <= 8 /\ ∀ H' t w g gs, Same H H' -> HHand H' t d w g gs -> Q (.ref t) H'
def c3 : Sp := fun vs H Q _ => ∃ (o b : Addr) (outs : List Str) (xs : List HX) (ds : List HD), vs = [.ref o, .ref b] /\ H o = some (.lst (outs.map V.str)) /\ HandsL H b xs ds /\ GoodHouse outs ds /\ ∀ H' p o' h hs, Same H H' -> HHouse H' p o' h hs outs ds -> Q (.ref p) H'
def PvEH (rows : List (List Int)) (H1 : Hp) (i : Nat) (ys : List V) (H' : Hp) : Prop := Same H1 H' /\ ∃ gs : List Addr, ys = gs.map V.ref /\ IntTs H' gs (rows.take i)
def PvDH (ds : List HD) (H1 : Hp) (i : Nat) (ys : List V) (H' : Hp) : Prop := Same H1 H' /\ ∃ hs : List Addr, ys = hs.map V.ref /\ HHands H' hs (ds.take i)
section
variable {P : Program} {w : World} {K : Fg} {mg : Str -> Option Value} {base : Heap} {a : Ad}
theorem zaj (B : Bt mg) (wc : FnAt P w K mg base "name_of" 1 ["hand"] (up fun _ d => .str d.name)) (yf : FnAt P w K mg base "words_of_hand" 1 ["hand"] (up fun x _ => .ref x.w)) (x0 : FnAt P w K mg base "worths_of_hand" 1 ["hand"] (up fun x _ => .ref x.g))
    (D : zg K mg "kept_hand" vp ["hand"]) : FnAt P w K mg base "kept_hand" 2 ["hand"] zd8 := by
  refine FnAt.of D sc_kept_hand (fun vs H Q E h => ?_) (fun f cdv A outer s H vs Q E hr h => ?_)
  . obtain ⟨x, d, rfl, _⟩ := h
    rfl
  . obtain ⟨x, d, rfl, hx, h8, q⟩ := h
    refine ⟨_, (@ze _ _ _ _ _ (zv (i := 1) sc_kept_hand.nd rfl (Or.inl rfl) (yo xp rfl B.tuple xv (za (ym ["row"] ["hand", "worths"] rfl (@yg _ _ _ _ (zk x0 (hr.mono (by decide)) rfl (za (pv 0) (@zb _)))) (fun _ => (zx (i := 0) (show (["row", "hand", "worths"] : List Str).Nodup by decide +kernel) rfl (Or.inl rfl))) (fun _ => (@yi _)) (fun _ => (yo xp rfl B.tuple xv (za (pv 0) (@zb _)))) rfl (by decide +kernel) rfl rfl) (@zb _)))) (@zf _ _ _ (@zq _ _ _ _ (@y0 _ _ _ _ _ (za (zk wc (hr.mono (by decide)) rfl (za (pv 0) (@zb _))) (za (yo xp rfl B.tuple xv (za (zk yf (hr.mono (by decide)) rfl (za (pv 0) (@zb _))) (@zb _))) (za (pv 1) (@zb _)))))))), ?_⟩;rw [show start ["hand", "worths"] [V.ref x.t] = [some (V.ref x.t), none] from rfl];simp only [zi, zj, ↓reduceIte];refine ⟨x, d, rfl, hx, ?_⟩;simp only [zi, zj, ↓reduceIte];refine ⟨⟨_, .of hx.grid⟩, fun dd => ?_⟩;refine yk (xs := x.gs.map V.ref) (PvEH d.worths H) ⟨Same.refl _, [], rfl, rfl, fun i l p e => by simp at e⟩ ?_ ?_ ?_
    . rintro i ys H2 hi ⟨S, gs, rfl, ty⟩
      rw [Za, hx.len] at hi;have ly : gs.length = i := by rw [ty.len, Zj]; omega
      exact ⟨by rw [Za, ly]; exact Zd hi (Zd h8 (by decide)), S.seq (.of hx.grid)⟩
    . rintro i y ys H2 hy ⟨S, gs, rfl, ty⟩
      obtain ⟨r, hr', rfl⟩ := yj hy;have hi : i < d.worths.length := by have := (Zc.mp hr').1; have := hx.len; omega
      have e2 : d.worths[i]? = some d.worths[i] := by simp [hi]
      simp only [zi, zj, ↓reduceIte];refine ⟨_, S.seq (.of (hx.row i r _ hr' e2)), fun l hl => ?_⟩;have S3 : Same H2 (upd H2 l (.tup ((d.worths[i]).map V.int))) := Same.upd (Same.refl _) hl;refine ⟨S.trans S3, gs ++ [l], by simp, ?_⟩;rw [Zq, e2];exact (ty.mono S3).snoc zc
    . rintro ys H2 ⟨S, gs, rfl, ty⟩ l hl
      rw [Za, hx.len, Zt] at ty;have S3 : Same H2 (upd H2 l (.lst (gs.map V.ref))) := Same.upd (Same.refl _) hl;refine ⟨_, .of zc, fun l1 hl1 => ?_⟩;generalize upd H2 l (.lst (gs.map V.ref)) = H3 at *;have S4 : Same H3 (upd H3 l1 (.tup (gs.map V.ref))) := Same.upd (Same.refl _) hl1;have h4 : upd H3 l1 (.tup (gs.map V.ref)) l1 = some (.tup (gs.map V.ref)) := zc;generalize upd H3 l1 (.tup (gs.map V.ref)) = H4 at *;have S24 := S.trans (S3.trans S4);refine ⟨x, d, rfl, hx.mono S24, x, d, rfl, hx.mono S24, x.w, rfl, _, .of (hx.mono S24).words, fun l2 hl2 => ⟨by decide, fun p hp => ?_⟩⟩;have S5 : Same H4 (upd H4 l2 (.tup (d.words.map V.str))) := Same.upd (Same.refl _) hl2;have h5 : upd H4 l2 (.tup (d.words.map V.str)) l2 = some (.tup (d.words.map V.str)) := zc;generalize upd H4 l2 (.tup (d.words.map V.str)) = H5 at *;have S6 : Same H5 (upd H5 p (.tup [V.str d.name, V.ref l2, V.ref l1])) := Same.upd (Same.refl _) hp;exact q _ p l2 l1 gs (S24.trans (S5.trans S6)) ⟨zc, S6 _ _ h5, (S5.trans S6) _ _ h4, ty.len, fun i r ns e1 e2 => (S3.trans (S4.trans (S5.trans S6))) _ _ (ty.at' i r ns e1 e2)⟩
theorem zby (B : Bt mg) (C : Ct K mg a) (wz : FnAt P w K mg base "makes_house" 6 ["outcomes", "hands"] bu) (qb : FnAt P w K mg base "kept_hand" 2 ["hand"] zd8) (D : zg K mg "house_of" t9 ["outcomes", "hands"]) : FnAtX P w K mg base "house_of" 7 ["outcomes", "hands"] c3 := by
  refine FnAtX.of D j3 (fun vs H Q E h => ?_) (fun f cdv A outer s H vs Q E hr h => ?_)
  . obtain ⟨o, b, outs, xs, ds, rfl, _⟩ := h
    rfl
  . obtain ⟨o, b, outs, xs, ds, rfl, ho, hh, g, q⟩ := h
    refine ⟨_, (@ze _ _ _ _ _ (@yd _ _ _ _ _ _ _ _ (@xn _ _ _ _ (xg (zk wz (hr.mono (by decide)) rfl (za (pv 0) (za (pv 1) (@zb _)))))) (@zf _ _ _ (yv rfl C.q_NoHouse.toErr rfl C.m_NoHouse (yh rfl) (za (@zm _ _ _ _) (@zb _)))) (@zz _)) (@zf _ _ _ (PS.nox (@zq _ _ _ _ (@y0 _ _ _ _ _ (za (yo xp rfl B.tuple xv (za (pv 0) (@zb _))) (za (yo xp rfl B.tuple xv (za (ym ["hand"] ["outcomes", "hands"] rfl (@yg _ _ _ _ (pv 1)) (fun _ => (zx (i := 0) (show (["hand", "outcomes", "hands"] : List Str).Nodup by decide +kernel) rfl (Or.inl rfl))) (fun _ => (@yi _)) (fun _ => (zk qb (hr.mono (by decide)) rfl (za (pv 0) (@zb _)))) rfl (by decide +kernel) rfl rfl) (@zb _))) (@zb _)))))))), ?_⟩;rw [show start ["outcomes", "hands"] [V.ref o, V.ref b] = [some (V.ref o), some (V.ref b)] from rfl];simp only [zi, zj, ↓reduceIte];have g2 := g.hands;refine ⟨o, b, outs, xs, ds, rfl, ho, hh, g, fun H1 S1 => ?_⟩;simp only [zi, zj, ↓reduceIte];have hh1 := hh.mono S1;have ho1 := S1 _ _ ho;refine iteF ⟨_, .of ho1, fun l hl => ?_⟩;have S2 : Same H1 (upd H1 l (.tup (outs.map V.str))) := Same.upd (Same.refl _) hl;have h2 : upd H1 l (.tup (outs.map V.str)) l = some (.tup (outs.map V.str)) := zc;generalize upd H1 l (.tup (outs.map V.str)) = H2 at *;have hh2 := hh1.mono S2;refine ⟨⟨_, .of hh2.at'⟩, fun d => ?_⟩;refine yk (xs := xs.map fun x => V.ref x.t) (PvDH ds H2) ⟨Same.refl _, [], rfl, rfl, fun i t d e => by simp at e⟩ ?_ ?_ ?_
    . rintro i ys H3 hi ⟨S, hs, rfl, ty⟩
      rw [Za, hh.len] at hi;have ly : hs.length = i := by rw [ty.1, Zj]; omega
      exact ⟨by rw [Za, ly]; exact Zd hi (Zd g2.2 (by decide)), S.seq (.of hh2.at')⟩
    . rintro i y ys H3 hy ⟨S, hs, rfl, ty⟩
      obtain ⟨x, hx, rfl⟩ := yj hy;have hi : i < ds.length := by have := (Zc.mp hx).1; have := hh.len; omega
      have e2 : ds[i]? = some ds[i] := by simp [hi]
      have hm := Zl hi;have r8 : (ds[i]).worths.length <= 8 := by rw [g.rows _ hm]; exact (g.words1 _ hm).2
      simp only [zi, zj, ↓reduceIte];refine ⟨x, ds[i], rfl, (hh2.hand i x ds[i] hx e2).mono S, r8, fun H4 p wd g' gs S4 tp => ?_⟩;refine ⟨S.trans S4, hs ++ [p], by simp, ?_⟩;rw [Zq, e2];exact (ty.mono S4).snoc tp
    . rintro ys H3 ⟨S, hs, rfl, ty⟩ l1 hl1
      rw [Za, hh.len, Zt] at ty;have S4 : Same H3 (upd H3 l1 (.lst (hs.map V.ref))) := Same.upd (Same.refl _) hl1;refine ⟨_, .of zc, fun l2 hl2 => ⟨by decide, fun p hp => ?_⟩⟩;generalize upd H3 l1 (.lst (hs.map V.ref)) = H4 at *;have S5 : Same H4 (upd H4 l2 (.tup (hs.map V.ref))) := Same.upd (Same.refl _) hl2;have h5 : upd H4 l2 (.tup (hs.map V.ref)) l2 = some (.tup (hs.map V.ref)) := zc;generalize upd H4 l2 (.tup (hs.map V.ref)) = H5 at *;have S6 : Same H5 (upd H5 p (.tup [V.ref l, V.ref l2])) := Same.upd (Same.refl _) hp;have S36 := S4.trans (S5.trans S6);exact q _ p l l2 hs (S1.trans (S2.trans (S.trans S36))) ⟨zc, (S.trans S36) _ _ h2, S6 _ _ h5, ty.mono S36⟩
end
section
variable {α : Type}
def Picks (r : List α) (wss : List (List α)) : Prop := r.length = wss.length /\ ∀ (j : Nat) (ws : List α), wss[j]? = some ws -> ∃ w, r[j]? = some w /\ w ∈ ws
theorem zfs {rs : List (List α)} {ws : List α} {r : List α} {w : α} (h1 : r ∈ rs) (h2 : w ∈ ws) : r ++ [w] ∈ xc rs ws := by
  simp only [xc, xh, YY, Zp];exact ⟨_, ⟨r, h1, rfl⟩, Zp.mpr ⟨w, h2, rfl⟩⟩
theorem zen (wss : List (List α)) : ∀ n, n <= wss.length -> ∀ r, r ∈ yr (wss.take n) ↔ Picks r (wss.take n) := by
  intro n
  induction n with
  | zero =>
    intro _ r;simp only [List.take_zero, yr, List.foldl_nil, ZC]
    constructor
    . rintro rfl; exact ⟨rfl, fun j ws e => by simp at e⟩
    . intro h; exact Yy.mp h.1
  | succ n ih =>
    intro hn r;have e : wss[n]? = some wss[n] := Zb (by omega);have et : wss.take (n + 1) = wss.take n ++ [wss[n]] := by rw [Zq, e]; rfl
    have ln : (wss.take n).length = n := by rw [Zj]; omega
    rw [vi e]
    constructor
    . intro h
      obtain ⟨q, w, h1, h2, rfl⟩ := kn h;obtain ⟨p1, p2⟩ := (ih (by omega) q).mp h1;rw [ln] at p1;refine ⟨by rw [et, Zo, Zo, p1, ln]; rfl, fun j ws ej => ?_⟩;rw [et] at ej
      by_cases hj : j < n
      . rw [Zg (by omega)] at ej
        obtain ⟨w', a1, a2⟩ := p2 j ws ej;exact ⟨w', by rw [Zg (by omega)]; exact a1, a2⟩
      . rw [Zf (by omega), ln] at ej
        have hj0 : j - n = 0 := by
          have := (Zc.mp ej).1;simp at this;omega
        rw [hj0] at ej;simp at ej;subst ej;exact ⟨w, by rw [Zf (by omega), p1, hj0]; rfl, h2⟩
    . rintro ⟨p1, p2⟩
      rw [et] at p1 p2;have lr : r.length = n + 1 := by rw [p1, Zo, ln]; rfl
      obtain ⟨w, a1, a2⟩ := p2 n wss[n] (by rw [Zf (by omega), ln]; simp)
      have er : r = r.take n ++ [w] := by
        have : r.take (n + 1) = r := ZG (by omega);rw [Zq, a1] at this;exact this.symm
      rw [er];refine zfs ((ih (by omega) _).mpr ⟨by rw [Zj, ln]; omega, fun j ws ej => ?_⟩) a2;have hj : j < n := by have := (Zc.mp ej).1; omega
      obtain ⟨w', b1, b2⟩ := p2 j ws (by rw [Zg (by omega)]; exact ej);exact ⟨w', by rw [List.getElem?_take, if_pos hj]; exact b1, b2⟩
theorem zam {rs : List (List α)} {ws : List α} (h1 : rs.Nodup) (h2 : ws.Nodup) : (xc rs ws).Nodup := by
  induction rs with
  | nil => exact List.nodup_nil
  | cons r rs ih =>
    rw [io];obtain ⟨n1, n2⟩ := Yc.mp h1;refine YT.mpr ⟨?_, ih n2, fun x hx y hy e => ?_⟩
    . rw [xh]
      refine YU.mpr (List.Pairwise.imp (fun {a b} hab e => hab ?_) h2)
      simpa using e
    . obtain ⟨w, _, rfl⟩ := Zp.mp hx
      obtain ⟨q, w', hq, _, e2⟩ := kn hy;rw [e2] at e;have := (List.append_inj' e rfl).1;exact n1 (this ▸ hq)
theorem zab {wss : List (List α)} (h : ∀ ws ∈ wss, ws.Nodup) : (yr wss).Nodup := by
  have : ∀ n, n <= wss.length -> (yr (wss.take n)).Nodup := by
    intro n
    induction n with
    | zero => intro _; simp [yr]
    | succ n ih =>
      intro hn;have e : wss[n]? = some wss[n] := Zb (by omega);rw [vi e];exact zam (ih (by omega)) (h _ (Zl _))
  have := this wss.length (Zm _)
  rwa [Zt] at this
end
theorem zg0 {α : Type} {xs : List α} {k : Nat} {x : α} (h1 : 1 <= k) (h2 : k <= xs.length) (h : xs[xs.length - k]? = some x) : atI xs (-(k : Int)) = some x := by
  unfold atI ixN;rw [if_neg (by omega), if_pos (by omega)]
  show xs[(-(k : Int) + xs.length).toNat]? = some x
  rw [show (-(k : Int) + xs.length).toNat = xs.length - k by omega];exact h
theorem ze6 {xs : List V} {k : Nat} (h1 : 1 <= k) (h2 : k <= xs.length) : cutV xs none (some (-(k : Int))) = xs.take (xs.length - k) := by
  have e : HT.sIx xs.length xs.length (some (-(k : Int))) = xs.length - k := by
    show (if (-(k : Int)) < 0 then ((-(k : Int)) + (xs.length : Int)).toNat else min (-(k : Int)).toNat xs.length) = _
    rw [if_pos (by omega)];omega
  unfold cutV;rw [HT.sIx_none, e];simp
theorem bq : ∀ {zs : List Str} {m : Nat} {z : Str}, zs[m]? = some z -> zs.idxOf z <= m
  | [], m, z, h => by simp at h
  | y :: zs, 0, z, h => by
    simp at h;subst h;simp
  | y :: zs, m + 1, z, h => by
    rw [List.idxOf_cons]
    cases y == z with
    | true => exact ZE _
    | false => exact YX (bq (by simpa using h))
theorem zbq (y z : Str) : eqV (V.str y) (V.str z) = decide (y = z) := rfl
theorem zec {zs : List Str} {z : Str} (h : z ∈ zs) : FirstAt (zs.map V.str) (V.str z) (zs.idxOf z) := by
  have hl := Zz.mpr h;refine ⟨rfl, ?_, ⟨V.str z, ?_, ?_⟩, fun m y hm e => ?_⟩
  . rw [ZR]
    intro x hx;obtain ⟨y, _, rfl⟩ := Zp.mp hx;rfl
  . rw [Ze, Zb hl, List.getElem_idxOf]
    rfl
  . rw [zbq]
    exact decide_eq_true rfl
  . rw [Ze] at e
    have hml : m < zs.length := by omega
    rw [Zb hml] at e;cases e;rw [zbq, decide_eq_false];intro ez;have := Zz.mpr h
    have hle : zs.idxOf z <= m := by
      exact bq (by rw [Zb hml, ez])
    omega
section
variable {P : Program} {w : World} {K : Fg} {mg : Str -> Option Value} {base : Heap} {a : Ad}
theorem du (D : zg K mg "outcomes_of" vv ["house"]) : FnAt P w K mg base "outcomes_of" 1 ["house"] (wa K 0) := by
  refine FnAt.of D fb (fun vs H Q E h => ?_) (fun f cdv A outer s H vs Q E hr h => ?_)
  . obtain ⟨t, us, v, rfl, _⟩ := h
    rfl
  . obtain ⟨t, us, v, rfl, ht, e, q⟩ := h
    refine ⟨_, (@zf _ _ _ (@zq _ _ _ _ (@zu _ _ _ _ _ _ _ yb (pv 0) (@zd _ _ _ _) (fun _ _ => rfl)))), ?_⟩;rw [show start ["house"] [V.ref t] = [some (V.ref t)] from rfl];simp only [zi, zj, ↓reduceIte];exact ⟨_, ht, _, zn (j := 0) e, q⟩
end
def fig (n : Nat) : Str := chr1 (48 + n)
def nmAt (ds : List HD) (k : Nat) : Str := (ds.map HD.name).getD k ⟨#[]⟩
def wd (ds : List HD) : Cd -> List Str
  | .says k w => [Str.ofString "says", nmAt ds k, w]
  | .count n w => [Str.ofString "count", fig n, w]
  | .no c => Str.ofString "not" :: wd ds c
  | .an c d => Str.ofString "and" :: (wd ds c ++ wd ds d)
  | .orr c d => Str.ofString "or" :: (wd ds c ++ wd ds d)
def okc (ct : Prop) (ds : List HD) : Cd -> Prop
  | .says k w => ∃ d, ds[k]? = some d /\ w ∈ d.words
  | .count n w => ct /\ 1 <= n /\ n <= 4 /\ ∃ d ∈ ds, w ∈ d.words
  | .no c => okc ct ds c
  | .an c d => okc ct ds c /\ okc ct ds d
  | .orr c d => okc ct ds c /\ okc ct ds d
theorem xl {α : Type} {ws : List α} {pl : Nat} {x : α} {r : List α} (h : ws.drop pl = x :: r) : ws[pl]? = some x := by
  have := congrArg (fun l => l[0]?) h
  simpa [ZQ] using this
theorem xx {α : Type} {ws : List α} {pl : Nat} {x : α} {r : List α} (h : ws.drop pl = x :: r) : ws.drop (pl + 1) = r := by
  rw [<- Yr, h]; rfl
def aw : Sp := fun vs H Q _ => ∃ (l : Addr) (ws : List Str) (p : Nat) (w : Str), vs = [.ref l, .int p] /\ H l = some (.lst (ws.map V.str)) /\ ws[p]? = some w /\ Q (.str w) H
def cp : Sp := fun vs H Q _ => ∃ (h : Addr) (hs : List Addr) (ds : List HD), vs = [.ref h] /\ H h = some (.tup (hs.map V.ref)) /\ HHands H hs ds /\ ds.length <= 4 /\ ∀ l, H l = none -> Q (.ref l) (upd H l (.lst ((ds.map HD.name).map V.str)))
def zd9 : Sp := fun vs H Q _ => ∃ (p o h : Addr) (hs : List Addr) (outs : List Str) (ds : List HD) (k : Nat) (d : HD) (w : Str), vs = [.ref p, .str d.name, .str w] /\ HHouse H p o h hs outs ds /\ GoodHouse outs ds /\ ds[k]? = some d /\ w ∈ d.words /\ ∀ H' t, Same H H' -> H' t = some (.tup [.str (Str.ofString "says"), .int k, .str w]) -> Q (.ref t) H'
def zbu (ct : Prop) : Sp := fun vs H Q _ => ∃ (p o h : Addr) (hs : List Addr) (outs : List Str) (ds : List HD) (n : Nat) (w : Str), vs = [.ref p, .str (fig n), .str w] /\ ct /\ HHouse H p o h hs outs ds /\ GoodHouse outs ds /\ 1 <= n /\ n <= 4 /\ (∃ d ∈ ds, w ∈ d.words) /\ ∀ H' t, Same H H' -> H' t = some (.tup [.str (Str.ofString "count"), .int n, .str w]) -> Q (.ref t) H'
def zdi (ct : Prop) (dm : Nat) : Sp := fun vs H Q _ => ∃ (p o h l : Addr) (hs : List Addr) (outs : List Str) (ds : List HD) (ws : List Str) (pl : Nat) (c : Cd) (rest : List Str), vs = [.ref p, .ref l, .int pl] /\ HHouse H p o h hs outs ds /\ GoodHouse outs ds /\ H l = some (.lst (ws.map V.str)) /\ ws.drop pl = wd ds c ++ rest /\ okc ct ds c /\ dep c < dm /\
  ∀ H' t x, Same H H' -> H' t = some (.tup [x, .int ((pl + (wd ds c).length : Nat) : Int)]) -> CondAt H' c x -> Q (.ref t) H'
def ci : Sp := fun vs H Q _ => ∃ (p o h l : Addr) (hs : List Addr) (outs : List Str) (ds : List HD) (z : Str), vs = [.ref p, .ref l] /\ HHouse H p o h hs outs ds /\ H l = some (.lst [.str (Str.ofString "deal"), .str z]) /\ z ∈ outs /\ Q (.str z) H
def clW (ds : List HD) (c : Cd × Str) : List Str := Str.ofString "when" :: (wd ds c.1 ++ [Str.ofString "deal", c.2])
def ef (ct : Prop) : Sp := fun vs H Q _ => ∃ (p o h l : Addr) (hs : List Addr) (outs : List Str) (ds : List HD) (c : Cd × Str), vs = [.ref p, .ref l] /\ HHouse H p o h hs outs ds /\ GoodHouse outs ds /\ H l = some (.lst ((clW ds c).map V.str)) /\ okc ct ds c.1 /\ dep c.1 < 40 /\ c.2 ∈ outs /\ (clW ds c).length <= 60 /\
  ∀ H' t x, Same H H' -> H' t = some (.tup [x, .str c.2]) -> CondAt H' c.1 x -> Q (.ref t) H'
structure TextOf (z : Str) (css : List (List Str)) : Prop where
  eq : z = Str.join (Str.ofString "; ") (css.map (Str.join (Str.ofString " ")))
  ne : css ≠ []
  cne : ∀ cs ∈ css, cs ≠ []
  free : ∀ cs ∈ css, ∀ w ∈ cs, 32 ∉ w.cps.toList /\ 59 ∉ w.cps.toList
  few : css.length <= 40
  wide : ∀ cs ∈ css, cs.length <= 60
  len : z.length <= sizeLine
theorem um (y p q : Str) (ps : List Str) : Str.join y (p :: q :: ps) = p ++ y ++ Str.join y (q :: ps) := rfl
theorem dl {y : Str} {c : Nat} (hy : c ∉ y.cps.toList) : ∀ {ps : List Str}, (∀ p ∈ ps, c ∉ p.cps.toList) -> c ∉ (Str.join y ps).cps.toList
  | [], _ => by intro z; cases z
  | [p], h => h p ZA
  | p :: q :: ps, h => by
    rw [um];simp only [Str.cps_append, Yk, ZH, not_or];exact ⟨⟨h p ZA, hy⟩, dl hy fun z hz => h z (Zv _ hz)⟩
theorem kx {y : Str} : ∀ {ps : List Str} {p : Str}, p ∈ ps -> p.length <= (Str.join y ps).length
  | [q], p, h => by rw [ZC.mp h]; exact Zm _
  | q :: r :: ps, p, h => by
    rw [um, Str.length_append, Str.length_append]
    rcases ZK.mp h with e | e
    . rw [e]; omega
    . have := kx (y := y) e
      omega
theorem TextOf.split1 {z : Str} {css : List (List Str)} (T : TextOf z css) : Txt.split z (Str.ofString "; ") = css.map (Str.join (Str.ofString " ")) := by
  rw [T.eq];refine pp (c := 59) (r := [32]) (by decide +kernel) (by decide +kernel) (by simpa using T.ne) fun p hp => ?_
  obtain ⟨cs, hcs, rfl⟩ := Zp.mp hp;exact dl (by decide +kernel) fun w hw => (T.free cs hcs w hw).2
theorem TextOf.split2 {z : Str} {css : List (List Str)} (T : TextOf z css) {cs : List Str} (h : cs ∈ css) : Txt.split (Str.join (Str.ofString " ") cs) (Str.ofString " ") = cs :=
  pp (c := 32) (r := []) (by decide +kernel) (by decide +kernel) (T.cne cs h) fun w hw => (T.free cs h w hw).1
structure WordsAt (H : Hp) (l : Addr) (ls : List Addr) (css : List (List Str)) : Prop where
  at' : H l = some (.lst (ls.map V.ref))
  len : ls.length = css.length
  row : ∀ (i : Nat) (b : Addr) (cs : List Str), ls[i]? = some b -> css[i]? = some cs -> H b = some (.lst (cs.map V.str))
theorem WordsAt.mono {H H' : Hp} {l : Addr} {ls : List Addr} {css : List (List Str)} (S : Same H H') (h : WordsAt H l ls css) : WordsAt H' l ls css := ⟨S _ _ h.at', h.len, fun i b cs e1 e2 => S _ _ (h.row i b cs e1 e2)⟩
def fine (css : List (List Str)) : Prop := css.length <= 20 /\ ∀ cs ∈ css, cs.length <= 40
def j2 (a : Ad) : Sp := fun vs H Q E => ∃ (z : Str) (css : List (List Str)), vs = [.str z] /\ TextOf z css /\ (fine css -> ∀ H' l ls, Same H H' -> WordsAt H' l ls css -> Q (.ref l) H') /\ (¬ fine css -> ∀ H', Same H H' -> E (.ref a.NoRule) none H')
def PvSp (H : Hp) (css : List (List Str)) (i : Nat) (ys : List V) (H' : Hp) : Prop := Same H H' /\ ∃ ls : List Addr, ys = ls.map V.ref /\ ls.length = i /\ ∀ (j : Nat) (b : Addr) (cs : List Str), ls[j]? = some b -> css[j]? = some cs -> H' b = some (.lst (cs.map V.str))
def PvLn (H : Hp) (css : List (List Str)) (i : Nat) (ys : List V) (H' : Hp) : Prop := H' = H /\ ys = ((css.take i).map fun cs => (cs.length : Int)).map V.int
def rlW (ds : List HD) (cls : List (Cd × Str)) (z : Str) : List (List Str) := cls.map (clW ds) ++ [[Str.ofString "deal", z]]
def ii (a : Ad) (ct : Prop) : Sp := fun vs H Q E => ∃ (p o h : Addr) (hs : List Addr) (outs : List Str) (ds : List HD) (t : Str) (cls : List (Cd × Str)) (z : Str), vs = [.ref p, .str t] /\ HHouse H p o h hs outs ds /\ GoodHouse outs ds /\ TextOf t (rlW ds cls z) /\ (∀ c ∈ cls, okc ct ds c.1 /\ dep c.1 < 40 /\ c.2 ∈ outs) /\ z ∈ outs /\
  (fine (rlW ds cls z) -> ∀ (H' : Hp) (l : Addr) (rl : List (Addr × Cd × Str)) (tz : Addr), Same H H' -> H l = none -> H' l = some (.lst ((rl.map fun r => V.ref r.1) ++ [.ref tz])) -> H' tz = some (.tup [.non, .str z]) -> rl.map (fun r => r.2) = cls -> (∀ r ∈ rl, ∃ x, H' r.1 = some (.tup [x, .str r.2.2]) /\ CondAt H' r.2.1 x) -> Q (.ref l) H') /\
  (¬ fine (rlW ds cls z) -> ∀ H', Same H H' -> E (.ref a.NoRule) none H')
def PvRd (H : Hp) (cls : List (Cd × Str)) (i : Nat) (ys : List V) (H' : Hp) : Prop := Same H H' /\ ∃ rl : List (Addr × Cd × Str), ys = rl.map (fun r => V.ref r.1) /\ rl.map (fun r => r.2) = cls.take i /\ ∀ r ∈ rl, ∃ x, H' r.1 = some (.tup [x, .str r.2.2]) /\ CondAt H' r.2.1 x
theorem k6 {xs : List V} {k : Nat} (h : k <= xs.length) : cutV xs (some (k : Int)) none = xs.drop k := by
  unfold cutV;rw [HT.sIx_none, HT.sIx_nat, Xc h];exact ZG (by rw [ZU]; omega)
theorem jc {ws : List Str} {w : Str} (h : w ∈ ws) : inV (V.str w) (ws.map V.str) = true := by
  unfold inV;rw [Yu];exact ⟨V.str w, Zp.mpr ⟨w, h, rfl⟩, decide_eq_true rfl⟩
section
variable {P : Program} {w : World} {K : Fg} {mg : Str -> Option Value} {base : Heap} {a : Ad} {ct : Prop}
theorem zeh (D : zg K mg "name_of" qi ["hand"]) : FnAt P w K mg base "name_of" 1 ["hand"] (wa K 0) := by
  refine FnAt.of D i7 (fun vs H Q E h => ?_) (fun f cdv A outer s H vs Q E hr h => ?_)
  . obtain ⟨t, us, v, rfl, _⟩ := h
    rfl
  . obtain ⟨t, us, v, rfl, ht, e, q⟩ := h
    refine ⟨_, (@zf _ _ _ (@zq _ _ _ _ (@zu _ _ _ _ _ _ _ yb (pv 0) (@zd _ _ _ _) (fun _ _ => rfl)))), ?_⟩;rw [show start ["hand"] [V.ref t] = [some (V.ref t)] from rfl];simp only [zi, zj, ↓reduceIte];exact ⟨_, ht, _, zn (j := 0) e, q⟩
theorem y7 (D : zg K mg "condition_of" vj ["told"]) : FnAt P w K mg base "condition_of" 1 ["told"] (wa K 0) := by
  refine FnAt.of D gm (fun vs H Q E h => ?_) (fun f cdv A outer s H vs Q E hr h => ?_)
  . obtain ⟨t, us, v, rfl, _⟩ := h
    rfl
  . obtain ⟨t, us, v, rfl, ht, e, q⟩ := h
    refine ⟨_, (@zf _ _ _ (@zq _ _ _ _ (@zu _ _ _ _ _ _ _ yb (pv 0) (@zd _ _ _ _) (fun _ _ => rfl)))), ?_⟩;rw [show start ["told"] [V.ref t] = [some (V.ref t)] from rfl];simp only [zi, zj, ↓reduceIte];exact ⟨_, ht, _, zn (j := 0) e, q⟩
theorem we (D : zg K mg "place_of" pj ["told"]) : FnAt P w K mg base "place_of" 1 ["told"] (wa K 1) := by
  refine FnAt.of D zaa (fun vs H Q E h => ?_) (fun f cdv A outer s H vs Q E hr h => ?_)
  . obtain ⟨t, us, v, rfl, _⟩ := h
    rfl
  . obtain ⟨t, us, v, rfl, ht, e, q⟩ := h
    refine ⟨_, (@zf _ _ _ (@zq _ _ _ _ (@zu _ _ _ _ _ _ _ yb (pv 0) (@zd _ _ _ _) (fun _ _ => rfl)))), ?_⟩;rw [show start ["told"] [V.ref t] = [some (V.ref t)] from rfl];simp only [zi, zj, ↓reduceIte];exact ⟨_, ht, _, zn (j := 1) e, q⟩
theorem wo (B : Bt mg) (C : Ct K mg a) (D : zg K mg "word_at" ox ["words", "place"]) : FnAtX P w K mg base "word_at" 1 ["words", "place"] aw := by
  refine FnAtX.of D zcf (fun vs H Q E h => ?_) (fun f cdv A outer s H vs Q E hr h => ?_)
  . obtain ⟨l, ws, p, z, rfl, _⟩ := h
    rfl
  . obtain ⟨l, ws, p, z, rfl, hl, hz, q⟩ := h
    refine ⟨_, (@ze _ _ _ _ _ (@yd _ _ _ _ _ _ _ _ (@z5 _ _ _ _ _ _ _ _ zcr (pv 1) (zy yc rfl B.len yz (za (pv 0) (@zb _))) (z9 _)) (@zf _ _ _ (yv rfl C.q_NoRule.toErr rfl C.m_NoRule (yh rfl) (za (@zm _ _ _ _) (@zb _)))) (@zz _)) (@zf _ _ _ (PS.nox (@zq _ _ _ _ (@zu _ _ _ _ _ _ _ z3 (pv 0) (pv 1) (fun _ _ => rfl)))))), ?_⟩;rw [show start ["words", "place"] [V.ref l, V.int p] = [some (V.ref l), some (V.int p)] from rfl];simp only [zi, zj, ↓reduceIte];have hp := (Zc.mp hz).1;refine ⟨_, .inl (.of hl), ite2 (fun y => ?_) (fun _ => ⟨_, .of hl, _, zn (j := p) (by rw [Ze, hz]; rfl), q⟩)⟩;have := of_decide_eq_true y;rw [Za] at this;omega
theorem zco (wc : FnAt P w K mg base "name_of" 1 ["hand"] (wa K 0)) (D : zg K mg "names_of" uq ["hands"]) : FnAt P w K mg base "names_of" 2 ["hands"] cp := by
  refine FnAt.of D jz (fun vs H Q E h => ?_) (fun f cdv A outer s H vs Q E hr h => ?_)
  . obtain ⟨h, hs, ds, rfl, _⟩ := h
    rfl
  . obtain ⟨h, hs, ds, rfl, hh, hH, g4, q⟩ := h
    refine ⟨_, (@zf _ _ _ (@zq _ _ _ _ (ym ["hand"] ["hands"] rfl (@bt _ _ _ _ (pv 0)) (fun _ => (zx (i := 0) (show (["hand", "hands"] : List Str).Nodup by decide +kernel) rfl (Or.inl rfl))) (fun _ => (@yi _)) (fun _ => (zk wc (hr.mono (by decide)) rfl (za (pv 0) (@zb _)))) rfl (by decide +kernel) rfl rfl))), ?_⟩;rw [show start ["hands"] [V.ref h] = [some (V.ref h)] from rfl];simp only [zi, zj, ↓reduceIte];refine .inr ⟨⟨_, .of hh⟩, fun d2 => ?_⟩;refine j8 (xs := hs.map V.ref) (PvNm H ds) ⟨rfl, rfl⟩ ?_ ?_ ?_
    . rintro i ys H4 hi ⟨rfl, rfl⟩
      refine ⟨?_, .of hh⟩;rw [Za, Za, Zj];exact Zd (ZB _ _) (Zd g4 (by decide))
    . rintro i x ys H4 hx ⟨rfl, rfl⟩
      obtain ⟨y, hy, rfl⟩ := yj hx;have hi : i < ds.length := by have := (Zc.mp hy).1; have := hH.1; omega
      have e2 : ds[i]? = some ds[i] := by simp [hi]
      obtain ⟨wd', g', gs', hK⟩ := hH.2 i y _ hy e2;simp only [zi, zj, ↓reduceIte];refine ⟨y, _, _, rfl, .of hK.tup, rfl, rfl, ?_⟩;rw [Zq, e2, Zn, Zn];rfl
    . rintro ys H4 ⟨rfl, rfl⟩ l hl
      rw [Za, hH.1, Zt];exact q l hl
theorem rz (B : Bt mg) (C : Ct K mg a) (f_hands_of : FnAt P w K mg base "hands_of" 1 ["house"] (wa K 1)) (uz : FnAt P w K mg base "names_of" 2 ["hands"] cp) (yf : FnAt P w K mg base "words_of_hand" 1 ["hand"] (wa K 1)) (D : zg K mg "read_says" r9 ["house", "name", "word"]) : FnAtX P w K mg base "read_says" 3 ["house", "name", "word"] zd9 := by
  refine FnAtX.of D sc_read_says (fun vs H Q E h => ?_) (fun f cdv A outer s H vs Q E hr h => ?_)
  . obtain ⟨p, o, h, hs, outs, ds, k, d, z, rfl, _⟩ := h
    rfl
  . obtain ⟨p, o, h, hs, outs, ds, k, d, z, rfl, hH, G, hk, hz, q⟩ := h
    refine ⟨_, (@ze _ _ _ _ _ (PS.nox (zv (i := 3) sc_read_says.nd rfl (Or.inl rfl) (zk uz (hr.mono (by decide)) rfl (za (zk f_hands_of (hr.mono (by decide)) rfl (za (pv 0) (@zb _))) (@zb _))))) (@ze _ _ _ _ _ (@yd _ _ _ _ _ _ _ _ (@z5 _ _ _ _ _ _ _ _ sk (pv 1) (pv 3) (by with_unfolding_all rfl)) (@zf _ _ _ (yv rfl C.q_NoRule.toErr rfl C.m_NoRule (yh rfl) (za (@zm _ _ _ _) (@zb _)))) (@zz _)) (@ze _ _ _ _ _ (PS.nox (zv (i := 4) sc_read_says.nd rfl (Or.inl rfl) (xa PySem.F.plainAttrs_list PySem.F.slot_list_index PySem.F.type_list_index zd7 (pv 3) (za (pv 1) (@zb _))))) (@ze _ _ _ _ _ (@yd _ _ _ _ _ _ _ _ (@z5 _ _ _ _ _ _ _ _ sk (pv 2) (zk yf (hr.mono (by decide)) rfl (za (@zu _ _ _ _ _ _ _ yb (zk f_hands_of (hr.mono (by decide)) rfl (za (pv 0) (@zb _))) (pv 4) (fun _ _ => rfl)) (@zb _))) (by with_unfolding_all rfl)) (@zf _ _ _ (yv rfl C.q_NoRule.toErr rfl C.m_NoRule (yh rfl) (za (@zm _ _ _ _) (@zb _)))) (@zz _)) (@zf _ _ _ (PS.nox (@zq _ _ _ _ (@y0 _ _ _ _ _ (za (@zm _ _ _ _) (za (pv 4) (za (pv 2) (@zb _)))))))))))), ?_⟩;rw [show start ["house", "name", "word", "names", "k"] [V.ref p, V.str d.name, V.str z] = [some (V.ref p), some (V.str d.name), some (V.str z), none, none] from rfl];simp only [zi, zj, ↓reduceIte];refine ⟨p, _, _, rfl, .of hH.tup, rfl, h, hs, ds, rfl, hH.hands, hH.hand, G.hands.2, fun l hl => ?_⟩;have S1 : Same H (upd H l (.lst ((ds.map HD.name).map V.str))) := Same.upd (Same.refl _) hl;have u1 : upd H l (.lst ((ds.map HD.name).map V.str)) l = some (.lst ((ds.map HD.name).map V.str)) := zc;generalize upd H l (.lst ((ds.map HD.name).map V.str)) = H1 at *;have hin : d.name ∈ ds.map HD.name := Zp.mpr ⟨d, Zi hk, rfl⟩;have hkn : (ds.map HD.name)[k]? = some d.name := by rw [Ze, hk]; rfl
    have hix : (ds.map HD.name).idxOf d.name = k := by
      have h1 := Zz.mpr hin;have hk1 := (Zc.mp hkn).1;have h2 : (ds.map HD.name)[(ds.map HD.name).idxOf d.name] = (ds.map HD.name)[k] := by rw [List.getElem_idxOf, (Zc.mp hkn).2]
      exact (YD G.handsD).mp h2
    have hf := zec hin;rw [hix] at hf;have hH1 := hH.mono S1;have hkl := (Zc.mp hk).1;have hks : k < hs.length := by rw [hH.hand.1]; exact hkl
    obtain ⟨wd', g', gs', hK⟩ := hH1.hand.2 k _ _ (Zb hks) hk;refine ⟨l, rfl, _, .inl (.of u1), rfl, uf _, ?_⟩;rw [jc hin];refine iteF ⟨.inl ⟨rfl, _, .of u1⟩, l, rfl, _, .of u1, _, hf, p, _, _, rfl, .of hH1.tup, rfl, h, rfl, _, .of hH1.hands, _, zn (j := k) (by rw [Ze, Zb hks]; rfl), _, _, _, rfl, .of hK.tup, rfl, wd', rfl, _, .inr (.of hK.words), rfl, uf _, ?_⟩;rw [jc hz];exact iteF ⟨by decide, fun t ht => q _ t (S1.trans (Same.upd (Same.refl _) ht)) zc⟩
theorem yx (B : Bt mg) (C : Ct K mg a) (wo : FnAtX P w K mg base "word_at" 1 ["words", "place"] aw) (rz : FnAtX P w K mg base "read_says" 3 ["house", "name", "word"] zd9) (sh : FnAtX P w K mg base "read_count" 3 ["house", "figure", "word"] (zbu ct)) (y7 : FnAt P w K mg base "condition_of" 1 ["told"] (wa K 0)) (we : FnAt P w K mg base "place_of" 1 ["told"] (wa K 1)) (D : zg K mg "read_condition" wq ["house", "words", "place"]) : ∀ dm, FnAtX P w K mg base "read_condition" (dm + 4) ["house", "words", "place"] (zdi ct dm)
  | 0 => by
    refine FnAtX.of D sc_read_condition (fun vs H Q E h => ?_) (fun f cdv A outer s H vs Q E hr h => ?_)
    . obtain ⟨p, o, h, l, hs, outs, ds, ws, pl, c, rest, rfl, _⟩ := h
      rfl
    . obtain ⟨p, o, h, l, hs, outs, ds, ws, pl, c, rest, rfl, _, _, _, _, _, z, _⟩ := h
      omega
  | dm + 1 => by
    have yx := yx B C wo rz sh y7 we D dm;refine FnAtX.of D sc_read_condition (fun vs H Q E h => ?_) (fun f cdv A outer s H vs Q E hr h => ?_)
    . obtain ⟨p, o, h, l, hs, outs, ds, ws, pl, c, rest, rfl, _⟩ := h
      rfl
    . obtain ⟨p, o, h, l, hs, outs, ds, ws, pl, c, rest, rfl, hH, G, hl, hw, hc, hd, q⟩ := h
      refine ⟨_, (@ze _ _ _ _ _ (zv (i := 3) sc_read_condition.nd rfl (Or.inl rfl) (yq wo (hr.mono (by omega)) (ye rfl) rfl (za (pv 1) (za (pv 2) (@zb _))))) (@ze _ _ _ _ _ (@yd _ _ _ _ _ _ _ _ (@z5 _ _ _ _ _ _ _ _ xt (pv 3) (@zm _ _ _ _) (z9 _)) (@zf _ _ _ (@zq _ _ _ _ (@y0 _ _ _ _ _ (za (yq rz (hr.mono (by omega)) (ye rfl) rfl (za (pv 0) (za (yq wo (hr.mono (by omega)) (ye rfl) rfl (za (pv 1) (za (@zo _ _ _ _ _ _ _ _ yy (pv 2) (@zd _ _ _ _)) (@zb _)))) (za (yq wo (hr.mono (by omega)) (ye rfl) rfl (za (pv 1) (za (@zo _ _ _ _ _ _ _ _ yy (pv 2) (@zd _ _ _ _)) (@zb _)))) (@zb _))))) (za (@zo _ _ _ _ _ _ _ _ yy (pv 2) (@zd _ _ _ _)) (@zb _)))))) (@zz _)) (@ze _ _ _ _ _ (@yd _ _ _ _ _ _ _ _ (@z5 _ _ _ _ _ _ _ _ xt (pv 3) (@zm _ _ _ _) (z9 _)) (@zf _ _ _ (@zq _ _ _ _ (@y0 _ _ _ _ _ (za (yq sh (hr.mono (by omega)) (ye rfl) rfl (za (pv 0) (za (yq wo (hr.mono (by omega)) (ye rfl) rfl (za (pv 1) (za (@zo _ _ _ _ _ _ _ _ yy (pv 2) (@zd _ _ _ _)) (@zb _)))) (za (yq wo (hr.mono (by omega)) (ye rfl) rfl (za (pv 1) (za (@zo _ _ _ _ _ _ _ _ yy (pv 2) (@zd _ _ _ _)) (@zb _)))) (@zb _))))) (za (@zo _ _ _ _ _ _ _ _ yy (pv 2) (@zd _ _ _ _)) (@zb _)))))) (@zz _)) (@ze _ _ _ _ _ (@yd _ _ _ _ _ _ _ _ (@z5 _ _ _ _ _ _ _ _ xt (pv 3) (@zm _ _ _ _) (z9 _)) (@ze _ _ _ _ _ (zv (i := 4) sc_read_condition.nd rfl (Or.inl rfl) (yq yx (hr.mono (by omega)) (ye rfl) rfl (za (pv 0) (za (pv 1) (za (@zo _ _ _ _ _ _ _ _ yy (pv 2) (@zd _ _ _ _)) (@zb _)))))) (@zf _ _ _ (PS.nox (@zq _ _ _ _ (@y0 _ _ _ _ _ (@za _ _ _ _ _ (@y0 _ _ _ _ _ (@za _ _ _ _ _ (@zm _ _ _ _) (@za _ _ _ _ _ (zk y7 (hr.mono (by omega)) rfl (@za _ _ _ _ _ (pv 4) (@zb _) (zp nofun))) (@zb _) (zp nofun)) (zp nofun))) (@za _ _ _ _ _ (zk we (hr.mono (by omega)) rfl (@za _ _ _ _ _ (pv 4) (@zb _) (zp nofun))) (@zb _) (zp nofun)) (zp nofun))))))) (@zz _)) (@ze _ _ _ _ _ (@yd _ _ _ _ _ _ _ _ (PW.pt (@v9 _ _ _ _ _ _ _ (@z5 _ _ _ _ _ _ _ _ xt (pv 3) (@zm _ _ _ _) (z9 _)) (@vd _ _ _ _ (@z5 _ _ _ _ _ _ _ _ xt (pv 3) (@zm _ _ _ _) (z9 _))))) (@ze _ _ _ _ _ (zv (i := 5) sc_read_condition.nd rfl (Or.inl rfl) (yq yx (hr.mono (by omega)) (ye rfl) rfl (za (pv 0) (za (pv 1) (za (@zo _ _ _ _ _ _ _ _ yy (pv 2) (@zd _ _ _ _)) (@zb _)))))) (@ze _ _ _ _ _ (zv (i := 6) sc_read_condition.nd rfl (Or.inl rfl) (yq yx (hr.mono (by omega)) (ye rfl) rfl (za (pv 0) (za (pv 1) (za (zk we (hr.mono (by omega)) rfl (za (pv 5) (@zb _))) (@zb _)))))) (@zf _ _ _ (PS.nox (@zq _ _ _ _ (@y0 _ _ _ _ _ (@za _ _ _ _ _ (@y0 _ _ _ _ _ (@za _ _ _ _ _ (pv 3) (@za _ _ _ _ _ (zk y7 (hr.mono (by omega)) rfl (@za _ _ _ _ _ (pv 5) (@zb _) (zp nofun))) (@za _ _ _ _ _ (zk y7 (hr.mono (by omega)) rfl (@za _ _ _ _ _ (pv 6) (@zb _) (zp nofun))) (@zb _) (zp nofun)) (zp nofun)) (zp nofun))) (@za _ _ _ _ _ (zk we (hr.mono (by omega)) rfl (@za _ _ _ _ _ (pv 6) (@zb _) (zp nofun))) (@zb _) (zp nofun)) (zp nofun)))))))) (@zz _)) (@zf _ _ _ (yv rfl C.q_NoRule.toErr rfl C.m_NoRule (yh rfl) (za (@zm _ _ _ _) (@zb _))))))))), ?_⟩;rw [show start ["house", "words", "place", "kind", "told", "one", "other"] [V.ref p, V.ref l, V.int pl] = [some (V.ref p), some (V.ref l), some (V.int pl), none, none, none, none] from rfl];simp only [zi, zj, ↓reduceIte]
      cases c with
      | says k z =>
        have h0 := xl hw;have hw1 := xx hw;have h1 := xl hw1;have h2 := xl (xx hw1);obtain ⟨d, hk, hz⟩ := hc;have hnm : nmAt ds k = d.name := by rw [nmAt, Zk, Ze, hk]; rfl
        rw [hnm] at h1;refine ⟨l, ws, pl, _, rfl, hl, h0, rfl, ite2 (fun _ => ?_) (fun z => absurd (decide_eq_true rfl) z)⟩;refine ⟨l, ws, pl + 1, _, by simp, hl, h1, l, ws, pl + 2, _, by simp, hl, h2, p, o, h, hs, outs, ds, k, d, z, rfl, hH, G, hk, hz, fun H1 t S1 ht => ⟨by decide, fun t2 ht2 => ?_⟩⟩;have S2 : Same H1 (upd H1 t2 (.tup [V.ref t, V.int (pl + 3)])) := Same.upd (Same.refl _) ht2;exact q _ t2 (.ref t) (S1.trans S2) (by rw [zc]; rfl) ⟨t, rfl, S2 _ _ ht⟩
      | count n z =>
        have h0 := xl hw;have hw1 := xx hw;have h1 := xl hw1;have h2 := xl (xx hw1);obtain ⟨hct, n1, n4, hz⟩ := hc;refine ⟨l, ws, pl, _, rfl, hl, h0, rfl, ite2 (fun z => absurd (of_decide_eq_true z) (by simp; decide)) (fun _ => ⟨rfl, ite2 (fun _ => ?_) (fun z => absurd (decide_eq_true rfl) z)⟩)⟩;refine ⟨l, ws, pl + 1, _, by simp, hl, h1, l, ws, pl + 2, _, by simp, hl, h2, p, o, h, hs, outs, ds, n, z, rfl, hct, hH, G, n1, n4, hz, fun H1 t S1 ht => ⟨by decide, fun t2 ht2 => ?_⟩⟩;have S2 : Same H1 (upd H1 t2 (.tup [V.ref t, V.int (pl + 3)])) := Same.upd (Same.refl _) ht2;exact q _ t2 (.ref t) (S1.trans S2) (by rw [zc]; rfl) ⟨t, rfl, S2 _ _ ht⟩
      | no c =>
        have h0 := xl hw;have hw1 := xx hw;have hd' : dep c + 1 < dm + 1 := hd;refine ⟨l, ws, pl, _, rfl, hl, h0, rfl, ite2 (fun z => absurd (of_decide_eq_true z) (by simp; decide)) (fun _ => ⟨rfl, ite2 (fun z => absurd (of_decide_eq_true z) (by simp; decide)) (fun _ => ⟨rfl, ite2 (fun _ => ?_) (fun z => absurd (decide_eq_true rfl) z)⟩)⟩)⟩;refine ⟨p, o, h, l, hs, outs, ds, ws, pl + 1, c, rest, by simp, hH, G, hl, hw1, hc, by omega, fun H1 t x S1 ht hx => ?_⟩;refine ⟨t, _, _, rfl, .of ht, rfl, by decide, fun t2 ht2 => ?_⟩;have S2 : Same H1 (upd H1 t2 (.tup [V.str (Str.ofString "not"), x])) := Same.upd (Same.refl _) ht2;have u2 : upd H1 t2 (.tup [V.str (Str.ofString "not"), x]) t2 = some (.tup [V.str (Str.ofString "not"), x]) := zc;generalize upd H1 t2 (.tup [V.str (Str.ofString "not"), x]) = H2 at *;refine ⟨t, _, _, rfl, .of (S2 _ _ ht), rfl, by decide, fun t3 ht3 => ?_⟩;have S3 : Same H2 (upd H2 t3 (.tup [V.ref t2, V.int ((pl + 1 + (wd ds c).length : Nat) : Int)])) := Same.upd (Same.refl _) ht3;exact q _ t3 (.ref t2) (S1.trans (S2.trans S3)) (by rw [zc, wd, ZL, Nat.add_assoc, Nat.add_comm 1]) ⟨t2, x, rfl, S3 _ _ u2, hx.mono (S2.trans S3)⟩
      | an c c2 =>
        have h0 := xl hw;have hw1 := xx hw;have hd' : max (dep c) (dep c2) + 1 < dm + 1 := hd;have hw1' : ws.drop (pl + 1) = wd ds c ++ (wd ds c2 ++ rest) := by rw [hw1]; exact ZN _ _ _
        have hw2 : ws.drop (pl + 1 + (wd ds c).length) = wd ds c2 ++ rest := by rw [<- Yr, hw1', Yh]
        refine ⟨l, ws, pl, _, rfl, hl, h0, rfl, ite2 (fun z => absurd (of_decide_eq_true z) (by simp; decide)) (fun _ => ⟨rfl, ite2 (fun z => absurd (of_decide_eq_true z) (by simp; decide)) (fun _ => ⟨rfl, ite2 (fun z => absurd (of_decide_eq_true z) (by simp; decide)) (fun _ => ⟨rfl, ite2 (fun _ => ?_) (fun z => absurd (decide_eq_true rfl) z)⟩)⟩)⟩)⟩;refine ⟨p, o, h, l, hs, outs, ds, ws, pl + 1, c, _, by simp, hH, G, hl, hw1', hc.1, by omega, fun H1 t x S1 ht hx => ?_⟩;refine ⟨t, _, _, rfl, .of ht, rfl, p, o, h, l, hs, outs, ds, ws, pl + 1 + (wd ds c).length, c2, rest, rfl, hH.mono S1, G, S1 _ _ hl, hw2, hc.2, by omega, fun H2 t2 x2 S2 ht2 hx2 => ?_⟩;refine ⟨t, _, _, rfl, .of (S2 _ _ ht), rfl, t2, _, _, rfl, .of ht2, rfl, by decide, fun t3 ht3 => ?_⟩;have S3 : Same H2 (upd H2 t3 (.tup [V.str (Str.ofString "and"), x, x2])) := Same.upd (Same.refl _) ht3;have u3 : upd H2 t3 (.tup [V.str (Str.ofString "and"), x, x2]) t3 = some (.tup [V.str (Str.ofString "and"), x, x2]) := zc;generalize upd H2 t3 (.tup [V.str (Str.ofString "and"), x, x2]) = H3 at *;refine ⟨t2, _, _, rfl, .of (S3 _ _ ht2), rfl, by decide, fun t4 ht4 => ?_⟩;have S4 : Same H3 (upd H3 t4 (.tup [V.ref t3, V.int ((pl + 1 + (wd ds c).length + (wd ds c2).length : Nat) : Int)])) := Same.upd (Same.refl _) ht4;exact q _ t4 (.ref t3) (S1.trans (S2.trans (S3.trans S4))) (by rw [zc, wd, ZL, Zo]; congr 5; omega) ⟨t3, x, x2, rfl, S4 _ _ u3, hx.mono (S2.trans (S3.trans S4)), hx2.mono (S3.trans S4)⟩
      | orr c c2 =>
        have h0 := xl hw;have hw1 := xx hw;have hd' : max (dep c) (dep c2) + 1 < dm + 1 := hd;have hw1' : ws.drop (pl + 1) = wd ds c ++ (wd ds c2 ++ rest) := by rw [hw1]; exact ZN _ _ _
        have hw2 : ws.drop (pl + 1 + (wd ds c).length) = wd ds c2 ++ rest := by rw [<- Yr, hw1', Yh]
        refine ⟨l, ws, pl, _, rfl, hl, h0, rfl, ite2 (fun z => absurd (of_decide_eq_true z) (by simp; decide)) (fun _ => ⟨rfl, ite2 (fun z => absurd (of_decide_eq_true z) (by simp; decide)) (fun _ => ⟨rfl, ite2 (fun z => absurd (of_decide_eq_true z) (by simp; decide)) (fun _ => ⟨rfl, ite2 (fun z => absurd (of_decide_eq_true z) (by simp; decide)) (fun _ => ⟨rfl, ite2 (fun _ => ?_) (fun z => absurd (decide_eq_true rfl) z)⟩)⟩)⟩)⟩)⟩;refine ⟨p, o, h, l, hs, outs, ds, ws, pl + 1, c, _, by simp, hH, G, hl, hw1', hc.1, by omega, fun H1 t x S1 ht hx => ?_⟩;refine ⟨t, _, _, rfl, .of ht, rfl, p, o, h, l, hs, outs, ds, ws, pl + 1 + (wd ds c).length, c2, rest, rfl, hH.mono S1, G, S1 _ _ hl, hw2, hc.2, by omega, fun H2 t2 x2 S2 ht2 hx2 => ?_⟩;refine ⟨t, _, _, rfl, .of (S2 _ _ ht), rfl, t2, _, _, rfl, .of ht2, rfl, by decide, fun t3 ht3 => ?_⟩;have S3 : Same H2 (upd H2 t3 (.tup [V.str (Str.ofString "or"), x, x2])) := Same.upd (Same.refl _) ht3;have u3 : upd H2 t3 (.tup [V.str (Str.ofString "or"), x, x2]) t3 = some (.tup [V.str (Str.ofString "or"), x, x2]) := zc;generalize upd H2 t3 (.tup [V.str (Str.ofString "or"), x, x2]) = H3 at *;refine ⟨t2, _, _, rfl, .of (S3 _ _ ht2), rfl, by decide, fun t4 ht4 => ?_⟩;have S4 : Same H3 (upd H3 t4 (.tup [V.ref t3, V.int ((pl + 1 + (wd ds c).length + (wd ds c2).length : Nat) : Int)])) := Same.upd (Same.refl _) ht4;exact q _ t4 (.ref t3) (S1.trans (S2.trans (S3.trans S4))) (by rw [zc, wd, ZL, Zo]; congr 5; omega) ⟨t3, x, x2, rfl, S4 _ _ u3, hx.mono (S2.trans (S3.trans S4)), hx2.mono (S3.trans S4)⟩
theorem vt (B : Bt mg) (C : Ct K mg a) (f_outcomes_of : FnAt P w K mg base "outcomes_of" 1 ["house"] (wa K 0)) (D : zg K mg "read_deal" rg ["house", "words"]) : FnAtX P w K mg base "read_deal" 2 ["house", "words"] ci := by
  refine FnAtX.of D am (fun vs H Q E h => ?_) (fun f cdv A outer s H vs Q E hr h => ?_)
  . obtain ⟨p, o, h, l, hs, outs, ds, z, rfl, _⟩ := h
    rfl
  . obtain ⟨p, o, h, l, hs, outs, ds, z, rfl, hH, hl, hz, q⟩ := h
    refine ⟨_, (@ze _ _ _ _ _ (@yd _ _ _ _ _ _ _ _ (PW.pt (@v9 _ _ _ _ _ _ _ (@z5 _ _ _ _ _ _ _ _ vx (zy yc rfl B.len yz (za (pv 1) (@zb _))) (@zd _ _ _ _) (z9 _)) (@v9 _ _ _ _ _ _ _ (@z5 _ _ _ _ _ _ _ _ vx (@zu _ _ _ _ _ _ _ z3 (pv 1) (@zd _ _ _ _) (fun _ _ => rfl)) (@zm _ _ _ _) (z9 _)) (@vd _ _ _ _ (@z5 _ _ _ _ _ _ _ _ sk (@zu _ _ _ _ _ _ _ z3 (pv 1) (@zd _ _ _ _) (fun _ _ => rfl)) (zk f_outcomes_of (hr.mono (by decide)) rfl (za (pv 0) (@zb _))) (by with_unfolding_all rfl)))))) (@zf _ _ _ (yv rfl C.q_NoRule.toErr rfl C.m_NoRule (yh rfl) (za (@zm _ _ _ _) (@zb _)))) (@zz _)) (@zf _ _ _ (PS.nox (@zq _ _ _ _ (@zu _ _ _ _ _ _ _ z3 (pv 1) (@zd _ _ _ _) (fun _ _ => rfl)))))), ?_⟩;rw [show start ["house", "words"] [V.ref p, V.ref l] = [some (V.ref p), some (V.ref l)] from rfl];simp only [zi, zj, ↓reduceIte];refine ⟨_, .inl (.of hl), rfl, ite2 (fun z => absurd z (by simp)) (fun _ => ⟨_, .of hl, _, zn (j := 0) rfl, rfl, ite2 (fun z => absurd z (by simp)) (fun _ => ⟨_, .of hl, _, zn (j := 1) rfl, p, _, _, rfl, .of hH.tup, rfl, o, rfl, _, .inr (.of hH.outs), rfl, uf _, ?_⟩)⟩)⟩;rw [jc hz];exact iteF ⟨_, .of hl, _, zn (j := 1) rfl, q⟩
theorem qq (B : Bt mg) (C : Ct K mg a) (yx : FnAtX P w K mg base "read_condition" 44 ["house", "words", "place"] (zdi ct 40)) (y7 : FnAt P w K mg base "condition_of" 1 ["told"] (wa K 0)) (we : FnAt P w K mg base "place_of" 1 ["told"] (wa K 1)) (vt : FnAtX P w K mg base "read_deal" 2 ["house", "words"] ci) (D : zg K mg "read_clause" v5 ["house", "words"]) : FnAtX P w K mg base "read_clause" 45 ["house", "words"] (ef ct) := by
  refine FnAtX.of D sc_read_clause (fun vs H Q E h => ?_) (fun f cdv A outer s H vs Q E hr h => ?_)
  . obtain ⟨p, o, h, l, hs, outs, ds, c, rfl, _⟩ := h
    rfl
  . obtain ⟨p, o, h, l, hs, outs, ds, c, rfl, hH, G, hl, hc, hd, ho, h60, q⟩ := h
    refine ⟨_, (@ze _ _ _ _ _ (@yd _ _ _ _ _ _ _ _ (@z5 _ _ _ _ _ _ _ _ vx (@zu _ _ _ _ _ _ _ z3 (pv 1) (@zd _ _ _ _) (fun _ _ => rfl)) (@zm _ _ _ _) (z9 _)) (@zf _ _ _ (yv rfl C.q_NoRule.toErr rfl C.m_NoRule (yh rfl) (za (@zm _ _ _ _) (@zb _)))) (@zz _)) (@ze _ _ _ _ _ (zv (i := 2) sc_read_clause.nd rfl (Or.inl rfl) (yq yx (hr.mono (by decide)) (ye rfl) rfl (za (pv 0) (za (pv 1) (za (@zd _ _ _ _) (@zb _)))))) (@zf _ _ _ (@zq _ _ _ _ (@y0 _ _ _ _ _ (za (zk y7 (hr.mono (by decide)) rfl (za (pv 2) (@zb _))) (za (yq vt (hr.mono (by decide)) (ye rfl) rfl (za (pv 0) (za (@rc _ _ _ _ _ _ _ _ _ _ ml (pv 1) (@px _ _ _ (zk we (hr.mono (by decide)) rfl (za (pv 2) (@zb _)))) (@pz _)) (@zb _)))) (@zb _)))))))), ?_⟩;rw [show start ["house", "words", "told"] [V.ref p, V.ref l] = [some (V.ref p), some (V.ref l), none] from rfl];simp only [zi, zj, ↓reduceIte];refine ⟨_, .of hl, _, zn (j := 0) rfl, rfl, ite2 (fun z => absurd z (by simp)) (fun _ => ?_)⟩;refine ⟨p, o, h, l, hs, outs, ds, clW ds c, 1, c.1, [Str.ofString "deal", c.2], rfl, hH, G, hl, rfl, hc, hd, fun H1 t x S1 ht hx => ?_⟩;refine ⟨t, _, _, rfl, .of ht, rfl, t, _, _, rfl, .of ht, rfl, ?_⟩;have hcl : (clW ds c).length = 1 + (wd ds c.1).length + 2 := by rw [clW, ZL, Zo]; show _ + 2 + 1 = _; omega
    have hcut : cutV ((clW ds c).map V.str) (some ((1 + (wd ds c.1).length : Nat) : Int)) none = [V.str (Str.ofString "deal"), V.str c.2] := by
      rw [k6 (by rw [Za]; omega), <- List.map_drop];have : (clW ds c).drop (1 + (wd ds c.1).length) = [Str.ofString "deal", c.2] := by rw [clW, Nat.add_comm, List.drop_succ_cons, Yh]
      rw [this];rfl
    refine ⟨_, rfl, _, .of (S1 _ _ hl), fun l2 hl2 => ?_⟩;rw [hcut];have S2 : Same H1 (upd H1 l2 (.lst [V.str (Str.ofString "deal"), V.str c.2])) := Same.upd (Same.refl _) hl2;have u2 : upd H1 l2 (.lst [V.str (Str.ofString "deal"), V.str c.2]) l2 = some (.lst [V.str (Str.ofString "deal"), V.str c.2]) := zc;generalize upd H1 l2 (.lst [V.str (Str.ofString "deal"), V.str c.2]) = H2 at *;refine ⟨p, o, h, l2, hs, outs, ds, c.2, rfl, hH.mono (S1.trans S2), u2, ho, by decide, fun t2 ht2 => ?_⟩;have S3 : Same H2 (upd H2 t2 (.tup [x, V.str c.2])) := Same.upd (Same.refl _) ht2;exact q _ t2 x (S1.trans (S2.trans S3)) zc (hx.mono (S2.trans S3))
theorem oj (B : Bt mg) (C : Ct K mg a) (D : zg K mg "clauses_in" si ["text"]) : FnAtX P w K mg base "clauses_in" 1 ["text"] (j2 a) := by
  refine FnAtX.of D sc_clauses_in (fun vs H Q E h => ?_) (fun f cdv A outer s H vs Q E hr h => ?_)
  . obtain ⟨z, css, rfl, _⟩ := h
    rfl
  . obtain ⟨z, css, rfl, T, q0, q1⟩ := h
    refine ⟨_, (@ze _ _ _ _ _ (PS.nox (fm (i := 1) ["clause"] ["text", "clauses"] sc_clauses_in.nd rfl rfl rfl (@yg _ _ _ _ (xa PySem.F.plainAttrs_str PySem.F.slot_str_split PySem.F.type_str_split ud (pv 0) (za (@zm _ _ _ _) (@zb _)))) (fun _ => (zx (i := 0) (show (["clause", "text", "clauses"] : List Str).Nodup by decide +kernel) rfl (Or.inl rfl))) (fun _ => (@yi _)) (fun _ => (xa PySem.F.plainAttrs_str PySem.F.slot_str_split PySem.F.type_str_split ud (pv 0) (za (@zm _ _ _ _) (@zb _)))) rfl (by decide +kernel) rfl rfl rfl)) (@ze _ _ _ _ _ (@yd _ _ _ _ _ _ _ _ (PW.pt (@v9 _ _ _ _ _ _ _ (@z5 _ _ _ _ _ _ _ _ op_gt (zy yc rfl B.len yz (za (pv 1) (@zb _))) (ve rfl B.k_MOST_CLAUSES) (z9 _)) (@vd _ _ _ _ (@z5 _ _ _ _ _ _ _ _ op_gt (zy (zdc rfl) rfl B.max bt_max (za (ym ["words"] ["text", "clauses"] rfl (@yg _ _ _ _ (pv 1)) (fun _ => (zx (i := 0) (show (["words", "text", "clauses"] : List Str).Nodup by decide +kernel) rfl (Or.inl rfl))) (fun _ => (@yi _)) (fun _ => (zy yc rfl B.len yz (za (pv 0) (@zb _)))) rfl (by decide +kernel) rfl rfl) (@zb _))) (ve rfl B.k_MOST_CLAUSE_WORDS) (z9 _))))) (@zf _ _ _ (yv rfl C.q_NoRule.toErr rfl C.m_NoRule (yh rfl) (za (@zm _ _ _ _) (@zb _)))) (@zz _)) (@zf _ _ _ (PS.nox (@zq _ _ _ _ (pv 1)))))), ?_⟩;rw [show start ["text", "clauses"] [V.str z] = [some (V.str z), none] from rfl];simp only [zi, zj, ↓reduceIte];rw [T.split1];refine ⟨rfl, by decide +kernel, T.len, ?_, fun l hl => ?_⟩
    . rw [Za]
      exact Zd T.few (by decide)
    have S1 : Same H (upd H l (.lst ((css.map (Str.join (Str.ofString " "))).map V.str))) := Same.upd (Same.refl _) hl;have u1 : upd H l (.lst ((css.map (Str.join (Str.ofString " "))).map V.str)) l = some (.lst ((css.map (Str.join (Str.ofString " "))).map V.str)) := zc;generalize upd H l (.lst ((css.map (Str.join (Str.ofString " "))).map V.str)) = H1 at *;have hfew := T.few;refine ⟨⟨_, .of u1⟩, fun d => ?_⟩;refine yk (xs := (css.map (Str.join (Str.ofString " "))).map V.str) (PvSp H1 css) ⟨Same.refl _, [], rfl, rfl, fun j b cs e => by simp at e⟩ ?_ ?_ ?_
    . rintro i ys H2 hi ⟨S2, ls, rfl, li, hls⟩
      rw [Za, Za] at hi;exact ⟨by rw [Za, li]; exact Zd (show i <= 40 by omega) (by decide), .of (S2 _ _ u1)⟩
    . rintro i x ys H2 hx ⟨S2, ls, rfl, li, hls⟩
      rw [Ze, Ze] at hx
      obtain ⟨cs, hcs⟩ : ∃ y, css[i]? = some y := by
        cases e : css[i]? with
        | none => rw [e] at hx; cases hx
        | some y => exact ⟨y, rfl⟩
      rw [hcs] at hx;cases hx;have hm := Zi hcs
      have hlen : (Str.join (Str.ofString " ") cs).length <= sizeLine := by
        refine Zd (Zd ?_ (YG (congrArg Str.length T.eq).symm)) T.len;exact kx (Zp.mpr ⟨cs, hm, rfl⟩)
      have hwide := T.wide cs hm;simp only [zi, zj, ↓reduceIte];rw [T.split2 hm];refine ⟨rfl, by decide +kernel, hlen, Zd hwide (by decide), fun b hb => ?_⟩;have S3 : Same H2 (upd H2 b (.lst (cs.map V.str))) := Same.upd (Same.refl _) hb;refine ⟨S2.trans S3, ls ++ [b], by simp, by simp [li], fun j b' cs' e1 e2 => ?_⟩
      by_cases hj : j < ls.length
      . rw [Zg hj] at e1
        exact S3 _ _ (hls j b' cs' e1 e2)
      . rw [Zf (ZD.mp hj)] at e1
        have h0 : j - ls.length = 0 := by
          have := (Zc.mp e1).1;simp at this;omega
        rw [h0] at e1;simp at e1;have : j = i := by omega
        subst this;rw [hcs] at e2;cases e2;rw [<- e1];exact zc
    . rintro ys H2 ⟨S2, ls, rfl, li, hls⟩ l2 hl2
      rw [Za, Za] at li;have S3 : Same H2 (upd H2 l2 (.lst (ls.map V.ref))) := Same.upd (Same.refl _) hl2;have u3 : upd H2 l2 (.lst (ls.map V.ref)) l2 = some (.lst (ls.map V.ref)) := zc;generalize upd H2 l2 (.lst (ls.map V.ref)) = H3 at *;have hW : WordsAt H3 l2 ls css := ⟨u3, li, fun i b cs e1 e2 => S3 _ _ (hls i b cs e1 e2)⟩;have S03 := S1.trans (S2.trans S3);refine ⟨_, .inl (.of u3), ?_⟩;rw [Za, li];refine ite2 (fun y => ⟨by decide, q1 (fun z => ?_) _ S03⟩) (fun y => ?_)
      . have := of_decide_eq_true y
        have := z.1;omega
      have h20 : css.length <= 20 := by
        have : ¬ (20 : Int) < css.length := fun z => y (decide_eq_true z)
        omega
      refine ⟨⟨_, .of u3⟩, fun d2 => ?_⟩;refine yk (xs := ls.map V.ref) (PvLn H3 css) ⟨rfl, rfl⟩ ?_ ?_ ?_
      . rintro i ys H4 hi ⟨rfl, rfl⟩
        refine ⟨?_, .of u3⟩;rw [Za, Za, Zj];exact Zd (show _ <= 40 by omega) (by decide)
      . rintro i x ys H4 hx ⟨rfl, rfl⟩
        obtain ⟨b, hb, rfl⟩ := yj hx;have hi : i < css.length := by have := (Zc.mp hb).1; omega
        have ec : css[i]? = some css[i] := Zb hi;simp only [zi, zj, ↓reduceIte];refine ⟨_, .inl (.of (hW.row i b _ hb ec)), rfl, ?_⟩;rw [Zq, ec, Za, Zn, Zn];rfl
      . rintro ys H4 ⟨rfl, rfl⟩ l3 hl3
        rw [Za, li, Zt];have S4 : Same H4 (upd H4 l3 (.lst ((css.map fun cs => (cs.length : Int)).map V.int))) := Same.upd (Same.refl _) hl3;refine ⟨_, .of zc, ?_, fun m hm1 hm2 => ite2 (fun y2 => ⟨by decide, q1 (fun z => ?_) _ (S03.trans S4)⟩) (fun y2 => q0 ⟨h20, fun cs hcs => ?_⟩ _ l2 ls (S03.trans S4) (hW.mono S4))⟩
        . rw [Za]
          exact List.length_pos_iff.mpr T.ne
        . obtain ⟨cs, hcs, rfl⟩ := Zp.mp hm1
          have := z.2 cs hcs;have := of_decide_eq_true y2;omega
        . have := hm2 _ (Zp.mpr ⟨cs, hcs, rfl⟩)
          have : ¬ (40 : Int) < m := fun z => y2 (decide_eq_true z)
          omega
theorem n0 (B : Bt mg) (C : Ct K mg a) (oj : FnAtX P w K mg base "clauses_in" 1 ["text"] (j2 a)) (qq : FnAtX P w K mg base "read_clause" 45 ["house", "words"] (ef ct)) (vt : FnAtX P w K mg base "read_deal" 2 ["house", "words"] ci) (D : zg K mg "read_rule" qd ["house", "text"]) : FnAtX P w K mg base "read_rule" 46 ["house", "text"] (ii a ct) := by
  refine FnAtX.of D sc_read_rule (fun vs H Q E h => ?_) (fun f cdv A outer s H vs Q E hr h => ?_)
  . obtain ⟨p, o, h, hs, outs, ds, t, cls, z, rfl, _⟩ := h
    rfl
  . obtain ⟨p, o, h, hs, outs, ds, t, cls, z, rfl, hH, G, T, hc, hz, q0, q1⟩ := h
    refine ⟨_, (@ze _ _ _ _ _ (@yd _ _ _ _ _ _ _ _ (@xn _ _ _ _ (xg (zy y4 rfl B.isinstance yu (za (pv 1) (za (se rfl B.str on) (@zb _)))))) (@zf _ _ _ (yv rfl C.q_NoRule.toErr rfl C.m_NoRule (yh rfl) (za (@zm _ _ _ _) (@zb _)))) (@zz _)) (@ze _ _ _ _ _ (zv (i := 2) sc_read_rule.nd rfl (Or.inl rfl) (yq oj (hr.mono (by decide)) (ye rfl) rfl (za (pv 1) (@zb _)))) (@ze _ _ _ _ _ (ze5 (i := 3) rfl ["words"] ["house", "text", "clauses", "rule"] sc_read_rule.nd rfl rfl rfl (@yg _ _ _ _ (@rc _ _ _ _ _ _ _ _ _ _ ml (pv 2) (@pz _) (@px _ _ _ (@pe_un _ _ _ _ _ _ zd2 (@zd _ _ _ _))))) (fun _ => (zx (i := 0) (show (["words", "house", "text", "clauses", "rule"] : List Str).Nodup by decide +kernel) rfl (Or.inl rfl))) (fun _ => (@yi _)) (fun _ _ => (yq qq (hr.mono (by decide)) zeg rfl (za (pv 1) (za (pv 0) (@zb _))))) rfl (by decide +kernel) rfl rfl rfl) (@zf _ _ _ (@zq _ _ _ _ (@zo _ _ _ _ _ _ _ _ kt (pv 3) (@y3 _ _ _ _ (@za _ _ _ _ _ (@y0 _ _ _ _ _ (@za _ _ _ _ _ (@qf _ _ _) (@za _ _ _ _ _ (yq vt (hr.mono (by decide)) (ye rfl) rfl (@za _ _ _ _ _ (pv 0) (@za _ _ _ _ _ (@zu _ _ _ _ _ _ _ z3 (pv 2) (@pe_un _ _ _ _ _ _ zd2 (@zd _ _ _ _)) (fun _ _ => rfl)) (@zb _) (zp nofun)) (zp nofun))) (@zb _) (zp nofun)) (zp nofun))) (@zb _) (zp nofun))))))))), ?_⟩;rw [show start ["house", "text", "clauses", "rule"] [V.ref p, V.str t] = [some (V.ref p), some (V.str t), none, none] from rfl];simp only [zi, zj, ↓reduceIte];refine ⟨_, .str _, true, jm, iteF ⟨t, rlW ds cls z, rfl, T, fun hf H1 l ls S1 hW => ?_, fun hnf H1 S1 => q1 hnf H1 S1⟩⟩;have hn : ls.length = cls.length + 1 := by rw [hW.len, rlW, Zo, Za]; rfl
    refine ⟨l, rfl, _, .of hW.at', fun p1 hp1 => ?_⟩
    have hcut : cutV (ls.map V.ref) none (some (-1)) = (ls.take cls.length).map V.ref := by
      have := ze6 (xs := ls.map V.ref) (k := 1) (by decide) (by rw [Za]; omega);rw [Za, <- List.map_take, hn, Nat.add_sub_cancel] at this;exact this
    rw [hcut];have S2 : Same H1 (upd H1 p1 (.lst ((ls.take cls.length).map V.ref))) := Same.upd (Same.refl _) hp1;have u2 : upd H1 p1 (.lst ((ls.take cls.length).map V.ref)) p1 = some (.lst ((ls.take cls.length).map V.ref)) := zc;generalize upd H1 p1 (.lst ((ls.take cls.length).map V.ref)) = H2 at *;have S12 := S1.trans S2;have hW2 := hW.mono S2;have hfew := T.few;have hcl : (rlW ds cls z).length = cls.length + 1 := by rw [rlW, Zo, Za]; rfl
    refine ⟨⟨_, .of u2⟩, fun d => ?_⟩;refine yk (xs := (ls.take cls.length).map V.ref) (PvRd H2 cls) ⟨Same.refl _, [], rfl, rfl, fun _ z => nomatch z⟩ ?_ ?_ ?_
    . rintro i ys H3 hi ⟨S3, rl, rfl, hrl, hx⟩
      refine ⟨?_, .of (S3 _ _ u2)⟩;have := congrArg List.length hrl;rw [Za, Zj] at this;rw [Za, this];exact Zd (show _ <= 40 by omega) (by decide)
    . rintro i x ys H3 hx ⟨S3, rl, rfl, hrl, hR⟩
      obtain ⟨b, hb, rfl⟩ := yj hx
      have hi : i < cls.length := by
        have := (Zc.mp hb).1;rw [Zj] at this;omega
      rw [Yi hi] at hb;have ec : cls[i]? = some cls[i] := Zb hi;have er : (rlW ds cls z)[i]? = some (clW ds cls[i]) := by rw [rlW, Zg (by rw [Za]; exact hi), Ze, ec]; rfl
      have hcm := hc _ (Zl hi);have hwd := T.wide _ (Zi er);simp only [zi, zj, ↓reduceIte];refine ⟨p, o, h, b, hs, outs, ds, cls[i], rfl, hH.mono (S12.trans S3), G, (hW2.mono S3).row i b _ hb er, hcm.1, hcm.2.1, hcm.2.2, hwd, fun H4 t4 x4 S4 ht4 hx4 => ?_⟩;refine ⟨S3.trans S4, rl ++ [(t4, cls[i])], by simp, by rw [Zn, hrl, Zq, ec]; rfl, fun r hr' => ?_⟩
      rcases ZH.mp hr' with e | e
      . obtain ⟨x5, h5, h6⟩ := hR r e
        exact ⟨x5, S4 _ _ h5, h6.mono S4⟩
      . rw [ZC.mp e]
        exact ⟨x4, ht4, hx4⟩
    . rintro ys H3 ⟨S3, rl, rfl, hrl, hR⟩ ru hru
      rw [Za, Zj, Xc (by omega), Zt] at hrl;have S4 : Same H3 (upd H3 ru (.lst (rl.map fun r => V.ref r.1))) := Same.upd (Same.refl _) hru;have u4 : upd H3 ru (.lst (rl.map fun r => V.ref r.1)) ru = some (.lst (rl.map fun r => V.ref r.1)) := zc;generalize upd H3 ru (.lst (rl.map fun r => V.ref r.1)) = H4 at *;have hW4 := hW2.mono (S3.trans S4);have hll : ls.length - 1 < ls.length := by omega
      have el : ls[ls.length - 1]? = some ls[ls.length - 1] := Zb hll
      have er : (rlW ds cls z)[ls.length - 1]? = some [Str.ofString "deal", z] := by
        rw [rlW, hn, Nat.add_sub_cancel, Zf (by rw [Za]; exact Zm _), Za, YZ];rfl
      have hb := hW4.row _ _ _ el er;have aL : atI (ls.map V.ref) (-1) = some (V.ref ls[ls.length - 1]) := zg0 (k := 1) (by decide) (by rw [Za]; omega) (by rw [Za, Ze, el]; rfl);generalize ls[ls.length - 1] = bl at *;have S14 := S12.trans (S3.trans S4);have lrl : rl.length = cls.length := by have := congrArg List.length hrl; rwa [Za] at this
      refine ⟨l, rfl, _, .of hW4.at', _, aL, p, o, h, bl, hs, outs, ds, z, rfl, hH.mono S14, hb, hz, by decide, fun tz htz => ?_⟩;have S5 : Same H4 (upd H4 tz (.tup [V.non, V.str z])) := Same.upd (Same.refl _) htz;have u5 : upd H4 tz (.tup [V.non, V.str z]) tz = some (.tup [V.non, V.str z]) := zc;generalize upd H4 tz (.tup [V.non, V.str z]) = H5 at *;refine ⟨by decide, fun lz hlz => ?_⟩;have S6 : Same H5 (upd H5 lz (.lst [V.ref tz])) := Same.upd (Same.refl _) hlz;have u6 : upd H5 lz (.lst [V.ref tz]) lz = some (.lst [V.ref tz]) := zc;generalize upd H5 lz (.lst [V.ref tz]) = H6 at *;refine ⟨_, (S5.trans S6) _ _ u4, _, u6, ?_, fun r hr' => ?_⟩
      . rw [Za, lrl]
        exact Zd (show cls.length + 1 <= 100 by omega) (by decide)
      have S7 : Same H6 (upd H6 r (.lst ((rl.map fun r => V.ref r.1) ++ [V.ref tz]))) := Same.upd (Same.refl _) hr';refine q0 hf _ r rl tz (S14.trans (S5.trans (S6.trans S7))) ((S14.trans (S5.trans S6)).free hr') zc ((S6.trans S7) _ _ u5) hrl fun c hc' => ?_
      obtain ⟨x5, h5, h6⟩ := hR c hc';have S37 := S4.trans (S5.trans (S6.trans S7));exact ⟨x5, S37 _ _ h5, h6.mono S37⟩
end
section
variable {P : Program} {w : World} {K : Fg} {mg : Str -> Option Value} {base : Heap} {a : Ad}
theorem zho {n : Nat} (h1 : 1 <= n) (h4 : n <= 4) : PySem.intText? (fig n) = some (n : Int) := by
  have : n = 1 \/ n = 2 \/ n = 3 \/ n = 4 := by omega
  rcases this with rfl | rfl | rfl | rfl <;> decide +kernel
theorem fig_in {n : Nat} (h1 : 1 <= n) (h4 : n <= 4) : inV (V.str (fig n)) [V.str (Str.ofString "1"), V.str (Str.ofString "2"), V.str (Str.ofString "3"), V.str (Str.ofString "4")] = true := by
  have : n = 1 \/ n = 2 \/ n = 3 \/ n = 4 := by omega
  rcases this with rfl | rfl | rfl | rfl <;> decide +kernel
def PvAn (H : Hp) (ds : List HD) (z : Str) (i : Nat) (ys : List V) (H' : Hp) : Prop := H' = H /\ ys = ((ds.take i).map fun d => inV (V.str z) (d.words.map V.str)).map V.bl
theorem sh (B : Bt mg) (C : Ct K mg a) (f_hands_of : FnAt P w K mg base "hands_of" 1 ["house"] (wa K 1)) (yf : FnAt P w K mg base "words_of_hand" 1 ["hand"] (wa K 1)) (D : zg K mg "read_count" tq ["house", "figure", "word"]) : FnAtX P w K mg base "read_count" 3 ["house", "figure", "word"] (zbu True) := by
  refine FnAtX.of D dy (fun vs H Q E h => ?_) (fun f cdv A outer s H vs Q E hr h => ?_)
  . obtain ⟨p, o, h, hs, outs, ds, n, z, rfl, _⟩ := h
    rfl
  . obtain ⟨p, o, h, hs, outs, ds, n, z, rfl, _, hH, G, h1, h4, hz, q⟩ := h
    refine ⟨_, (@ze _ _ _ _ _ (@yd _ _ _ _ _ _ _ _ (@z5 _ _ _ _ _ _ _ _ sk (pv 1) (zfz rfl C.t_COUNTS) (by with_unfolding_all rfl)) (@zf _ _ _ (yv rfl C.q_NoRule.toErr rfl C.m_NoRule (yh rfl) (za (@zm _ _ _ _) (@zb _)))) (@zz _)) (@ze _ _ _ _ _ (@yd _ _ _ _ _ _ _ _ (@xn _ _ _ _ (xg (zy (zey rfl) rfl B.any bt_any (za (ym ["hand"] ["house", "figure", "word"] rfl (@bt _ _ _ _ (zk f_hands_of (hr.mono (by decide)) rfl (za (pv 0) (@zb _)))) (fun _ => (zx (i := 0) (show (["hand", "house", "figure", "word"] : List Str).Nodup by decide +kernel) rfl (Or.inl rfl))) (fun _ => (@yi _)) (fun _ => (@vm _ _ _ _ _ _ _ _ zex (pv 3) (zk yf (hr.mono (by decide)) rfl (za (pv 0) (@zb _))) (by with_unfolding_all rfl))) rfl (by decide +kernel) rfl rfl) (@zb _))))) (@zf _ _ _ (yv rfl C.q_NoRule.toErr rfl C.m_NoRule (yh rfl) (za (@zm _ _ _ _) (@zb _)))) (@zz _)) (@zf _ _ _ (PS.nox (@zq _ _ _ _ (@y0 _ _ _ _ _ (za (@zm _ _ _ _) (za (yo jb rfl B.int i5 (za (pv 1) (@zb _))) (za (pv 2) (@zb _)))))))))), ?_⟩;rw [show start ["house", "figure", "word"] [V.ref p, V.str (fig n), V.str z] = [some (V.ref p), some (V.str (fig n)), some (V.str z)] from rfl];simp only [zi, zj, ↓reduceIte];intro pc hpc;refine ⟨_, .inr hpc, rfl, rfl, ?_⟩;rw [fig_in h1 h4];refine iteF ⟨p, _, _, rfl, .of hH.tup, rfl, h, rfl, .inr ⟨⟨_, .of hH.hands⟩, fun d => ?_⟩⟩;have hlen : ds.length <= sizeLine := Zd G.hands.2 (by decide);refine j8 (xs := hs.map V.ref) (PvAn H ds z) ⟨rfl, rfl⟩ ?_ ?_ ?_
    . rintro i ys H4 hi ⟨rfl, rfl⟩
      refine ⟨?_, .of hH.hands⟩;rw [Za, Za, Zj];omega
    . rintro i x ys H4 hx ⟨rfl, rfl⟩
      obtain ⟨y, hy, rfl⟩ := yj hx;have hi : i < ds.length := by have := (Zc.mp hy).1; have := hH.hand.1; omega
      have e2 : ds[i]? = some ds[i] := by simp [hi]
      obtain ⟨wd', g', gs', hK⟩ := hH.hand.2 i y _ hy e2;simp only [zi, zj, ↓reduceIte];refine ⟨y, _, _, rfl, .of hK.tup, rfl, wd', rfl, _, .inr (.of hK.words), rfl, uf _, rfl, ?_⟩;rw [Zq, e2, Zn, Zn];rfl
    . rintro ys H4 ⟨rfl, rfl⟩ l hl
      rw [Za, hH.hand.1, Zt];refine ⟨_, .of zc, ?_⟩
      have ha : ((ds.map fun d => inV (V.str z) (d.words.map V.str)).any id) = true := by
        obtain ⟨d, hd, hw⟩ := hz;rw [Yu];exact ⟨_, Zp.mpr ⟨d, hd, rfl⟩, jc hw⟩
      rw [ha];refine iteF ⟨_, zho h1 h4, ?_, by decide, fun t ht => q _ t ((Same.upd (Same.refl _) hl).trans (Same.upd (Same.refl _) ht)) zc⟩;exact Zd (show (fig n).length <= 1 from Zm _) (by decide)
end
def u0 (r : List Str) : List Key := r.map Sum.inr
theorem zd5 (r : List Str) : (u0 r).map kV = r.map V.str := by
  rw [u0, ZS];rfl
theorem i3 {r q : List Str} (h : u0 r = u0 q) : r = q := by
  induction r generalizing q with
  | nil => cases q with
    | nil => rfl
    | cons _ _ => cases h
  | cons x xs ih => cases q with
    | nil => cases h
    | cons y ys =>
      rw [u0, u0, ZM, ZM] at h
      injection h with h1 h2
      injection h1 with h1
      rw [h1, ih h2]
def ww (f : List Str -> Str) (rs : List (List Str)) : List (List Key × V) := rs.map fun r => (u0 r, V.str (f r))
theorem ay (f : List Str -> Str) (rs : List (List Str)) : (ww f rs).map (·.1) = rs.map u0 := by rw [ww, ZS]; rfl
theorem zes {f : List Str -> Str} {rs : List (List Str)} (h : rs.Nodup) : ((ww f rs).map (·.1)).Nodup := by
  rw [ay];exact YU.mpr (List.Pairwise.imp (fun {a b} hab e => hab (i3 e)) h)
theorem zcg {f : List Str -> Str} {rs : List (List Str)} {r : List Str} (h : r ∈ rs) : valV (ww f rs) (u0 r) = some (V.str (f r)) := by
  induction rs with
  | nil => cases h
  | cons q rs ih =>
    rw [ww, ZM]
    by_cases e : q = r
    . rw [m8 (by rw [e]), e]
    . rw [m7 (fun z => e (i3 z))]
      exact ih ((ZK.mp h).resolve_left fun z => e z.symm)
def PvBT (H : Hp) (f : List Str -> Str) (rs : List (List Str)) (i : Nat) (ys : List V) (H' : Hp) : Prop := Same H H' /\ ∃ Ts : List Addr, ys = Ts.map V.ref /\ uy H' Ts (ww f (rs.take i))
theorem j6 {H H' : Hp} {Ts : List Addr} {kvs : List (List Key × V)} (S : Same H H') (h : uy H Ts kvs) : uy H' Ts kvs := ⟨h.len, fun i T kv e1 e2 => by
  obtain ⟨b, h1, h2⟩ := h.at' i T kv e1 e2
  exact ⟨b, S _ _ h1, S _ _ h2⟩⟩
theorem zah {H : Hp} {Ts : List Addr} {kvs : List (List Key × V)} {T b : Addr} {kv : List Key × V} (h : uy H Ts kvs) (hT : H T = some (.tup [.ref b, kv.2])) (hb : H b = some (.tup (kv.1.map kV))) : uy H (Ts ++ [T]) (kvs ++ [kv]) := by
  refine ⟨by simp [h.len], fun i a q e1 e2 => ?_⟩
  by_cases hi : i < Ts.length
  . rw [Zg hi] at e1
    rw [Zg (by rw [<- h.len]; exact hi)] at e2;exact h.at' i a q e1 e2
  . rw [Zf (ZD.mp hi)] at e1
    rw [Zf (by rw [<- h.len]; exact ZD.mp hi)] at e2
    have h0 : i - Ts.length = 0 := by
      have := (Zc.mp e1).1;simp at this;omega
    rw [h0] at e1;rw [<- h.len, h0] at e2;simp at e1 e2;subst e1 e2;exact ⟨b, hT, hb⟩
def dP (ps : List (Option Cd × Str)) (row : List Str) : List Str := (ps.filter fun c => evo row c.1).map fun c => c.2
def vf (ps : List (Option Cd × Str)) (row : List Str) : Str := (dP ps row).headD ⟨#[]⟩
theorem zei (rl : List (Addr × Option Cd × Str)) (row : List Str) : vo rl row = dP (rl.map fun c => c.2) row := by
  rw [vo, dP, List.filter_map, ZS];rfl
theorem zfl {ps : List (Option Cd × Str)} (h : ∃ c ∈ ps, c.1 = none) (row : List Str) : dP ps row = vf ps row :: (dP ps row).tail := by
  obtain ⟨c, hc, h0⟩ := h;have hm : c.2 ∈ dP ps row := Zp.mpr ⟨c, Xa.mpr ⟨hc, by rw [h0]; rfl⟩, rfl⟩;unfold vf
  cases e : dP ps row with
  | nil => rw [e] at hm; cases hm
  | cons z zs => rfl
theorem jv {ps : List (Option Cd × Str)} {row : List Str} {i : Nat} {c : Option Cd × Str} (hc : ps[i]? = some c) (hn : ∀ d ∈ ps.take i, evo row d.1 = false) (ht : evo row c.1 = true) : vf ps row = c.2 := by
  have hi : i < ps.length := (Zc.mp hc).1
  have e : ps = ps.take i ++ c :: ps.drop (i + 1) := by
    have : ps[i] = c := (Zc.mp hc).2;rw [<- this, List.getElem_cons_drop, List.take_append_drop]
  have h1 : (ps.take i).filter (fun c => evo row c.1) = [] := List.filter_eq_nil_iff.mpr fun d hd => by rw [hn d hd]; simp
  unfold vf dP;rw [e, List.filter_append, h1, Yo, YE, if_pos ht];rfl
def eh (K : Fg) : Sp := fun vs H Q _ => ∃ (p o h l : Addr) (hs : List Addr) (outs : List Str) (ds : List HD) (rl : List (Addr × Option Cd × Str)), vs = [.ref p, .ref l] /\ HHouse H p o h hs outs ds /\ GoodHouse outs ds /\ RuleAt H l rl ds.length /\ rl.length <= 60 /\ (∃ c ∈ rl.map (fun c => c.2), c.1 = none) /\
  ∀ H' t, Same H H' -> H' t = some (.dT (ww (vf (rl.map fun c => c.2)) (yr (ds.map HD.words)))) -> Q (.ref t) H'
section
variable {P : Program} {w : World} {K : Fg} {mg : Str -> Option Value} {base : Heap} {a : Ad}
theorem lm (B : Bt mg) (k8 : FnAt P w K mg base "rows_of" 3 ["house"] (bv K)) (fj : FnAt P w K mg base "dealt" 43 ["rule", "row"] (zbb K)) (D : zg K mg "table_of" qx ["house", "rule"]) : FnAt P w K mg base "table_of" 44 ["house", "rule"] (eh K) := by
  refine FnAt.of D zas (fun vs H Q E h => ?_) (fun f cdv A outer s H vs Q E hr h => ?_)
  . obtain ⟨p, o, h, l, hs, outs, ds, rl, rfl, _⟩ := h
    rfl
  . obtain ⟨p, o, h, l, hs, outs, ds, rl, rfl, hH, G, hR, l60, hno, q⟩ := h
    refine ⟨_, (@zf _ _ _ (@zq _ _ _ _ (yo (zb9 rfl (hu11 hr)) rfl B.dict zhg (za (ym ["row"] ["house", "rule"] rfl (@yg _ _ _ _ (zk k8 (hr.mono (by decide)) rfl (za (pv 0) (@zb _)))) (fun _ => (zx (i := 0) (show (["row", "house", "rule"] : List Str).Nodup by decide +kernel) rfl (Or.inl rfl))) (fun _ => (@yi _)) (fun _ => (@y0 _ _ _ _ _ (za (pv 0) (za (zk fj (hr.mono (by decide)) rfl (za (pv 2) (za (pv 0) (@zb _)))) (@zb _))))) rfl (by decide +kernel) rfl rfl) (@zb _))))), ?_⟩;rw [show start ["house", "rule"] [V.ref p, V.ref l] = [some (V.ref p), some (V.ref l)] from rfl];simp only [zi, zj, ↓reduceIte];have h4 := G.hands.2;have h8 : ∀ d ∈ ds, d.words.length <= 8 := fun d hd => (G.words1 d hd).2
    refine ⟨p, o, h, hs, outs, ds, rfl, hH.k, h4, h8, fun H1 rw as S1 _ R1 => ⟨rw, rfl, ⟨_, .of R1.lst⟩, fun dd => ?_⟩⟩
    have few := ib (wss := ds.map HD.words) (by rw [Za]; exact h4) (fun ws hws => by
      obtain ⟨d, hd, rfl⟩ := Zp.mp hws
      exact h8 d hd) _ (Zm _)
    rw [Zt] at few
    have nd : (yr (ds.map HD.words)).Nodup := zab fun vs hvs => by
      obtain ⟨d, hd, rfl⟩ := Zp.mp hvs;exact (G.hand hd).wordsD
    have hin : ∀ r ∈ yr (ds.map HD.words), r.length = ds.length := fun r hr => by rw [zcl hr, Za]
    generalize yr (ds.map HD.words) = rs at *;refine yk (xs := as.map V.ref) (PvBT H1 (vf (rl.map fun c => c.2)) rs) ⟨Same.refl _, [], rfl, rfl, fun i T kv e => by simp at e⟩ ?_ ?_ ?_
    . rintro i ys H2 hi ⟨S2, Ts, rfl, hP⟩
      refine ⟨?_, .of (S2 _ _ R1.lst)⟩;rw [Za, hP.len, ww, Za, Zj];exact Zd (ZB _ _) (Zd few (by decide))
    . rintro i x ys H2 hx ⟨S2, Ts, rfl, hP⟩
      obtain ⟨c, hcx, rfl⟩ := yj hx;have hi : i < rs.length := by have := (Zc.mp hcx).1; have := R1.tups.len; omega
      have er : rs[i]? = some rs[i] := Zb hi;have hrow := S2 _ _ (R1.tups.at' i c _ hcx er);have hl := hin _ (Zl hi);have S12 := S1.trans S2;simp only [zi, zj, ↓reduceIte];refine ⟨l, c, rl, rs[i], vf (rl.map fun c => c.2) rs[i], _, rfl, by rw [hl]; exact hR.mono S12, l60, hrow, by rw [zei]; exact zfl hno _, fun H3 S3 => ⟨by decide, fun T hT => ?_⟩⟩;have S4 : Same H3 (upd H3 T (.tup [V.ref c, V.str (vf (rl.map fun c => c.2) rs[i])])) := Same.upd (Same.refl _) hT;refine ⟨S2.trans (S3.trans S4), Ts ++ [T], by simp, ?_⟩;rw [Zq, er]
      show uy _ _ (ww _ (rs.take i ++ [rs[i]]))
      rw [ww, Zn];exact zah (j6 (S3.trans S4) hP) (b := c) zc (by rw [zd5]; exact (S3.trans S4) _ _ hrow)
    . rintro ys H2 ⟨S2, Ts, rfl, hP⟩ l2 hl2
      rw [Za, R1.tups.len, Zt] at hP;have S3 : Same H2 (upd H2 l2 (.lst (Ts.map V.ref))) := Same.upd (Same.refl _) hl2;refine ⟨Ts, zc, _, j6 S3 hP, fun t ht => ?_⟩;rw [zd3 (zes nd)];exact q _ t (S1.trans (S2.trans (S3.trans (Same.upd (Same.refl _) ht)))) zc
end
def RuleL (H : Hp) (l : Addr) (cls : List (Cd × Str)) (z : Str) : Prop := ∃ (rl : List (Addr × Cd × Str)) (tz : Addr), H l = some (.lst ((rl.map fun r => V.ref r.1) ++ [.ref tz])) /\ rl.map (fun r => r.2) = cls /\ (∀ r ∈ rl, ∃ x, H r.1 = some (.tup [x, .str r.2.2]) /\ CondAt H r.2.1 x) /\ H tz = some (.tup [.non, .str z])
def OkW (w : Str) : Prop := w.length <= 8 /\ 32 ∉ w.cps.toList /\ 59 ∉ w.cps.toList
theorem GoodN.okw {w : Str} (h : GoodN w) : OkW w := ⟨h.2.1, fun z => by have := h.2.2 _ z; omega, fun z => by have := h.2.2 _ z; omega⟩
theorem zf3 : OkW (Str.ofString "says") := by unfold OkW; decide +kernel
theorem zel : OkW (Str.ofString "count") := by unfold OkW; decide +kernel
theorem zhl : OkW (Str.ofString "not") := by unfold OkW; decide +kernel
theorem zgd : OkW (Str.ofString "and") := by unfold OkW; decide +kernel
theorem okw_or : OkW (Str.ofString "or") := by unfold OkW; decide +kernel
theorem zff : OkW (Str.ofString "when") := by unfold OkW; decide +kernel
theorem ao : OkW (Str.ofString "deal") := by unfold OkW; decide +kernel
theorem jj {outs : List Str} {ds : List HD} (G : GoodHouse outs ds) : ∀ {c : Cd}, okc True ds c -> ∀ w ∈ wd ds c, OkW w
  | .says k z, h, w, hw => by
    obtain ⟨d, hk, hz⟩ := h;rw [wd] at hw;simp only [ZK, Zx, or_false] at hw
    rcases hw with rfl | rfl | rfl
    . exact zf3
    . rw [nmAt, Zk, Ze, hk]
      exact (G.handsG d (Zi hk)).okw
    . exact (G.wordsG d (Zi hk) _ hz).okw
  | .count n z, h, w, hw => by
    obtain ⟨_, n1, n4, d, hd, hz⟩ := h;rw [wd] at hw;simp only [ZK, Zx, or_false] at hw
    rcases hw with rfl | rfl | rfl
    . exact zel
    . have : n = 1 \/ n = 2 \/ n = 3 \/ n = 4 := by omega
      unfold OkW
      rcases this with rfl | rfl | rfl | rfl <;> decide +kernel
    . exact (G.wordsG d hd _ hz).okw
  | .no c, h, w, hw => by
    rw [wd] at hw
    rcases ZK.mp hw with rfl | e
    . exact zhl
    . exact jj G (c := c) h w e
  | .an c d, h, w, hw => by
    rw [wd] at hw
    rcases ZK.mp hw with rfl | e
    . exact zgd
    . rcases ZH.mp e with e | e
      . exact jj G h.1 w e
      . exact jj G h.2 w e
  | .orr c d, h, w, hw => by
    rw [wd] at hw
    rcases ZK.mp hw with rfl | e
    . exact okw_or
    . rcases ZH.mp e with e | e
      . exact jj G h.1 w e
      . exact jj G h.2 w e
def txts (ds : List HD) (cls : List (Cd × Str)) (z : Str) : List Str := (rlW ds cls z).map (Str.join (Str.ofString " "))
structure ClsOk (outs : List Str) (ds : List HD) (cls : List (Cd × Str)) (z : Str) : Prop where
  G : GoodHouse outs ds
  ok : ∀ c ∈ cls, okc True ds c.1 /\ dep c.1 < 40 /\ c.2 ∈ outs
  len : ∀ c ∈ cls, (wd ds c.1).length <= 34
  few : cls.length <= 18
  last : z ∈ outs
theorem ClsOk.words {outs : List Str} {ds : List HD} {cls : List (Cd × Str)} {z : Str} (h : ClsOk outs ds cls z) : ∀ cs ∈ rlW ds cls z, cs ≠ [] /\ cs.length <= 37 /\ ∀ w ∈ cs, OkW w := fun cs hcs => by
  rcases ZH.mp hcs with e | e
  . obtain ⟨c, hc, rfl⟩ := Zp.mp e
    have hl := h.len c hc;obtain ⟨h1, _, h3⟩ := h.ok c hc;refine ⟨by rw [clW]; simp, by rw [clW, ZL, Zo]; show _ + 2 + 1 <= 37; omega, fun w hw => ?_⟩;rw [clW] at hw
    rcases ZK.mp hw with rfl | e
    . exact zff
    . rcases ZH.mp e with e | e
      . exact jj h.G h1 w e
      . simp only [ZK, Zx, or_false] at e
        rcases e with rfl | rfl
        . exact ao
        . exact (h.G.outsG _ h3).okw
  . rw [ZC.mp e]
    refine ⟨by simp, by simp, fun w hw => ?_⟩;simp only [ZK, Zx, or_false] at hw
    rcases hw with rfl | rfl
    . exact ao
    . exact (h.G.outsG _ h.last).okw
theorem ClsOk.short {outs : List Str} {ds : List HD} {cls : List (Cd × Str)} {z : Str} (h : ClsOk outs ds cls z) : ∀ y ∈ txts ds cls z, y.length <= 400 := fun y hy => by
  obtain ⟨cs, hcs, rfl⟩ := Zp.mp hy;obtain ⟨_, h37, hw⟩ := h.words cs hcs;have h1 := StrLaws.join_length_le (Str.ofString " ") cs;have h2 := StrLaws.sumLen_le cs (B := 8) fun w hw' => (hw w hw').1
  have e1 : (Str.ofString " ").length = 1 := by decide +kernel
  rw [e1] at h1;omega
theorem ClsOk.rlen {outs : List Str} {ds : List HD} {cls : List (Cd × Str)} {z : Str} (h : ClsOk outs ds cls z) : (rlW ds cls z).length = cls.length + 1 := by rw [rlW, Zo, Za]; rfl
theorem ClsOk.join {outs : List Str} {ds : List HD} {cls : List (Cd × Str)} {z : Str} (h : ClsOk outs ds cls z) : JoinOk (Str.ofString "; ") (txts ds cls z) = true := by
  unfold JoinOk;have hf := h.few;rw [StrLaws.joinFits (B := 400) h.short]
  . rfl
  . have e1 : (Str.ofString "; ").length = 2 := by decide +kernel
    have e2 : (txts ds cls z).length = cls.length + 1 := by rw [txts, Za, h.rlen]
    rw [e1, e2];omega
theorem ClsOk.text {outs : List Str} {ds : List HD} {cls : List (Cd × Str)} {z : Str} (h : ClsOk outs ds cls z) : TextOf (Txt.join (Str.ofString "; ") (txts ds cls z)) (rlW ds cls z) := by
  have hl := h.rlen;have hf := h.few;refine ⟨by rw [xy, txts], (fun e => by rw [e] at hl; cases hl), fun cs hcs => (h.words cs hcs).1, fun cs hcs w hw => ((h.words cs hcs).2.2 w hw).2, by omega, fun cs hcs => by have := (h.words cs hcs).2.1; omega, ?_⟩;rw [xy];have h1 := StrLaws.join_length_le (Str.ofString "; ") (txts ds cls z);have h2 := StrLaws.sumLen_le (txts ds cls z) h.short;have e1 : (Str.ofString "; ").length = 2 := by decide +kernel
  have e2 : (txts ds cls z).length = cls.length + 1 := by rw [txts, Za, hl]
  rw [e1, e2] at h1;rw [e2] at h2;exact Zd (show _ <= 100000 by omega) (by decide)
theorem ClsOk.fine {outs : List Str} {ds : List HD} {cls : List (Cd × Str)} {z : Str} (h : ClsOk outs ds cls z) : fine (rlW ds cls z) := by
  have hl := h.rlen;have hf := h.few;exact ⟨by omega, fun cs hcs => by have := (h.words cs hcs).2.1; omega⟩
theorem zc8 (z : Str) : Str.ofString "deal " ++ z = Str.join (Str.ofString " ") [Str.ofString "deal", z] := by
  rw [um];have : Str.ofString "deal" ++ Str.ofString " " = Str.ofString "deal " := by decide +kernel
  rw [this];rfl
def psOf (cls : List (Cd × Str)) (z : Str) : List (Option Cd × Str) := cls.map (fun c => (some c.1, c.2)) ++ [(none, z)]
theorem p0 {ds : List HD} : ∀ {c : Cd}, okc True ds c -> fit ds.length c
  | .says k z, h => by obtain ⟨d, hk, _⟩ := h; exact (Zc.mp hk).1
  | .count _ _, _ => trivial
  | .no c, h => p0 (c := c) h
  | .an c d, h => ⟨p0 h.1, p0 h.2⟩
  | .orr c d, h => ⟨p0 h.1, p0 h.2⟩
theorem zf9 {H : Hp} {l : Addr} {outs : List Str} {ds : List HD} {cls : List (Cd × Str)} {z : Str} (h : RuleL H l cls z) (hOk : ClsOk outs ds cls z) : ∃ rl, RuleAt H l rl ds.length /\ rl.map (fun c => c.2) = psOf cls z := by
  obtain ⟨rl, tz, h1, h2, h3, h4⟩ := h;refine ⟨rl.map (fun r => (r.1, some r.2.1, r.2.2)) ++ [(tz, none, z)], ⟨?_, fun c hc => ?_⟩, ?_⟩
  . rw [h1, Zn, ZS]
    rfl
  . rcases ZH.mp hc with e | e
    . obtain ⟨r, hr, rfl⟩ := Zp.mp e
      have hm : r.2 ∈ cls := by rw [<- h2]; exact Zp.mpr ⟨r, hr, rfl⟩
      obtain ⟨x, b1, b2⟩ := h3 r hr;exact ⟨⟨x, b1, b2⟩, p0 (hOk.ok _ hm).1, (hOk.ok _ hm).2.1⟩
    . rw [ZC.mp e]
      exact ⟨⟨_, h4, rfl⟩, trivial, (by decide : (0 : Nat) < 40)⟩
  . rw [Zn, ZS, <- h2, psOf, ZS]
    rfl
def oo (ds : List HD) (cls : List (Cd × Str)) (z : Str) : Str := Str.join (Str.ofString "; ") (txts ds cls z)
def zbn : Sp := fun vs H Q _ => ∃ (p o h : Addr) (hs : List Addr) (outs : List Str) (ds : List HD) (cls : List (Cd × Str)) (z : Str), vs = [.ref p, .str (oo ds cls z)] /\ HHouse H p o h hs outs ds /\ ClsOk outs ds cls z /\ ∀ H' t, Same H H' -> H' t = some (.dT (ww (vf (psOf cls z)) (yr (ds.map HD.words)))) -> Q (.ref t) H'
section
variable {P : Program} {w : World} {K : Fg} {mg : Str -> Option Value} {base : Heap} {a : Ad}
theorem f_rule_table (n0 : FnAtX P w K mg base "read_rule" 46 ["house", "text"] (ii a True)) (lm : FnAt P w K mg base "table_of" 44 ["house", "rule"] (eh K)) (D : zg K mg "rule_table" tw ["house", "rest"]) : FnAtX P w K mg base "rule_table" 47 ["house", "rest"] zbn := by
  refine FnAtX.of D d6 (fun vs H Q E h => ?_) (fun f cdv A outer s H vs Q E hr h => ?_)
  . obtain ⟨p, o, h, hs, outs, ds, cls, z, rfl, _⟩ := h
    rfl
  . obtain ⟨p, o, h, hs, outs, ds, cls, z, rfl, hH, hOk, q⟩ := h
    refine ⟨_, (@zf _ _ _ (@zq _ _ _ _ (zk lm (hr.mono (by decide)) rfl (za (pv 0) (za (yq n0 (hr.mono (by decide)) (ye rfl) rfl (za (pv 0) (za (pv 1) (@zb _)))) (@zb _)))))), ?_⟩;rw [show start ["house", "rest"] [V.ref p, V.str (oo ds cls z)] = [some (V.ref p), some (V.str (oo ds cls z))] from rfl];simp only [zi, zj, ↓reduceIte]
    have ht : TextOf (oo ds cls z) (rlW ds cls z) := by
      have := hOk.text
      rwa [xy] at this
    refine ⟨p, o, h, hs, outs, ds, _, cls, z, rfl, hH, hOk.G, ht, hOk.ok, hOk.last, fun _ H9 l9 rl9 tz9 S9 hn9 hl9 htz9 hrl9 hR9 => ?_, fun nf => absurd hOk.fine nf⟩;have hR9' : RuleL H9 l9 cls z := ⟨rl9, tz9, hl9, hrl9, hR9, htz9⟩;obtain ⟨ra9, hra9, ea9⟩ := zf9 hR9' hOk;have l20 := hOk.few
    have lra : ra9.length <= 60 := by
      have : ra9.length = (psOf cls z).length := by rw [<- ea9, Za]
      rw [this, psOf, Zo, Za]
      show cls.length + 1 <= 60
      omega
    refine ⟨p, o, h, l9, hs, outs, ds, ra9, rfl, hH.mono S9, hOk.G, hra9, lra, ⟨(none, z), by rw [ea9]; simp [psOf], rfl⟩, fun H10 t10 S10 h10 => ?_⟩;rw [ea9] at h10;exact q _ t10 (S9.trans S10) h10
end
def zbp (C : Addr) : Sp := fun vs H Q _ => ∃ (x dx : Addr), vs = [.ref x] /\ H x = some (.ins C dx []) /\ Q .non (upd (upd H x (.ins C dx [("house", .non)])) x (.ins C dx [("house", .non), ("table", .non)]))
section
variable {P : Program} {w : World} {K : Fg} {mg : Str -> Option Value} {base : Heap} {a : Ad}
theorem af (c_Desk : jh K mg "Desk" a.Desk "Desk.__init__" xu ["self"] ["house", "table"]) : MkAt P w K mg base "Desk" a.Desk 1 ["self"] (zbp a.Desk) := by
  refine zgv c_Desk j9 (fun vs H Q E h => ?_) (fun f cdv A outer s H vs Q E hr h => ?_)
  . obtain ⟨x, dx, rfl, _⟩ := h
    rfl
  . obtain ⟨x, dx, rfl, hx, q⟩ := h
    refine ⟨_, (@ze _ _ _ _ _ (@ku _ _ _ _ _ _ _ _ (pv 0) (@qf _ _ _) rfl) (@zf _ _ _ (@ku _ _ _ _ _ _ _ _ (pv 0) (@qf _ _ _) rfl))), ?_⟩;rw [show start ["self"] [V.ref x] = [some (V.ref x)] from rfl];simp only [zi, zj, ↓reduceIte];exact ⟨_, _, _, hx, c_Desk.cl, c_Desk.no _ (by simp), by decide, _, _, _, zc, c_Desk.cl, c_Desk.no _ (by simp), by decide, q⟩
end
theorem fig_ok {c : Nat} (h1 : 48 <= c) (h2 : c <= 57) : (!decide ((chr1 c).cps.toList < (Str.ofString "0").cps.toList)) = true /\ (!decide ((Str.ofString "9").cps.toList < (chr1 c).cps.toList)) = true := by
  have ea : (Str.ofString "0").cps.toList = [48] := by decide +kernel
  have ez : (Str.ofString "9").cps.toList = [57] := by decide +kernel
  have ec : (chr1 c).cps.toList = [c] := rfl;rw [ea, ez, ec]
  constructor
  . rw [decide_eq_false]
    . rfl
    . intro z
      rw [Ys] at z
      rcases z with z | ⟨_, z⟩
      . omega
      . exact absurd z (by simp)
  . rw [decide_eq_false]
    . rfl
    . intro z
      rw [Ys] at z
      rcases z with z | ⟨_, z⟩
      . omega
      . exact absurd z (by simp)
theorem qt : (Str.ofString "-").cps.toList = [45] := by decide +kernel
theorem zcz {x : Str} {cs : List Nat} (h : x.cps.toList = 45 :: cs) : Txt.startswith x (Str.ofString "-") = true := by
  have h1 : (Str.ofString "-").length = 1 := by rw [wx, qt]; rfl
  unfold Txt.startswith;rw [StrLaws.subAt_eq, h, h1, qt, wx, h];simp
theorem zb1 {x : Str} {c : Nat} {cs : List Nat} (h : x.cps.toList = c :: cs) (hc : c ≠ 45) : Txt.startswith x (Str.ofString "-") = false := by
  have h1 : (Str.ofString "-").length = 1 := by rw [wx, qt]; rfl
  unfold Txt.startswith;rw [StrLaws.subAt_eq, h, h1, qt, wx, h];simp [hc]
def zc4 : Sp := fun vs H Q _ => ∃ x : Str, vs = [.str x] /\ PySem.NumText.AllDigits x.cps.toList /\ 1 <= x.length /\ x.length <= 60 /\ ∀ H', Same H H' -> Q (.bl true) H'
def zbm : Sp := fun vs H Q _ => ∃ n : Int, vs = [.str (intS n)] /\ -(10 ^ 60) < n /\ n < 10 ^ 60 /\ ∀ H', Same H H' -> Q (.int n) H'
section
variable {P : Program} {w : World} {K : Fg} {mg : Str -> Option Value} {base : Heap} {a : Ad}
theorem qm (B : Bt mg) (D : zg K mg "are_figures" ua ["text"]) : FnAt P w K mg base "are_figures" 1 ["text"] zc4 := by
  refine FnAt.of D fq (fun vs H Q E h => ?_) (fun f cdv A outer s H vs Q E hr h => ?_)
  . obtain ⟨x, rfl, _⟩ := h
    rfl
  . obtain ⟨z, rfl, g1, g2, g3, q⟩ := h
    refine ⟨_, (@zf _ _ _ (@zq _ _ _ _ (@uw _ _ _ _ _ _ _ (ig le le (@zd _ _ _ _) (zy kr rfl B.len yz (za (pv 0) (@zb _))) (ve rfl B.k_MOST_FIGURES)) (@vq _ _ _ _ _ (zy (uj rfl) rfl B.all mm (za (ym ["sign"] ["text"] rfl (@zek _ _ _ _ (pv 0)) (fun _ => (zx (i := 0) (show (["sign", "text"] : List Str).Nodup by decide +kernel) rfl (Or.inl rfl))) (fun _ => (@yi _)) (fun _ => (ig gu gu (@zm _ _ _ _) (pv 0) (@zm _ _ _ _))) rfl (by decide +kernel) rfl rfl) (@zb _))))))), ?_⟩;rw [show start ["text"] [V.str z] = [some (V.str z)] from rfl];simp only [zi, zj, ↓reduceIte];refine ⟨Zd g3 (by decide), ite2 (fun _ => ite2 (fun _ => ?_) fun h => (h (decide_eq_true (by omega))).elim) fun h => (h (decide_eq_true (by omega))).elim⟩;intro d;refine cu (PvAT H) ⟨Same.refl _, rfl⟩ ?_ ?_ ?_
    . rintro i ys H' hi ⟨S, rfl⟩
      rw [sv];exact Zd hi (Zd (show z.cps.size <= 60 from g3) (by decide))
    . rintro i c ys H' hc ⟨S, rfl⟩
      have hm : c ∈ z.cps.toList := by
        obtain ⟨hi, e⟩ := ZT.mp hc;rw [<- e];exact Array.getElem_mem_toList hi
      obtain ⟨o1, o2⟩ := fig_ok (g1 c hm).1 (g1 c hm).2;simp only [zi, zj, ↓reduceIte];rw [if_pos o1, o2];exact ⟨S, uk i⟩
    . rintro ys H' ⟨S, rfl⟩ l hl
      refine ⟨_, .of zc, ?_⟩;rw [sx];exact q _ (S.trans (Same.upd (Same.refl _) hl))
theorem ma (B : Bt mg) (qm : FnAt P w K mg base "are_figures" 1 ["text"] zc4) (D : zg K mg "number_of" rq ["text"]) : FnAt P w K mg base "number_of" 2 ["text"] zbm := by
  refine FnAt.of D sc_number_of (fun vs H Q E h => ?_) (fun f cdv A outer s H vs Q E hr h => ?_)
  . obtain ⟨x, rfl, _⟩ := h
    rfl
  . obtain ⟨n, rfl, h1, h2, q⟩ := h
    refine ⟨_, (@ze _ _ _ _ _ (zv (i := 1) sc_number_of.nd rfl (Or.inl rfl) (@zfx _ _ _ _ _ _ _ _ (xg (xa PySem.F.plainAttrs_str PySem.F.slot_str_startswith PySem.F.type_str_startswith zdo (pv 0) (za (@zm _ _ _ _) (@zb _)))) (@rc _ _ _ _ _ _ _ _ _ _ zhr (pv 0) (@px _ _ _ (@zd _ _ _ _)) (@pz _)) (pv 0))) (@ze _ _ _ _ _ (@yd _ _ _ _ _ _ _ _ (PW.pt (@v9 _ _ _ _ _ _ _ (@xn _ _ _ _ (xg (zk qm (hr.mono (by decide)) rfl (za (pv 1) (@zb _))))) (@vd _ _ _ _ (@z5 _ _ _ _ _ _ _ _ vx (yo kg rfl B.str on (za (yo jb rfl B.int i5 (za (pv 0) (@zb _))) (@zb _))) (pv 0) (z9 _))))) (@zf _ _ _ (@zq _ _ _ _ (@qf _ _ _))) (@zz _)) (@zf _ _ _ (@zq _ _ _ _ (yo jb rfl B.int i5 (za (pv 0) (@zb _))))))), ?_⟩;rw [show start ["text", "figures"] [V.str (intS n)] = [some (V.str (intS n)), none] from rfl];simp only [zi, zj, ↓reduceIte];have rd := zca (n := n) (by omega) (by omega);have hl := ic (n := n) (by omega) (by omega);have l640 : (intS n).length <= 640 := by omega
    have lz : (intS n).length <= sizeLine := Zd hl (by decide);refine ⟨rfl, ?_⟩
    cases n with
    | ofNat m =>
      have e : (intS (Int.ofNat m)).cps.toList = figs m := rb m
      obtain ⟨c, cs, ec⟩ : ∃ c cs, figs m = c :: cs := by
        cases h : figs m with
        | nil => exact absurd h (jr m)
        | cons c cs => exact ⟨c, cs, rfl⟩
      have hc := wk m c (by rw [ec]; exact ZA);rw [if_neg (by rw [zb1 (e.trans ec) (by omega)]; simp)];refine ⟨_, rfl, by rw [show (intS (Int.ofNat m)).cps.toList = figs m from e]; exact wk m, ?_, ?_, fun H1 S1 => ⟨true, rfl, iteF ⟨_, rd, l640, by omega, by omega, rfl, ite2 (fun h => absurd h (by simp)) fun _ => ⟨_, rd, l640, q _ S1⟩⟩⟩⟩
      . rw [wx, show (intS (Int.ofNat m)).cps.toList = figs m from e, ec]
        simp
      . rw [wx, show (intS (Int.ofNat m)).cps.toList = figs m from e]
        exact lv (by decide) (by have : ((m : Nat) : Int) < 10 ^ 60 := h2; omega)
    | negSucc m =>
      have e := lp m;have ed : (m6 1 (intS (Int.negSucc m))).cps.toList = figs (m + 1) := by rw [pi, e]; rfl
      rw [if_pos (zcz e)];refine ⟨1, rfl, lz, by rw [wx, e]; simp, _, rfl, by rw [ed]; exact wk _, ?_, ?_, fun H1 S1 => ⟨true, rfl, iteF ⟨_, rd, l640, by omega, by omega, rfl, ite2 (fun h => absurd h (by simp)) fun _ => ⟨_, rd, l640, q _ S1⟩⟩⟩⟩
      . rw [wx, ed]
        have := jr (m + 1)
        cases h : figs (m + 1) with
        | nil => exact absurd h this
        | cons c cs => simp
      . rw [wx, ed]
        exact lv (by decide) (by omega)
end
def sayL (u : Str) (ns : List Int) : List Str := u :: ns.map intS
def zeo : Sp := fun vs H Q _ => ∃ (l : Addr) (ns : List Int), vs = [.ref l] /\ H l = some (.lst ((ns.map intS).map V.str)) /\ ns.length <= 64 /\ (∀ n ∈ ns, -(10 ^ 60) < n /\ n < 10 ^ 60) /\ ∀ H' l', Same H H' -> H' l' = some (.lst (ns.map V.int)) -> Q (.ref l') H'
def PvNb (ns : List Int) (H : Hp) (i : Nat) (ys : List V) (H' : Hp) : Prop := Same H H' /\ ys = (ns.take i).map V.int
section
variable {P : Program} {w : World} {K : Fg} {mg : Str -> Option Value} {base : Heap} {a : Ad}
theorem ot (B : Bt mg) (ma : FnAt P w K mg base "number_of" 2 ["text"] zbm) (D : zg K mg "numbers_of" sm ["words"]) : FnAt P w K mg base "numbers_of" 3 ["words"] zeo := by
  refine FnAt.of D dt (fun vs H Q E h => ?_) (fun f cdv A outer s H vs Q E hr h => ?_)
  . obtain ⟨l, ns, rfl, _⟩ := h
    rfl
  . obtain ⟨l, ns, rfl, hl, l64, bn, q⟩ := h
    refine ⟨_, (@zf _ _ _ (@zq _ _ _ _ (ym ["word"] ["words"] rfl (@yg _ _ _ _ (pv 0)) (fun _ => (zx (i := 0) (show (["word", "words"] : List Str).Nodup by decide +kernel) rfl (Or.inl rfl))) (fun _ => (@yi _)) (fun _ => (zk ma (hr.mono (by decide)) rfl (za (pv 0) (@zb _)))) rfl (by decide +kernel) rfl rfl))), ?_⟩;rw [show start ["words"] [V.ref l] = [some (V.ref l)] from rfl];simp only [zi, zj, ↓reduceIte];refine ⟨⟨_, .of hl⟩, fun dd => ?_⟩;refine yk (xs := (ns.map intS).map V.str) (PvNb ns H) ⟨Same.refl _, rfl⟩ ?_ ?_ ?_
    . rintro i ys H2 hi ⟨S2, rfl⟩
      refine ⟨?_, .of (S2 _ _ hl)⟩;rw [Za, Zj];exact Zd (ZB _ _) (Zd l64 (by decide))
    . rintro i y ys H2 hy ⟨S2, rfl⟩
      rw [Ze, Ze] at hy
      obtain ⟨n, hn⟩ : ∃ n, ns[i]? = some n := by
        cases e : ns[i]? with
        | none => rw [e] at hy; cases hy
        | some y => exact ⟨y, rfl⟩
      rw [hn] at hy;cases hy;obtain ⟨b1, b2⟩ := bn n (Zi hn);simp only [zi, zj, ↓reduceIte];refine ⟨n, rfl, b1, b2, fun H3 S3 => ⟨S2.trans S3, ?_⟩⟩;rw [Zq, hn, Zn];rfl
    . rintro ys H2 ⟨S2, rfl⟩ l' hl'
      rw [Za, Za, Zt];exact q _ l' (S2.trans (Same.upd (Same.refl _) hl')) zc
end
def sayT (x : Str × List Int) : Str := Str.join (Str.ofString " ") (sayL x.1 x.2)
def xi (d : HD) : List (Str × List Int) := d.words.zip d.worths
def yw (d : HD) : Str := Str.join (Str.ofString " = ") (d.name :: (xi d).map sayT)
def vk (x : Str) : Prop := ∀ c ∈ x.cps.toList, 97 <= c /\ c <= 122
theorem om {y : Str} {c : Nat} : ∀ {ps : List Str}, c ∈ (Str.join y ps).cps.toList -> c ∈ y.cps.toList \/ ∃ p ∈ ps, c ∈ p.cps.toList
  | [], h => by
    have : c ∈ ([] : List Nat) := h;cases this
  | [p], h => .inr ⟨p, ZA, h⟩
  | p :: q :: ps, h => by
    have h' : c ∈ (p ++ y ++ Str.join y (q :: ps)).cps.toList := h;simp only [Str.cps_append, Yk, ZN, ZH] at h'
    rcases h' with h | h | h
    . exact .inr ⟨p, ZA, h⟩
    . exact .inl h
    . rcases om h with h | ⟨z, hz, h⟩
      . exact .inl h
      . exact .inr ⟨z, Zv _ hz, h⟩
theorem zc5 {n : Int} {c : Nat} (h : c ∈ (intS n).cps.toList) : c = 45 \/ (48 <= c /\ c <= 57) := by
  cases n with
  | ofNat m => exact .inr (wk m c (by rw [<- rb]; exact h))
  | negSucc m =>
    rw [lp] at h
    rcases ZK.mp h with z | z
    . exact .inl z
    . exact .inr (wk _ c z)
theorem pw : (Str.ofString " ").cps.toList = [32] := by decide +kernel
theorem zav : (Str.ofString " = ").cps.toList = [32, 61, 32] := by decide +kernel
theorem km {x : Str × List Int} (h : vk x.1) {p : Str} (hp : p ∈ sayL x.1 x.2) {c : Nat} (hc : c ∈ p.cps.toList) : c = 45 \/ (48 <= c /\ c <= 57) \/ (97 <= c /\ c <= 122) := by
  rcases ZK.mp hp with rfl | hp
  . exact .inr (.inr (h c hc))
  . obtain ⟨n, _, rfl⟩ := Zp.mp hp
    rcases zc5 hc with z | z
    . exact .inl z
    . exact .inr (.inl z)
theorem zd4 {x : Str × List Int} (h : vk x.1) : Txt.split (sayT x) (Str.ofString " ") = sayL x.1 x.2 := pp pw (by decide +kernel) (by simp [sayL]) fun p hp hc => by
  have := km h hp hc;omega
theorem zct {d : HD} (hn : vk d.name) (h : ∀ x ∈ xi d, vk x.1) : Txt.split (yw d) (Str.ofString " = ") = d.name :: (xi d).map sayT := j5 zav (by decide) (by decide +kernel) (by simp) fun p hp hc => by
  rcases ZK.mp hp with rfl | hp
  . have := hn _ hc
    omega
  . obtain ⟨x, hx, rfl⟩ := Zp.mp hp
    rcases om hc with z | ⟨p, hp, z⟩
    . rw [pw] at z
      simp at z
    . have := km (h x hx) hp z
      omega
structure LsAt (H : Hp) (as : List Addr) (rs : List (List Str)) : Prop where
  len : as.length = rs.length
  at' : ∀ (i : Nat) (b : Addr) (r : List Str), as[i]? = some b -> rs[i]? = some r -> H b = some (.lst (r.map V.str))
theorem LsAt.mono {H H' : Hp} {as : List Addr} {rs : List (List Str)} (S : Same H H') (h : LsAt H as rs) : LsAt H' as rs := ⟨h.len, fun i b r e1 e2 => S _ _ (h.at' i b r e1 e2)⟩
structure NsAt (H : Hp) (as : List Addr) (rs : List (List Int)) : Prop where
  len : as.length = rs.length
  at' : ∀ (i : Nat) (b : Addr) (r : List Int), as[i]? = some b -> rs[i]? = some r -> H b = some (.lst (r.map V.int))
theorem NsAt.mono {H H' : Hp} {as : List Addr} {rs : List (List Int)} (S : Same H H') (h : NsAt H as rs) : NsAt H' as rs := ⟨h.len, fun i b r e1 e2 => S _ _ (h.at' i b r e1 e2)⟩
theorem cj {α β : Type} {as : List α} {rs : List β} {b b' : α} {r r' : β} {i : Nat} (hl : as.length = rs.length) (e1 : (as ++ [b])[i]? = some b') (e2 : (rs ++ [r])[i]? = some r') : (as[i]? = some b' /\ rs[i]? = some r') \/ (b' = b /\ r' = r) := by
  by_cases hi : i < as.length
  . rw [Zg hi] at e1
    rw [Zg (by omega)] at e2;exact .inl ⟨e1, e2⟩
  . have hx : i = as.length := by
      have := (Zc.mp e1).1;rw [Zo, Yd] at this;omega
    subst hx;rw [Zf (by omega), YZ] at e1;rw [Zf (by omega), hl, YZ] at e2;exact .inr ⟨(Option.some.inj e1).symm, (Option.some.inj e2).symm⟩
theorem LsAt.snoc {H : Hp} {as : List Addr} {rs : List (List Str)} {b : Addr} {r : List Str} (h : LsAt H as rs) (hb : H b = some (.lst (r.map V.str))) : LsAt H (as ++ [b]) (rs ++ [r]) := ⟨by simp [h.len], fun i b' r' e1 e2 => by
  rcases cj h.len e1 e2 with ⟨z1, z2⟩ | ⟨rfl, rfl⟩
  . exact h.at' i b' r' z1 z2
  . exact hb⟩
theorem NsAt.snoc {H : Hp} {as : List Addr} {rs : List (List Int)} {b : Addr} {r : List Int} (h : NsAt H as rs) (hb : H b = some (.lst (r.map V.int))) : NsAt H (as ++ [b]) (rs ++ [r]) := ⟨by simp [h.len], fun i b' r' e1 e2 => by
  rcases cj h.len e1 e2 with ⟨z1, z2⟩ | ⟨rfl, rfl⟩
  . exact h.at' i b' r' z1 z2
  . exact hb⟩
def PvSs (xs : List (Str × List Int)) (H : Hp) (i : Nat) (ys : List V) (H' : Hp) : Prop := Same H H' /\ ∃ ss : List Addr, ys = ss.map V.ref /\ LsAt H' ss ((xs.take i).map fun x => sayL x.1 x.2)
def PvWd (xs : List (Str × List Int)) (H : Hp) (i : Nat) (ys : List V) (H' : Hp) : Prop := H' = H /\ ys = (xs.take i).map fun x => V.str x.1
def PvGw (xs : List (Str × List Int)) (H : Hp) (i : Nat) (ys : List V) (H' : Hp) : Prop := Same H H' /\ ∃ gs : List Addr, ys = gs.map V.ref /\ NsAt H' gs ((xs.take i).map fun x => x.2)
def zbd : Sp := fun vs H Q _ => ∃ d : HD, vs = [.str (yw d)] /\ vk d.name /\ (∀ x ∈ xi d, vk x.1 /\ x.2.length <= 8 /\ (∀ n ∈ x.2, -(10 ^ 60) < n /\ n < 10 ^ 60) /\ (sayT x).length <= sizeLine) /\ (xi d).length <= 8 /\ d.words.length = d.worths.length /\ (yw d).length <= sizeLine /\ ∀ H' x, Same H H' -> HandAt H' x d -> Q (.ref x.t) H'
theorem cut1 (x : Str) (ys : List Str) : cutV ((x :: ys).map V.str) (some 1) none = ys.map V.str := k6 (k := 1) (by simp)
section
variable {P : Program} {w : World} {K : Fg} {mg : Str -> Option Value} {base : Heap} {a : Ad}
theorem nu (B : Bt mg) (ot : FnAt P w K mg base "numbers_of" 3 ["words"] zeo) (D : zg K mg "hand_from" qa ["text"]) : FnAt P w K mg base "hand_from" 4 ["text"] zbd := by
  refine FnAt.of D sc_hand_from (fun vs H Q E h => ?_) (fun f cdv A outer s H vs Q E hr h => ?_)
  . obtain ⟨d, rfl, _⟩ := h
    rfl
  . obtain ⟨d, rfl, pn, ps, l8, lw, lz, q⟩ := h
    refine ⟨_, (@ze _ _ _ _ _ (zv (i := 1) sc_hand_from.nd rfl (Or.inl rfl) (xa PySem.F.plainAttrs_str PySem.F.slot_str_split PySem.F.type_str_split ud (pv 0) (za (@zm _ _ _ _) (@zb _)))) (@ze _ _ _ _ _ (fm (i := 2) ["part"] ["text", "parts", "sayings"] sc_hand_from.nd rfl rfl rfl (@yg _ _ _ _ (@rc _ _ _ _ _ _ _ _ _ _ ml (pv 1) (@px _ _ _ (@zd _ _ _ _)) (@pz _))) (fun _ => (zx (i := 0) (show (["part", "text", "parts", "sayings"] : List Str).Nodup by decide +kernel) rfl (Or.inl rfl))) (fun _ => (@yi _)) (fun _ => (xa PySem.F.plainAttrs_str PySem.F.slot_str_split PySem.F.type_str_split ud (pv 0) (za (@zm _ _ _ _) (@zb _)))) rfl (by decide +kernel) rfl rfl rfl) (@zf _ _ _ (@zq _ _ _ _ (@y0 _ _ _ _ _ (za (@zu _ _ _ _ _ _ _ z3 (pv 1) (@zd _ _ _ _) (fun _ _ => rfl)) (za (ym ["saying"] ["text", "parts", "sayings"] rfl (@yg _ _ _ _ (pv 2)) (fun _ => (zx (i := 0) (show (["saying", "text", "parts", "sayings"] : List Str).Nodup by decide +kernel) rfl (Or.inl rfl))) (fun _ => (@yi _)) (fun _ => (@zu _ _ _ _ _ _ _ z3 (pv 0) (@zd _ _ _ _) (fun _ _ => rfl))) rfl (by decide +kernel) rfl rfl) (za (ym ["saying"] ["text", "parts", "sayings"] rfl (@yg _ _ _ _ (pv 2)) (fun _ => (zx (i := 0) (show (["saying", "text", "parts", "sayings"] : List Str).Nodup by decide +kernel) rfl (Or.inl rfl))) (fun _ => (@yi _)) (fun _ => (zk ot (hr.mono (by decide)) rfl (za (@rc _ _ _ _ _ _ _ _ _ _ ml (pv 0) (@px _ _ _ (@zd _ _ _ _)) (@pz _)) (@zb _)))) rfl (by decide +kernel) rfl rfl) (@zb _))))))))), ?_⟩;rw [show start ["text", "parts", "sayings"] [V.str (yw d)] = [some (V.str (yw d)), none, none] from rfl];simp only [zi, zj, ↓reduceIte];have sp1 := zct pn fun x hx => (ps x hx).1
    generalize hxs : xi d = xs at *;refine ⟨rfl, by decide +kernel, lz, ?_, fun l hl => ?_⟩
    . rw [sp1, ZL, Za]
      exact Zd (show _ <= 9 by omega) (by decide)
    rw [sp1];have S1 : Same H (upd H l (.lst ((d.name :: xs.map sayT).map V.str))) := Same.upd (Same.refl _) hl;have t1 : upd H l (.lst ((d.name :: xs.map sayT).map V.str)) l = some (.lst ((d.name :: xs.map sayT).map V.str)) := zc;generalize upd H l (.lst ((d.name :: xs.map sayT).map V.str)) = H1 at *;refine ⟨_, .of t1, fun p hp => ?_⟩;rw [show cutV ((d.name :: xs.map sayT).map V.str) (some 1) none = (xs.map sayT).map V.str from cut1 _ _];have S2 : Same H1 (upd H1 p (.lst ((xs.map sayT).map V.str))) := Same.upd (Same.refl _) hp;have t2 : upd H1 p (.lst ((xs.map sayT).map V.str)) p = some (.lst ((xs.map sayT).map V.str)) := zc;generalize upd H1 p (.lst ((xs.map sayT).map V.str)) = H2 at *;refine ⟨⟨_, .of t2⟩, fun dd => ?_⟩;refine yk (xs := (xs.map sayT).map V.str) (PvSs xs H2) ⟨Same.refl _, [], rfl, rfl, fun i b r e => by simp at e⟩ ?_ ?_ ?_
    . rintro i ys H3 hi ⟨S3, ss, rfl, L3⟩
      refine ⟨?_, .of (S3 _ _ t2)⟩;rw [Za, L3.len, Za, Zj];exact Zd (ZB _ _) (Zd l8 (by decide))
    . rintro i y ys H3 hy ⟨S3, ss, rfl, L3⟩
      rw [Ze, Ze] at hy
      obtain ⟨x, hx⟩ : ∃ x, xs[i]? = some x := by
        cases e : xs[i]? with
        | none => rw [e] at hy; cases hy
        | some y => exact ⟨y, rfl⟩
      rw [hx] at hy;cases hy;obtain ⟨p1, p2, p3, p4⟩ := ps x (Zi hx);simp only [zi, zj, ↓reduceIte];rw [zd4 p1];refine ⟨rfl, by decide +kernel, p4, ?_, fun m hm => ?_⟩
      . rw [sayL, ZL, Za]
        exact Zd (show _ <= 9 by omega) (by decide)
      have S4 : Same H3 (upd H3 m (.lst ((sayL x.1 x.2).map V.str))) := Same.upd (Same.refl _) hm;refine ⟨S3.trans S4, ss ++ [m], by simp, ?_⟩;rw [Zq, hx, Zn];exact (L3.mono S4).snoc zc
    . rintro ys H3 ⟨S3, ss, rfl, L3⟩ g hg
      rw [Za, Za, Zt] at L3;have S4 : Same H3 (upd H3 g (.lst (ss.map V.ref))) := Same.upd (Same.refl _) hg;have t4 : upd H3 g (.lst (ss.map V.ref)) g = some (.lst (ss.map V.ref)) := zc;generalize upd H3 g (.lst (ss.map V.ref)) = H4 at *;have L4 := L3.mono S4;have S14 := S2.trans (S3.trans S4);have ls := L4.len;rw [Za] at ls;refine ⟨_, .of (S14 _ _ t1), V.str d.name, zn (j := 0) rfl, ⟨_, .of t4⟩, fun _ => ?_⟩;refine yk (xs := ss.map V.ref) (PvWd xs H4) ⟨rfl, rfl⟩ ?_ ?_ ?_
      . rintro i ys H5 hi ⟨rfl, rfl⟩
        refine ⟨?_, .of t4⟩;rw [Za, Zj];exact Zd (ZB _ _) (Zd l8 (by decide))
      . rintro i y ys H5 hy ⟨rfl, rfl⟩
        obtain ⟨c, hc, rfl⟩ := ld hy;have hi : i < xs.length := by have := (Zc.mp hc).1; omega
        have hx : xs[i]? = some xs[i] := Zb hi;generalize xs[i] = x at hx;have hcl := L4.at' i c (sayL x.1 x.2) hc (by rw [Ze, hx]; rfl);simp only [zi, zj, ↓reduceIte];refine ⟨_, .of hcl, V.str x.1, zn (j := 0) rfl, rfl, ?_⟩;rw [Zq, hx, Zn];rfl
      . rintro ys H5 ⟨rfl, rfl⟩ wl hwl
        rw [Za, ls, Zt];have S6 : Same H5 (upd H5 wl (.lst (xs.map fun x => V.str x.1))) := Same.upd (Same.refl _) hwl;have t6 : upd H5 wl (.lst (xs.map fun x => V.str x.1)) wl = some (.lst (xs.map fun x => V.str x.1)) := zc;generalize upd H5 wl (.lst (xs.map fun x => V.str x.1)) = H6 at *;refine ⟨⟨_, .of (S6 _ _ t4)⟩, fun _ => ?_⟩;refine yk (xs := ss.map V.ref) (PvGw xs H6) ⟨Same.refl _, [], rfl, rfl, fun i b r e => by simp at e⟩ ?_ ?_ ?_
        . rintro i ys H7 hi ⟨S7, gs, rfl, N7⟩
          refine ⟨?_, .of (S7 _ _ (S6 _ _ t4))⟩;rw [Za, N7.len, Za, Zj];exact Zd (ZB _ _) (Zd l8 (by decide))
        . rintro i y ys H7 hy ⟨S7, gs, rfl, N7⟩
          obtain ⟨c, hc, rfl⟩ := ld hy;have hi : i < xs.length := by have := (Zc.mp hc).1; omega
          have hx : xs[i]? = some xs[i] := Zb hi;generalize xs[i] = x at hx;obtain ⟨p1, p2, p3, p4⟩ := ps x (Zi hx);have hcl := (S6.trans S7) _ _ (L4.at' i c (sayL x.1 x.2) hc (by rw [Ze, hx]; rfl));simp only [zi, zj, ↓reduceIte];refine ⟨_, .of hcl, fun e he => ?_⟩;rw [show cutV ((sayL x.1 x.2).map V.str) (some 1) none = (x.2.map intS).map V.str from cut1 _ _];have S8 : Same H7 (upd H7 e (.lst ((x.2.map intS).map V.str))) := Same.upd (Same.refl _) he;refine ⟨e, x.2, rfl, zc, by omega, p3, fun H9 l9 S9 h9 => ⟨S7.trans (S8.trans S9), gs ++ [l9], by simp, ?_⟩⟩;rw [Zq, hx, Zn];exact (N7.mono (S8.trans S9)).snoc h9
        . rintro ys H7 ⟨S7, gs, rfl, N7⟩ gl hgl
          rw [Za, ls, Zt] at N7;have S8 : Same H7 (upd H7 gl (.lst (gs.map V.ref))) := Same.upd (Same.refl _) hgl;have t8 : upd H7 gl (.lst (gs.map V.ref)) gl = some (.lst (gs.map V.ref)) := zc;generalize upd H7 gl (.lst (gs.map V.ref)) = H8 at *;refine ⟨by decide, fun tp htp => ?_⟩;have S9 : Same H8 (upd H8 tp (.tup [V.str d.name, V.ref wl, V.ref gl])) := Same.upd (Same.refl _) htp;refine q _ ⟨tp, wl, gl, gs⟩ (S1.trans (S14.trans (S6.trans (S7.trans (S8.trans S9))))) ⟨zc, ?_, S9 _ _ t8, ?_, fun i r ns e1 e2 => ?_⟩
          . have e : xs.map (fun x => V.str x.1) = d.words.map V.str := by
              rw [<- hxs, xi, <- List.map_fst_zip (l₁ := d.words) (l₂ := d.worths) (by omega), ZS, List.map_fst_zip (by omega)];rfl
            rw [<- e];exact (S7.trans (S8.trans S9)) _ _ t6
          . have e : xs.map (fun x => x.2) = d.worths := by rw [<- hxs, xi]; exact List.map_snd_zip (by omega)
            rw [<- e];exact N7.len
          . have e : xs.map (fun x => x.2) = d.worths := by rw [<- hxs, xi]; exact List.map_snd_zip (by omega)
            rw [<- e] at e2;exact (N7.mono (S8.trans S9)).at' i r ns e1 e2
end
def vh (outs : List Str) (ds : List HD) : Str := Str.join (Str.ofString " / ") (Str.join (Str.ofString " ") outs :: ds.map yw)
theorem zfy : (Str.ofString " / ").cps.toList = [32, 47, 32] := by decide +kernel
structure ik (outs : List Str) (ds : List HD) : Prop where
  plain : ∀ x ∈ outs, vk x
  name : ∀ d ∈ ds, vk d.name
  says : ∀ d ∈ ds, ∀ x ∈ xi d, vk x.1 /\ x.2.length <= 8 /\ (∀ n ∈ x.2, -(10 ^ 60) < n /\ n < 10 ^ 60) /\ (sayT x).length <= sizeLine
  len : ∀ d ∈ ds, (yw d).length <= sizeLine
  olen : (Str.join (Str.ofString " ") outs).length <= sizeLine
  all : (vh outs ds).length <= sizeLine
theorem gr {outs : List Str} (h0 : outs ≠ []) (h : ∀ x ∈ outs, vk x) : Txt.split (Str.join (Str.ofString " ") outs) (Str.ofString " ") = outs := pp pw (by decide +kernel) h0 fun p hp hc => by
  have := h p hp _ hc;omega
theorem zaf {outs : List Str} {ds : List HD} (T : ik outs ds) : Txt.split (vh outs ds) (Str.ofString " / ") = Str.join (Str.ofString " ") outs :: ds.map yw := j5 zfy (by decide) (by decide +kernel) (by simp) fun p hp hc => by
  rcases ZK.mp hp with rfl | hp
  . rcases om hc with z | ⟨p, hp, z⟩
    . rw [pw] at z
      simp at z
    . have := T.plain p hp _ z
      omega
  . obtain ⟨d, hd, rfl⟩ := Zp.mp hp
    rcases om hc with z | ⟨p, hp, z⟩
    . rw [zav] at z
      simp at z
    . rcases ZK.mp hp with rfl | hp
      . have := T.name d hd _ z
        omega
      . obtain ⟨x, hx, rfl⟩ := Zp.mp hp
        rcases om z with z | ⟨p, hp, z⟩
        . rw [pw] at z
          simp at z
        . have := km (T.says d hd x hx).1 hp z
          omega
def zbg : Sp := fun vs H Q _ => ∃ (outs : List Str) (ds : List HD), vs = [.str (vh outs ds)] /\ GoodHouse outs ds /\ ik outs ds /\ ∀ H' p o h hs, Same H H' -> HHouse H' p o h hs outs ds -> Q (.ref p) H'
def PvHd (ds : List HD) (H : Hp) (i : Nat) (ys : List V) (H' : Hp) : Prop := Same H H' /\ ∃ xs : List HX, ys = xs.map (fun x => V.ref x.t) /\ xs.length = (ds.take i).length /\ ∀ (j : Nat) (x : HX) (d : HD), xs[j]? = some x -> (ds.take i)[j]? = some d -> HandAt H' x d
section
variable {P : Program} {w : World} {K : Fg} {mg : Str -> Option Value} {base : Heap} {a : Ad}
theorem oq (B : Bt mg) (nu : FnAt P w K mg base "hand_from" 4 ["text"] zbd) (gd : FnAtX P w K mg base "house_of" 7 ["outcomes", "hands"] c3) (D : zg K mg "read_house" ur ["text"]) : FnAtX P w K mg base "read_house" 8 ["text"] zbg := by
  refine FnAtX.of D sc_read_house (fun vs H Q E h => ?_) (fun f cdv A outer s H vs Q E hr h => ?_)
  . obtain ⟨outs, ds, rfl, _⟩ := h
    rfl
  . obtain ⟨outs, ds, rfl, G, T, q⟩ := h
    refine ⟨_, (@ze _ _ _ _ _ (PS.nox (zv (i := 1) sc_read_house.nd rfl (Or.inl rfl) (xa PySem.F.plainAttrs_str PySem.F.slot_str_split PySem.F.type_str_split ud (pv 0) (za (@zm _ _ _ _) (@zb _))))) (@zf _ _ _ (@zq _ _ _ _ (yq gd (hr.mono (by decide)) (ye rfl) rfl (za (xa PySem.F.plainAttrs_str PySem.F.slot_str_split PySem.F.type_str_split ud (@zu _ _ _ _ _ _ _ z3 (pv 1) (@zd _ _ _ _) (fun _ _ => rfl)) (za (@zm _ _ _ _) (@zb _))) (za (ym ["part"] ["text", "parts"] rfl (@yg _ _ _ _ (@rc _ _ _ _ _ _ _ _ _ _ ml (pv 1) (@px _ _ _ (@zd _ _ _ _)) (@pz _))) (fun _ => (zx (i := 0) (show (["part", "text", "parts"] : List Str).Nodup by decide +kernel) rfl (Or.inl rfl))) (fun _ => (@yi _)) (fun _ => (zk nu (hr.mono (by decide)) rfl (za (pv 0) (@zb _)))) rfl (by decide +kernel) rfl rfl) (@zb _))))))), ?_⟩;rw [show start ["text", "parts"] [V.str (vh outs ds)] = [some (V.str (vh outs ds)), none] from rfl];simp only [zi, zj, ↓reduceIte];have d4 := G.hands;have o8 := G.outs1;have sp1 := zaf T;have sp2 := gr (outs := outs) (fun e => by rw [e] at o8; simp at o8) T.plain;refine ⟨rfl, by decide +kernel, T.all, ?_, fun l hl => ?_⟩
    . rw [sp1, ZL, Za]
      exact Zd (show _ <= 9 by omega) (by decide)
    rw [sp1];have S1 : Same H (upd H l (.lst ((Str.join (Str.ofString " ") outs :: ds.map yw).map V.str))) := Same.upd (Same.refl _) hl;have t1 : upd H l (.lst ((Str.join (Str.ofString " ") outs :: ds.map yw).map V.str)) l = some (.lst ((Str.join (Str.ofString " ") outs :: ds.map yw).map V.str)) := zc;generalize upd H l (.lst ((Str.join (Str.ofString " ") outs :: ds.map yw).map V.str)) = H1 at *;refine ⟨_, .of t1, V.str (Str.join (Str.ofString " ") outs), zn (j := 0) rfl, rfl, _, rfl, by decide +kernel, T.olen, ?_, fun o ho => ?_⟩
    . rw [sp2]
      exact Zd (show _ <= 9 by omega) (by decide)
    rw [sp2];have S2 : Same H1 (upd H1 o (.lst (outs.map V.str))) := Same.upd (Same.refl _) ho;have t2 : upd H1 o (.lst (outs.map V.str)) o = some (.lst (outs.map V.str)) := zc;generalize upd H1 o (.lst (outs.map V.str)) = H2 at *;refine ⟨_, .of (S2 _ _ t1), fun p hp => ?_⟩;rw [show cutV ((Str.join (Str.ofString " ") outs :: ds.map yw).map V.str) (some 1) none = (ds.map yw).map V.str from cut1 _ _];have S3 : Same H2 (upd H2 p (.lst ((ds.map yw).map V.str))) := Same.upd (Same.refl _) hp;have t3 : upd H2 p (.lst ((ds.map yw).map V.str)) p = some (.lst ((ds.map yw).map V.str)) := zc;generalize upd H2 p (.lst ((ds.map yw).map V.str)) = H3 at *;refine ⟨⟨_, .of t3⟩, fun dd => ?_⟩;refine yk (xs := (ds.map yw).map V.str) (PvHd ds H3) ⟨Same.refl _, [], rfl, rfl, fun j x d e => by simp at e⟩ ?_ ?_ ?_
    . rintro i ys H4 hi ⟨S4, xs, rfl, lx, A4⟩
      refine ⟨?_, .of (S4 _ _ t3)⟩;rw [Za, lx, Zj];exact Zd (ZB _ _) (Zd (show _ <= 4 by omega) (by decide))
    . rintro i y ys H4 hy ⟨S4, xs, rfl, lx, A4⟩
      rw [Ze, Ze] at hy
      obtain ⟨d, hd⟩ : ∃ d, ds[i]? = some d := by
        cases e : ds[i]? with
        | none => rw [e] at hy; cases hy
        | some y => exact ⟨y, rfl⟩
      rw [hd] at hy;cases hy;have hm := Zi hd;have w8 := (G.words1 d hm).2;have ro := G.rows d hm;simp only [zi, zj, ↓reduceIte];refine ⟨d, rfl, T.name d hm, T.says d hm, ?_, ro.symm, T.len d hm, fun H5 x S5 hx => ⟨S4.trans S5, xs ++ [x], by simp, ?_, fun j x' d' e1 e2 => ?_⟩⟩
      . rw [xi, List.length_zip]
        omega
      . rw [Zq, hd, Zo, Zo, lx]
        rfl
      . rw [Zq, hd] at e2
        rcases cj lx e1 e2 with ⟨z1, z2⟩ | ⟨rfl, rfl⟩
        . exact (A4 j x' d' z1 z2).mono S5
        . exact hx
    . rintro ys H4 ⟨S4, xs, rfl, lx, A4⟩ b hb
      rw [Za, Za, Zt] at lx A4;have S5 : Same H4 (upd H4 b (.lst (xs.map fun x => V.ref x.t))) := Same.upd (Same.refl _) hb;have t5 : upd H4 b (.lst (xs.map fun x => V.ref x.t)) b = some (.lst (xs.map fun x => V.ref x.t)) := zc;generalize upd H4 b (.lst (xs.map fun x => V.ref x.t)) = H5 at *;exact ⟨o, b, outs, xs, ds, rfl, (S3.trans (S4.trans S5)) _ _ t2, ⟨t5, lx, fun i x d e1 e2 => (A4 i x d e1 e2).mono S5⟩, G, fun H' p' o' h' hs S' hH => q H' p' o' h' hs (S1.trans (S2.trans (S3.trans (S4.trans (S5.trans S'))))) hH⟩
end
def uo : List Str := ["house", "rule", "deal"]
def wj (a r : Str) : Str := a ++ Str.ofString " " ++ r
theorem bf {a r : Str} (h : a ∈ uo) : Txt.partition (wj a r) (Str.ofString " ") = (a, Str.ofString " ", r) := zhp (c := 32) pw (by
  simp only [uo, ZK, Zx, or_false] at h
  rcases h with rfl | rfl | rfl <;> decide +kernel)
def zds : Sp := fun vs H Q _ => ∃ a r : Str, vs = [.str (wj a r)] /\ a ∈ uo /\ (wj a r).length <= sizeLine /\ ∀ H', Same H H' -> Q .non H'
section
variable {P : Program} {w : World} {K : Fg} {mg : Str -> Option Value} {base : Heap} {a : Ad}
theorem ou (B : Bt mg) (C : Ct K mg a) (g_MAKERS : na P w K mg "MAKERS" [("rule", "rule_table"), ("best", "weighted_table")]) (g_ANSWERS : na P w K mg "ANSWERS" [("deal", "deal_told"), ("pays", "pays_told"), ("verdict", "verdict_told"), ("menu", "menu_told")]) (D : zg K mg "refuse_row" sg ["row"]) : FnAtX P w K mg base "refuse_row" 1 ["row"] zds := by
  refine FnAtX.of D sc_refuse_row (fun vs H Q E h => ?_) (fun f cdv A outer s H vs Q E hr h => ?_)
  . obtain ⟨a, r, rfl, _⟩ := h
    rfl
  . obtain ⟨b, r, rfl, hb, lz, q⟩ := h
    refine ⟨_, (@ze _ _ _ _ _ (@yd _ _ _ _ _ _ _ _ (@xn _ _ _ _ (xg (zy y4 rfl B.isinstance yu (za (pv 0) (za (se rfl B.str on) (@zb _)))))) (@zf _ _ _ (yv rfl C.q_NoRow.toErr rfl C.m_NoRow (yh rfl) (za (@zm _ _ _ _) (@zb _)))) (@zz _)) (@ze _ _ _ _ _ (PS.nox (zv (i := 1) sc_refuse_row.nd rfl (Or.inl rfl) (@zu _ _ _ _ _ _ _ yb (xa PySem.F.plainAttrs_str PySem.F.slot_str_partition PySem.F.type_str_partition kj (pv 0) (za (@zm _ _ _ _) (@zb _))) (@zd _ _ _ _) (fun _ _ => rfl)))) (@ze _ _ _ _ _ (@yd _ _ _ _ _ _ _ _ (PW.pt (@c5 _ _ _ _ _ _ _ (@z5 _ _ _ _ _ _ _ _ vx (pv 1) (@zm _ _ _ _) (z9 _)) (@c5 _ _ _ _ _ _ _ (@z5 _ _ _ _ _ _ _ _ eu (pv 1) (oa rfl g_MAKERS) (by with_unfolding_all rfl)) (@za2 _ _ _ _ (@z5 _ _ _ _ _ _ _ _ eu (pv 1) (oa rfl g_ANSWERS) (by with_unfolding_all rfl)))))) (@zf _ _ _ (yv rfl C.q_NoRow.toErr rfl C.m_NoRow (yh rfl) (za (@zm _ _ _ _) (@zb _)))) (@zz _)) (@zf _ _ _ (@yd _ _ _ _ _ _ _ _ (PW.pt (@c5 _ _ _ _ _ _ _ (@z5 _ _ _ _ _ _ _ _ xt (pv 1) (@zm _ _ _ _) (z9 _)) (@za2 _ _ _ _ (@z5 _ _ _ _ _ _ _ _ vx (pv 0) (pv 1) (z9 _))))) (@zf _ _ _ (yv rfl C.q_NoRow.toErr rfl C.m_NoRow (yh rfl) (za (@zm _ _ _ _) (@zb _)))) (@zz _)))))), ?_⟩;rw [show start ["row", "first"] [V.str (wj b r)] = [some (V.str (wj b r)), none] from rfl];simp only [zi, zj, ↓reduceIte];refine ⟨_, .str _, true, jm, iteF ⟨rfl, by decide +kernel, lz, fun l hl => ?_⟩⟩;rw [bf hb];have S1 : Same H (upd H l (.tup [V.str b, V.str (Str.ofString " "), V.str r])) := Same.upd (Same.refl _) hl;have t1 : upd H l (.tup [V.str b, V.str (Str.ofString " "), V.str r]) l = some (.tup [V.str b, V.str (Str.ofString " "), V.str r]) := zc;refine ⟨_, .of t1, V.str b, zn (j := 0) rfl, rfl, ?_⟩;generalize upd H l (.tup [V.str b, V.str (Str.ofString " "), V.str r]) = H1 at *
    have nv : ¬ decide (V.str b = V.str (Str.ofString "verdict")) = true := by
      simp only [uo, ZK, Zx, or_false] at hb
      rcases hb with rfl | rfl | rfl <;> decide +kernel
    simp only [uo, ZK, Zx, or_false] at hb
    rcases hb with rfl | rfl | rfl
    . exact ite2 (fun h => absurd h (by decide +kernel)) fun _ => ⟨rfl, ite2 (fun h => absurd h nv) fun _ => q _ S1⟩
    . exact ite2 (fun _ p hp => ⟨_, rfl, _, hp, ite2 (fun h => absurd h (by decide +kernel)) fun _ => ⟨rfl, ite2 (fun h => absurd h nv) fun _ => q _ S1⟩⟩) fun h => absurd (by decide +kernel) h
    . exact ite2 (fun _ p hp => ⟨_, rfl, _, hp, ite2 (fun _ p2 hp2 => ⟨_, rfl, _, hp2, ite2 (fun h => absurd h (by decide +kernel)) fun _ => ⟨rfl, ite2 (fun h => absurd h nv) fun _ => q _ S1⟩⟩) fun h => absurd (by decide +kernel) h⟩) fun h => absurd (by decide +kernel) h
end
def uc (C dx : Addr) (h t : V) : HO := .ins C dx [("house", h), ("table", t)]
def layT (K : Fg) (x : Addr) (Q : VK) : VK := fun v H => ∃ C dx fs, H x = some (.ins C dx fs) /\ Cls K C /\ NoAttr K C "table" /\ fs.length < 1000 /\ Q (.str "ok") (upd H x (.ins C dx (putF "table" v fs)))
def spSay (K : Fg) (C : Addr) (Sr Sd : Sp) : Sp := fun vs H Q E => ∃ (x dx : Addr) (h t : V) (b r : Str), vs = [.ref x, .str (wj b r)] /\ H x = some (uc C dx h t) /\ b ∈ uo /\ (wj b r).length <= sizeLine /\
  ((b = "house" /\ ∃ (outs : List Str) (ds : List HD), r = vh outs ds /\ GoodHouse outs ds /\ ik outs ds /\ ∀ H' p o hh hs, Same H H' -> HHouse H' p o hh hs outs ds -> Q (.str "ok") (upd (upd H' x (uc C dx (.ref p) t)) x (uc C dx (.ref p) .non))) \/
   (b = "rule" /\ ∃ p, h = .ref p /\ ∀ H1, Same H H1 -> Sr [.ref p, .str r] H1 (layT K x Q) fun c _ H' => E c none H') \/
   (b = "deal" /\ ∃ p d, h = .ref p /\ t = .ref d /\ ∀ H1, Same H H1 -> Sd [.ref p, .ref d, .str r] H1 Q fun c _ H' => E c none H'))
theorem lt2 (v h t : V) : (putF "house" v [(("house" : Str), h), ("table", t)]).length < 1000 := by
  show ([(("house" : Str), v), ("table", t)] : List (Str × V)).length < 1000
  simp
section
variable {P : Program} {w : World} {K : Fg} {mg : Str -> Option Value} {base : Heap} {a : Ad}
theorem uv {Sr Sd : Sp} (B : Bt mg) (C : Ct K mg a) (c_Desk : jh K mg "Desk" a.Desk "Desk.__init__" xu ["self"] ["house", "table"]) (g_MAKERS : na P w K mg "MAKERS" [("rule", "rule_table"), ("best", "weighted_table")]) (g_ANSWERS : na P w K mg "ANSWERS" [("deal", "deal_told"), ("pays", "pays_told"), ("verdict", "verdict_told"), ("menu", "menu_told")]) (ou : FnAtX P w K mg base "refuse_row" 1 ["row"] zds) (oq : FnAtX P w K mg base "read_house" 8 ["text"] zbg) (f_rule_table : FnAtX P w K mg base "rule_table" 47 ["house", "rest"] Sr) (f_deal_told : FnAtX P w K mg base "deal_told" 12 ["house", "table", "rest"] Sd) (D : MtIn K a.Desk "say" "Desk.say" qz ["self", "row"]) : ca P w K mg base a.Desk "say" 48 ["self", "row"] (spSay K a.Desk Sr Sd) := by
  refine zf2 D sc_Desk_say (fun vs H Q E h => ?_) (fun f cdv A outer s H vs Q E hr h => ?_)
  . obtain ⟨x, dx, h, t, b, r, rfl, _⟩ := h
    rfl
  . obtain ⟨x, dx, h, t, b, r, rfl, hx, hb, lz, ways⟩ := h
    refine ⟨_, (@ze _ _ _ _ _ (ul (yq ou (hr.mono (by decide)) (ye rfl) rfl (za (pv 1) (@zb _)))) (@ze _ _ _ _ _ (PS.nox (zv (i := 2) sc_Desk_say.nd rfl (Or.inl rfl) (xa PySem.F.plainAttrs_str PySem.F.slot_str_partition PySem.F.type_str_partition kj (pv 1) (za (@zm _ _ _ _) (@zb _))))) (@ze _ _ _ _ _ (PS.nox (zv (i := 3) sc_Desk_say.nd rfl (Or.inl rfl) (@zu _ _ _ _ _ _ _ yb (pv 2) (@zd _ _ _ _) (fun _ _ => rfl)))) (@ze _ _ _ _ _ (PS.nox (zv (i := 4) sc_Desk_say.nd rfl (Or.inl rfl) (@zu _ _ _ _ _ _ _ yb (pv 2) (@zd _ _ _ _) (fun _ _ => rfl)))) (@ze _ _ _ _ _ (@yd _ _ _ _ _ _ _ _ (@z5 _ _ _ _ _ _ _ _ xt (pv 3) (@zm _ _ _ _) (z9 _)) (@ze _ _ _ _ _ (@ku _ _ _ _ _ _ _ _ (pv 0) (yq oq (hr.mono (by decide)) (ye rfl) rfl (za (pv 4) (@zb _))) rfl) (@ze _ _ _ _ _ (PS.nox (@ku _ _ _ _ _ _ _ _ (pv 0) (@qf _ _ _) rfl)) (@zf _ _ _ (PS.nox (@zq _ _ _ _ (@zm _ _ _ _)))))) (@zz _)) (@ze _ _ _ _ _ (@yd _ _ _ _ _ _ _ _ (@z5 _ _ _ _ _ _ _ _ av (@ky _ _ _ _ _ (pv 0) rfl) (@qf _ _ _) (z9 _)) (@zf _ _ _ (yv rfl C.q_NoStand.toErr rfl C.m_NoStand (yh rfl) (za (@zm _ _ _ _) (@zb _)))) (@zz _)) (@ze _ _ _ _ _ (@yd _ _ _ _ _ _ _ _ (@z5 _ _ _ _ _ _ _ _ op_inG (pv 3) (oa rfl g_MAKERS) (by with_unfolding_all rfl)) (@ze _ _ _ _ _ (@ku _ _ _ _ _ _ _ _ (pv 0) (cz 47 ["house", "rest"] (@zbh _ _ _ _ _ _ (oa rfl g_MAKERS) (pv 3) (fun _ _ => rfl)) (hr.mono (by decide)) (ye rfl) (za (@ky _ _ _ _ _ (pv 0) rfl) (za (pv 4) (@zb _)))) rfl) (@zf _ _ _ (PS.nox (@zq _ _ _ _ (@zm _ _ _ _))))) (@zz _)) (@ze _ _ _ _ _ (@yd _ _ _ _ _ _ _ _ (@z5 _ _ _ _ _ _ _ _ av (@ky _ _ _ _ _ (pv 0) rfl) (@qf _ _ _) (z9 _)) (@zf _ _ _ (yv rfl C.q_NoStand.toErr rfl C.m_NoStand (yh rfl) (za (@zm _ _ _ _) (@zb _)))) (@zz _)) (@zf _ _ _ (@zq _ _ _ _ (cz 12 ["house", "table", "rest"] (@zbh _ _ _ _ _ _ (oa rfl g_ANSWERS) (pv 3) (fun _ _ => rfl)) (hr.mono (by decide)) (ye rfl) (za (@ky _ _ _ _ _ (pv 0) rfl) (za (@ky _ _ _ _ _ (pv 0) rfl) (za (pv 4) (@zb _))))))))))))))), ?_⟩;rw [show start ["self", "row", "parts", "first", "rest"] [V.ref x, V.str (wj b r)] = [some (V.ref x), some (V.str (wj b r)), none, none, none] from rfl];refine zcm fun T hT => ?_
    simp only [zi, zj, ↓reduceIte];refine ⟨b, r, rfl, hb, lz, fun H1 S1 => ?_⟩;refine ⟨rfl, by decide +kernel, lz, fun l hl => ?_⟩;rw [bf hb];have S2 : Same H1 (upd H1 l (.tup [V.str b, V.str (Str.ofString " "), V.str r])) := Same.upd (Same.refl _) hl;have t2 : upd H1 l (.tup [V.str b, V.str (Str.ofString " "), V.str r]) l = some (.tup [V.str b, V.str (Str.ofString " "), V.str r]) := zc;refine ⟨_, .of t2, V.str b, zn (j := 0) rfl, _, .of t2, V.str r, zn (j := 2) rfl, ?_⟩;generalize upd H1 l (.tup [V.str b, V.str (Str.ofString " "), V.str r]) = H2 at *;have S02 := S1.trans S2;have nh := c_Desk.no "house" (by simp);have nt := c_Desk.no "table" (by simp)
    rcases ways with ⟨rfl, outs, ds, rfl, G, TO, q⟩ | ⟨rfl, p, rfl, q⟩ | ⟨rfl, p, d, rfl, rfl, q⟩
    . rw [hT]
      clear hT T;refine hideK fun T hT => ?_
      simp only [zi, zj, ↓reduceIte];refine ⟨rfl, ite2 (fun _ => ?_) fun h => absurd (by decide +kernel) h⟩;rw [hT];clear hT T;simp only [zi, zj, ↓reduceIte];refine ⟨outs, ds, rfl, G, TO, fun H3 p o hh hs S3 hH => ?_⟩;have hx3 := (S02.trans S3) _ _ hx;refine ⟨_, _, _, hx3, c_Desk.cl, nh, by simp, _, _, _, zc, c_Desk.cl, nt, lt2 _ _ _, q H3 p o hh hs (S02.trans S3) hH⟩
    . have hx2 := S02 _ _ hx
      obtain ⟨fr, fd, e1, k1, b1, G1⟩ := f_rule_table.ex;have FR : FnRX P w K mg base fr 47 ["house", "rest"] Sr := ⟨fd, k1, b1, G1⟩;rw [hT];clear hT T;simp only [zi, zj, ↓reduceIte];exact ⟨rfl, ite2 (fun h => absurd h (by decide +kernel)) fun _ => ⟨_, _, _, hx2, c_Desk.cl, nh, _, rfl, ite2 (fun h => absurd h (by simp)) fun _ g hg => ⟨_, hg, ite2 (fun _ g2 hg2 => ⟨"rule_table", fr, _, hg2, rfl, e1, Sr, FR, _, _, _, hx2, c_Desk.cl, nh, _, rfl, q H2 S02⟩) fun h => absurd (by decide +kernel) h⟩⟩⟩
    . have hx2 := S02 _ _ hx
      obtain ⟨fr, fd, e1, k1, b1, G1⟩ := f_deal_told.ex;have FR : FnRX P w K mg base fr 12 ["house", "table", "rest"] Sd := ⟨fd, k1, b1, G1⟩;rw [hT];clear hT T;simp only [zi, zj, ↓reduceIte];refine ⟨rfl, ite2 (fun h => absurd h (by decide +kernel)) fun _ => ⟨_, _, _, hx2, c_Desk.cl, nh, _, rfl, ite2 (fun h => absurd h (by simp)) fun _ g hg => ⟨_, hg, ite2 (fun h => absurd h (by decide +kernel)) fun _ => ⟨_, _, _, hx2, c_Desk.cl, nt, _, rfl, ite2 (fun h => absurd h (by simp)) fun _ g2 hg2 => ⟨"deal_told", fr, _, hg2, rfl, e1, Sd, FR, _, _, _, hx2, c_Desk.cl, nh, _, rfl, _, _, _, hx2, c_Desk.cl, nt, _, rfl, q H2 S02⟩⟩⟩⟩⟩
end
def rKey (r : List Str) : List Key := r.map Sum.inr
theorem za3 (r : List Str) : (rKey r).map kV = r.map V.str := by
  rw [rKey, ZS];rfl
def zc6 : Sp := fun vs H Q _ => ∃ (d : Addr) (kvs : List (List Key × V)) (row : List Str) (v : V), vs = [.ref d, .str (Str.join (Str.ofString " ") row)] /\ H d = some (.dT kvs) /\ valV kvs (rKey row) = some v /\ row ≠ [] /\ (∀ x ∈ row, vk x) /\ row.length <= 8 /\ (Str.join (Str.ofString " ") row).length <= sizeLine /\ ∀ H' p, Same H H' -> H' p = some (.tup (row.map V.str)) -> Q (.ref p) H'
def zbv : Sp := fun vs H Q _ => ∃ (p d : Addr) (kvs : List (List Key × V)) (row : List Str) (v : V), vs = [.ref p, .ref d, .str (Str.join (Str.ofString " ") row)] /\ H d = some (.dT kvs) /\ valV kvs (rKey row) = some v /\ row ≠ [] /\ (∀ x ∈ row, vk x) /\ row.length <= 8 /\ (Str.join (Str.ofString " ") row).length <= sizeLine /\ ∀ H', Same H H' -> Q v H'
section
variable {P : Program} {w : World} {K : Fg} {mg : Str -> Option Value} {base : Heap} {a : Ad}
theorem m3 (B : Bt mg) (C : Ct K mg a) (D : zg K mg "row_from" qu ["table", "rest"]) : FnAtX P w K mg base "row_from" 1 ["table", "rest"] zc6 := by
  refine FnAtX.of D sc_row_from (fun vs H Q E h => ?_) (fun f cdv A outer s H vs Q E hr h => ?_)
  . obtain ⟨d, kvs, row, v, rfl, _⟩ := h
    rfl
  . obtain ⟨d, kvs, row, v, rfl, hd, hv, r0, rp, r8, lz, q⟩ := h
    refine ⟨_, (@ze _ _ _ _ _ (PS.nox (zv (i := 2) sc_row_from.nd rfl (Or.inl rfl) (yo xp rfl B.tuple xv (za (xa PySem.F.plainAttrs_str PySem.F.slot_str_split PySem.F.type_str_split ud (pv 1) (za (@zm _ _ _ _) (@zb _))) (@zb _))))) (@ze _ _ _ _ _ (@yd _ _ _ _ _ _ _ _ (@z5 _ _ _ _ _ _ _ _ (zd1 (hu10 hr)) (pv 2) (pv 0) (by with_unfolding_all rfl)) (@zf _ _ _ (yv rfl C.q_NoWord.toErr rfl C.m_NoWord (yh rfl) (za (@zm _ _ _ _) (@zb _)))) (@zz _)) (@zf _ _ _ (PS.nox (@zq _ _ _ _ (pv 2)))))), ?_⟩;rw [show start ["table", "rest", "row"] [V.ref d, V.str (Str.join (Str.ofString " ") row)] = [some (V.ref d), some (V.str (Str.join (Str.ofString " ") row)), none] from rfl];simp only [zi, zj, ↓reduceIte];have sp := gr r0 rp;refine ⟨rfl, by decide +kernel, lz, ?_, fun l hl => ?_⟩
    . rw [sp]
      exact Zd r8 (by decide)
    rw [sp];have S1 : Same H (upd H l (.lst (row.map V.str))) := Same.upd (Same.refl _) hl;have t1 : upd H l (.lst (row.map V.str)) l = some (.lst (row.map V.str)) := zc;generalize upd H l (.lst (row.map V.str)) = H1 at *;refine ⟨_, .of t1, fun p hp => ?_⟩;have S2 : Same H1 (upd H1 p (.tup (row.map V.str))) := Same.upd (Same.refl _) hp;have t2 : upd H1 p (.tup (row.map V.str)) p = some (.tup (row.map V.str)) := zc;generalize upd H1 p (.tup (row.map V.str)) = H2 at *;have S02 := S1.trans S2
    have g : DGet H2 d (.ref p) (some v) := by
      have := DGet.t (k := rKey row) (S02 _ _ hd) (b := p) (by rw [za3]; exact t2)
      rwa [hv] at this
    exact ⟨_, g, ite2 (fun h => absurd h (by simp)) fun _ => q _ p S02 t2⟩
theorem f_deal_told (B : Bt mg) (m3 : FnAtX P w K mg base "row_from" 1 ["table", "rest"] zc6) (D : zg K mg "deal_told" rh ["house", "table", "rest"]) : FnAtX P w K mg base "deal_told" 12 ["house", "table", "rest"] zbv := by
  refine FnAtX.of D ar (fun vs H Q E h => ?_) (fun f cdv A outer s H vs Q E hr h => ?_)
  . obtain ⟨p, d, kvs, row, v, rfl, _⟩ := h
    rfl
  . obtain ⟨p, d, kvs, row, v, rfl, hd, hv, r0, rp, r8, lz, q⟩ := h
    refine ⟨_, (@zf _ _ _ (@zq _ _ _ _ (@zhn _ _ _ _ _ _ (hu10 hr) (pv 1) (yq m3 (hr.mono (by decide)) (ye rfl) rfl (za (pv 1) (za (pv 2) (@zb _)))) (fun _ _ => rfl)))), ?_⟩;rw [show start ["house", "table", "rest"] [V.ref p, V.ref d, V.str (Str.join (Str.ofString " ") row)] = [some (V.ref p), some (V.ref d), some (V.str (Str.join (Str.ofString " ") row))] from rfl];simp only [zi, zj, ↓reduceIte];refine ⟨d, kvs, row, v, rfl, hd, hv, r0, rp, r8, lz, fun H1 b S1 hb => ?_⟩
    have g : DGet H1 d (.ref b) (some v) := by
      have := DGet.t (k := rKey row) (S1 _ _ hd) (b := b) (by rw [za3]; exact hb)
      rwa [hv] at this
    exact ⟨_, g, q _ S1⟩
end
theorem y8 (z : Str) (n : Nat) : (y9 z n).length = z.length * n := by
  unfold y9 Str.length;simp [List.length_flatten, Nat.mul_comm]
theorem zw (y z : Str) : (y ++ z).length = y.length + z.length := by
  show (y.cps ++ z.cps).size = _
  simp [Str.length]
theorem ae {i : Int} (h0 : 0 <= i) (h1 : i < 26) : atI (Str.ofString "abcdefghijklmnopqrstuvwxyz").cps.toList i = some (97 + i.toNat) := by
  have h : ∀ j : Fin 26, (Str.ofString "abcdefghijklmnopqrstuvwxyz").cps.toList[j.val]? = some (97 + j.val) := by decide +kernel
  have := zn (xs := (Str.ofString "abcdefghijklmnopqrstuvwxyz").cps.toList) (j := i.toNat) (v := 97 + i.toNat) (h ⟨i.toNat, by omega⟩)
  rwa [ZY h0] at this
theorem yp (a : Int) {n : Int} (h : 0 < n) : 0 <= a % n /\ a % n < n := ⟨Int.emod_nonneg _ (by omega), YQ _ h⟩
def w26a : List Str := [Str.ofString "deal", Str.ofString "rule", Str.ofString "best", Str.ofString "house", Str.ofString "pays", Str.ofString "verdict", Str.ofString "menu", Str.ofString "ok", Str.ofString "ring", Str.ofString "when", Str.ofString "says", Str.ofString "count", Str.ofString "not"]
def w26b : List Str := [Str.ofString "and", Str.ofString "or", Str.ofString "payable", Str.ofString "a", Str.ofString "b", Str.ofString "c", Str.ofString "aa", Str.ofString "ab", Str.ofString "ba", Str.ofString "d", Str.ofString "e", Str.ofString "f", Str.ofString "g"]
def w26n (j : Nat) : Str := (w26a ++ w26b).getD j ⟨#[]⟩
theorem ze3 : ∀ j : Fin 26, GoodN (w26n j.val) := by unfold GoodN; decide +kernel
theorem zga : ∀ i j : Fin 26, w26n i.val = w26n j.val -> i = j := by decide +kernel
theorem w26_at (j : Fin 26) : (w26a.map V.str ++ w26b.map V.str)[j.val]? = some (V.str (w26n j.val)) := by
  have hl : (w26a ++ w26b).length = 26 := rfl;have h : (w26a ++ w26b)[j.val]? = some (w26a ++ w26b)[j.val] := Zb (by rw [hl]; exact j.isLt);rw [<- Zn, Ze, w26n, Zk, h];rfl
theorem ff {f : Nat -> Str} {n : Nat} (hg : ∀ k, k < n -> GoodN (f k)) (hi : ∀ i j, i < n -> j < n -> f i = f j -> i = j) : (∀ z ∈ (List.range n).map f, GoodN z) /\ ((List.range n).map f).Nodup := by
  refine ⟨fun z hz => ?_, ?_⟩
  . obtain ⟨i, h, rfl⟩ := Zp.mp hz
    exact hg i (Yb.mp h)
  . refine YU.mpr (List.Pairwise.imp_of_mem ?_ (List.nodup_range (n := n)))
    intro i j h1 h2 hne e;exact hne (hi i j (Yb.mp h1) (Yb.mp h2) e)
def zb3 (m : Int) (k : Nat) : Str := w26n ((m + k) % 26).toNat
def m4 (fi : Str) (k : Nat) : Str := y9 fi (k + 1)
def d9 (fi : Str) (p q : Nat) (b st : Int) (k : Nat) : Str := y9 fi p ++ chr1 (97 + ((b + k * st) % 26).toNat) ++ y9 fi q
theorem poolW (m : Int) {n : Nat} (hn : n <= 4) : (∀ z ∈ (List.range n).map (zb3 m), GoodN z) /\ ((List.range n).map (zb3 m)).Nodup := by
  refine ff (fun k _ => ?_) (fun i j hi hj e => ?_)
  . have := yp (m + k) (show (0 : Int) < 26 by decide)
    exact ze3 ⟨((m + k) % 26).toNat, by omega⟩
  . have h1 := yp (m + i) (show (0 : Int) < 26 by decide)
    have h2 := yp (m + j) (show (0 : Int) < 26 by decide);have := zga ⟨((m + i) % 26).toNat, by omega⟩ ⟨((m + j) % 26).toNat, by omega⟩ e;have h3 : ((m + i) % 26).toNat = ((m + j) % 26).toNat := congrArg Fin.val this;omega
theorem bo {fi : Str} {c : Nat} (hf : fi = chr1 c) (hc : 97 <= c /\ c <= 122) : ∀ d ∈ fi.cps.toList, 97 <= d /\ d <= 122 := fun d hd => by
  have : d = c := by rw [hf] at hd; simpa [chr1] using hd
  omega
theorem poolR {fi : Str} {n c : Nat} (hf : fi = chr1 c) (hc : 97 <= c /\ c <= 122) (hn : n <= 4) : (∀ z ∈ (List.range n).map (m4 fi), GoodN z) /\ ((List.range n).map (m4 fi)).Nodup := by
  have hl : fi.length = 1 := by rw [hf]; rfl
  refine ff (fun k hk => ?_) (fun i j hi hj e => ?_)
  . refine ⟨?_, ?_, fun d hd => bo hf hc d (la hd)⟩
    . rw [m4, y8, hl]; omega
    . rw [m4, y8, hl]; omega
  . have := congrArg Str.length e
    rw [m4, m4, y8, y8, hl] at this;omega
theorem poolL {fi : Str} {p q : Nat} {b s : Int} {n c : Nat} (hf : fi = chr1 c) (hc : 97 <= c /\ c <= 122) (hpq : p <= 3 /\ q <= 3) (hs : 0 <= s /\ s < 6) (hn : n <= 4) : (∀ z ∈ (List.range n).map (d9 fi p q b (1 + 2 * s)), GoodN z) /\ ((List.range n).map (d9 fi p q b (1 + 2 * s))).Nodup := by
  have hl : fi.length = 1 := by rw [hf]; rfl
  refine ff (fun k _ => ?_) (fun i j hi hj e => ?_)
  . have := yp (b + k * (1 + 2 * s)) (show (0 : Int) < 26 by decide)
    unfold d9;refine ⟨?_, ?_, fun d hd => ?_⟩
    . rw [zw, zw, y8, y8, hl]
      show 1 <= _ + 1 + _
      omega
    . rw [zw, zw, y8, y8, hl]
      show _ + 1 + _ <= 8
      omega
    . rcases j4 hd with z | z
      . rcases j4 z with z | z
        . exact bo hf hc d (la z)
        . have : d = 97 + ((b + k * (1 + 2 * s)) % 26).toNat := by simpa [chr1] using z
          omega
      . exact bo hf hc d (la z)
  . have h := zhb _ e
    have h1 := yp (b + i * (1 + 2 * s)) (show (0 : Int) < 26 by decide);have h2 := yp (b + j * (1 + 2 * s)) (show (0 : Int) < 26 by decide);have h3 : (b + i * (1 + 2 * s)) % 26 = (b + j * (1 + 2 * s)) % 26 := by omega
    have : s = 0 \/ s = 1 \/ s = 2 \/ s = 3 \/ s = 4 \/ s = 5 := by omega
    rcases this with rfl | rfl | rfl | rfl | rfl | rfl <;> omega
def zc2 : Sp := fun vs H Q _ => ∃ (c top : Int), vs = [.int c, .int top] /\ 10 ^ 18 <= top /\ top <= 10 ^ 59 /\ ∀ v : Int, -(10 ^ 59) <= v -> v <= 10 ^ 59 -> Q (.int v) H
def fh : Sp := fun vs H Q _ => ∃ (c : Int) (many : Nat), vs = [.int c, .int many] /\ many <= 4 /\ ∀ (H' : Hp) (l : Addr) (zs : List Str), Same H H' -> H l = none -> H' l = some (.lst (zs.map V.str)) -> zs.length = many -> (∀ z ∈ zs, GoodN z) -> zs.Nodup -> Q (.ref l) H'
def PvPl (H : Hp) (f : Nat -> Str) (i : Nat) (ys : List V) (H' : Hp) : Prop := H' = H /\ ys = ((List.range i).map f).map V.str
def PvNl (st : L2.St) (l : Addr) (H : Hp) (f : Nat -> Str) (i : Nat) (σ : L2.St) (H' : Hp) : Prop := Same H H' /\ H' l = some (.lst (((List.range i).map f).map V.str)) /\ ∃ v1 v2 v3 : Option V, σ = st ++ [v1, v2, v3]
theorem lq (f : Nat -> Str) (i : Nat) : ((List.range (i + 1)).map f).map V.str = ((List.range i).map f).map V.str ++ [V.str (f i)] := by rw [List.range_succ]; simp
section
variable {P : Program} {w : World} {K : Fg} {mg : Str -> Option Value} {base : Heap} {a : Ad}
theorem yt (B : Bt mg) (D : zg K mg "_law_cell" q8 ["script", "k"]) : FnAt P w K mg base "_law_cell" 1 ["script", "k"] (iu K) := by
  refine FnAt.of D zak (fun vs H Q E h => ?_) (fun f cdv A outer s H vs Q E hr h => ?_)
  . obtain ⟨a, ns, k, rfl, _⟩ := h
    rfl
  . obtain ⟨a, ns, k, rfl, hS, hk, q⟩ := h
    refine ⟨_, (@ze _ _ _ _ _ (@yd _ _ _ _ _ _ _ _ (@z5 _ _ _ _ _ _ _ _ op_lt (pv 1) (zy yc rfl B.len yz (za (pv 0) (@zb _))) (z9 _)) (@zf _ _ _ (@zq _ _ _ _ (@zu _ _ _ _ _ _ _ z3 (pv 0) (pv 1) (fun _ _ => rfl)))) (@zz _)) (@zf _ _ _ (@zq _ _ _ _ (@zd _ _ _ _)))), ?_⟩;rw [show start ["script", "k"] [V.ref a, V.int k] = [some (V.ref a), some (V.int k)] from rfl];simp only [zi, zj, ↓reduceIte];refine ⟨ns.map V.int, .inl hS, ?_⟩;rw [Za];refine ite2 (fun h => ?_) (fun h => ?_)
    . have h' : k < ns.length := of_decide_eq_true h
      have hlt : k.toNat < ns.length := by omega
      have e : ns[k.toNat]? = some ns[k.toNat] := by simp [hlt]
      have e2 := zn (xs := ns.map V.int) (j := k.toNat) (v := V.int ns[k.toNat]) (by rw [Ze, e]; rfl);rw [ZY hk] at e2;exact ⟨ns.map V.int, hS, _, e2, q _⟩
    . exact q 0
theorem p5 (D : zg K mg "_law_number" ux ["cell", "top"]) : FnAt P w K mg base "_law_number" 1 ["cell", "top"] zc2 := by
  refine FnAt.of D d5 (fun vs H Q E h => ?_) (fun f cdv A outer s H vs Q E hr h => ?_)
  . obtain ⟨c, top, rfl, _⟩ := h
    rfl
  . obtain ⟨c, top, rfl, t0, t1, q⟩ := h
    refine ⟨_, (@ze _ _ _ _ _ (@yd _ _ _ _ _ _ _ _ (@z5 _ _ _ _ _ _ _ _ xt (@zo _ _ _ _ _ _ _ _ yn (pv 0) (@zd _ _ _ _)) (@zd _ _ _ _) (z9 _)) (@zf _ _ _ (@zq _ _ _ _ (@zo _ _ _ _ _ _ _ _ ir (@zo _ _ _ _ _ _ _ _ yn (@zo _ _ _ _ _ _ _ _ y1 (pv 0) (@zd _ _ _ _)) (@zd _ _ _ _)) (@zd _ _ _ _)))) (@zz _)) (@ze _ _ _ _ _ (@yd _ _ _ _ _ _ _ _ (@z5 _ _ _ _ _ _ _ _ xt (@zo _ _ _ _ _ _ _ _ yn (pv 0) (@zd _ _ _ _)) (@zd _ _ _ _) (z9 _)) (@zf _ _ _ (@zq _ _ _ _ (@zo _ _ _ _ _ _ _ _ ir (@zo _ _ _ _ _ _ _ _ yn (@zo _ _ _ _ _ _ _ _ y1 (pv 0) (@zd _ _ _ _)) (@zd _ _ _ _)) (@zd _ _ _ _)))) (@zz _)) (@ze _ _ _ _ _ (@yd _ _ _ _ _ _ _ _ (@z5 _ _ _ _ _ _ _ _ xt (@zo _ _ _ _ _ _ _ _ yn (pv 0) (@zd _ _ _ _)) (@zd _ _ _ _) (z9 _)) (@zf _ _ _ (@zq _ _ _ _ (@zo _ _ _ _ _ _ _ _ ir (@zo _ _ _ _ _ _ _ _ yn (@zo _ _ _ _ _ _ _ _ y1 (pv 0) (@zd _ _ _ _)) (@zo _ _ _ _ _ _ _ _ p7 (@zd _ _ _ _) (@zo _ _ _ _ _ _ _ _ iz (@zd _ _ _ _) (@zd _ _ _ _)))) (@zo _ _ _ _ _ _ _ _ iz (@zd _ _ _ _) (@zd _ _ _ _))))) (@zz _)) (@zf _ _ _ (@zq _ _ _ _ (@zo _ _ _ _ _ _ _ _ ir (@zo _ _ _ _ _ _ _ _ yn (@zo _ _ _ _ _ _ _ _ y1 (pv 0) (@zd _ _ _ _)) (@zo _ _ _ _ _ _ _ _ yy (@zo _ _ _ _ _ _ _ _ p7 (@zd _ _ _ _) (pv 1)) (@zd _ _ _ _))) (pv 1))))))), ?_⟩;rw [show start ["cell", "top"] [V.int c, V.int top] = [some (V.int c), some (V.int top)] from rfl];simp only [zi, zj, ↓reduceIte];have h1 := yp (c / 4) (show (0 : Int) < 19 by decide);have h2 := yp (c / 4) (show (0 : Int) < 3 by decide);have h3 := yp (c / 4) (show (0 : Int) < 2 * 10 ^ 18 by decide);have h4 := yp (c / 4) (show (0 : Int) < 2 * top + 1 by omega);refine ⟨by decide, rfl, ite2 (fun h => ⟨⟨by decide, by decide⟩, by decide, q _ (by omega) (by omega)⟩) (fun h => ?_)⟩;refine ⟨by decide, rfl, ite2 (fun h => ⟨⟨by decide, by decide⟩, by decide, q _ (by omega) (by omega)⟩) (fun h => ?_)⟩;refine ⟨by decide, rfl, ite2 (fun h => ⟨⟨by decide, by decide⟩, ⟨by decide, by decide, by decide⟩, .inl ⟨by decide, by decide⟩, by decide, ⟨by decide, by decide, by decide⟩, q _ (by show -(10 ^ 59) <= c / 4 % (2 * 10 ^ 18) - 10 ^ 18; omega) (by show c / 4 % (2 * 10 ^ 18) - 10 ^ 18 <= 10 ^ 59; omega)⟩) (fun h => ?_)⟩;exact ⟨⟨by decide, by decide⟩, .inl ⟨by decide, by decide⟩, by omega, q _ (by omega) (by omega)⟩
theorem w6 (B : Bt mg) (D : zg K mg "_law_names" zt ["cell", "many"]) : FnAt P w K mg base "_law_names" 1 ["cell", "many"] fh := by
  refine FnAt.of D sc_law_names (fun vs H Q E h => ?_) (fun f cdv A outer s H vs Q E hr h => ?_)
  . obtain ⟨c, many, rfl, _⟩ := h
    rfl
  . obtain ⟨c, many, rfl, hm, q⟩ := h
    have s8 : PS ((cxOf CX0 P w K mg base ["cell", "many", "letters", "words", "other", "names", "k", "sign", "head"] "_law_names" (zh zt) f cdv A outer s H E).nox) ((ya zt).getD 8 (.Pass ⟨0, 0, 0, 0⟩)) _ := (@zq _ _ _ _ (pv 5));have b8 : PSs (cxOf CX0 P w K mg base ["cell", "many", "letters", "words", "other", "names", "k", "sign", "head"] "_law_names" (zh zt) f cdv A outer s H E).nox ((ya zt).drop 8) _ := (@zgk _ _ _ _ _ @s8 rfl rfl);have s7 : PS ((cxOf CX0 P w K mg base ["cell", "many", "letters", "words", "other", "names", "k", "sign", "head"] "_law_names" (zh zt) f cdv A outer s H E).nox) ((ya zt).getD 7 (.Pass ⟨0, 0, 0, 0⟩)) _ := (xz PassesOwn.never rfl (wp rfl B.range (za (pv 1) (@zb _))) (zx (i := 6) sc_law_names.nd rfl (Or.inl rfl)) (@ze _ _ _ _ _ (@zv _ _ 7 _ _ _ _ sc_law_names.nd (by rfl) (by exact Or.inl rfl) (@zu _ _ _ _ _ _ _ cq (pv 2) (@zo _ _ _ _ _ _ _ _ yn (@zo _ _ _ _ _ _ _ _ yy (@zo _ _ _ _ _ _ _ _ y1 (pv 0) (@zd _ _ _ _)) (@zo _ _ _ _ _ _ _ _ p7 (pv 6) (@zo _ _ _ _ _ _ _ _ yy (@zd _ _ _ _) (@zo _ _ _ _ _ _ _ _ p7 (@zd _ _ _ _) (@zo _ _ _ _ _ _ _ _ yn (@zo _ _ _ _ _ _ _ _ y1 (pv 0) (@zd _ _ _ _)) (@zd _ _ _ _)))))) (@zd _ _ _ _)) (fun _ _ => rfl)) (by rfl) (by first | exact Or.inl rfl | exact Or.inr rfl)) (@ze _ _ _ _ _ (@zv _ _ 8 _ _ _ _ sc_law_names.nd (by rfl) (by exact Or.inl rfl) (@zo _ _ _ _ _ _ _ _ fk (pv 4) (@zo _ _ _ _ _ _ _ _ yn (@zo _ _ _ _ _ _ _ _ y1 (pv 0) (@zd _ _ _ _)) (@zd _ _ _ _))) (by rfl) (by first | exact Or.inl rfl | exact Or.inr rfl)) (@zf _ _ _ (ul (xa PySem.F.plainAttrs_list PySem.F.slot_list_append PySem.F.type_list_append ug (pv 5) (za (@zo _ _ _ _ _ _ _ _ z6 (@zo _ _ _ _ _ _ _ _ z6 (pv 8) (pv 7)) (@zo _ _ _ _ _ _ _ _ fk (pv 4) (@zo _ _ _ _ _ _ _ _ yn (@zo _ _ _ _ _ _ _ _ y1 (pv 0) (@zd _ _ _ _)) (@zd _ _ _ _)))) (@zb _))))))));have b7 : PSs (cxOf CX0 P w K mg base ["cell", "many", "letters", "words", "other", "names", "k", "sign", "head"] "_law_names" (zh zt) f cdv A outer s H E).nox ((ya zt).drop 7) _ := (@qe _ _ _ _ _ _ @s7 rfl @b8);have s6 : PS ((cxOf CX0 P w K mg base ["cell", "many", "letters", "words", "other", "names", "k", "sign", "head"] "_law_names" (zh zt) f cdv A outer s H E).nox) ((ya zt).getD 6 (.Pass ⟨0, 0, 0, 0⟩)) _ := (@zv _ _ 5 _ _ _ _ sc_law_names.nd (by rfl) (by exact Or.inl rfl) (@y3 _ _ _ _ (@zb _)) (by rfl) (by first | exact Or.inl rfl | exact Or.inr rfl));have b6 : PSs (cxOf CX0 P w K mg base ["cell", "many", "letters", "words", "other", "names", "k", "sign", "head"] "_law_names" (zh zt) f cdv A outer s H E).nox ((ya zt).drop 6) _ := (@qe _ _ _ _ _ _ @s6 rfl @b7);have s5 : PS ((cxOf CX0 P w K mg base ["cell", "many", "letters", "words", "other", "names", "k", "sign", "head"] "_law_names" (zh zt) f cdv A outer s H E).nox) ((ya zt).getD 5 (.Pass ⟨0, 0, 0, 0⟩)) _ := (@zv _ _ 4 _ _ _ _ sc_law_names.nd (by rfl) (by exact Or.inl rfl) (@zu _ _ _ _ _ _ _ cq (pv 2) (@zo _ _ _ _ _ _ _ _ yn (@zo _ _ _ _ _ _ _ _ y1 (pv 0) (@zd _ _ _ _)) (@zd _ _ _ _)) (fun _ _ => rfl)) (by rfl) (by first | exact Or.inl rfl | exact Or.inr rfl));have b5 : PSs (cxOf CX0 P w K mg base ["cell", "many", "letters", "words", "other", "names", "k", "sign", "head"] "_law_names" (zh zt) f cdv A outer s H E).nox ((ya zt).drop 5) _ := (@qe _ _ _ _ _ _ @s5 rfl @b6);have s4 : PS ((cxOf CX0 P w K mg base ["cell", "many", "letters", "words", "other", "names", "k", "sign", "head"] "_law_names" (zh zt) f cdv A outer s H E).nox) ((ya zt).getD 4 (.Pass ⟨0, 0, 0, 0⟩)) _ := (@yd _ _ _ _ _ _ _ _ (@z5 _ _ _ _ _ _ _ _ xt (@zo _ _ _ _ _ _ _ _ yn (pv 0) (@zd _ _ _ _)) (@zd _ _ _ _) (z9 _)) (@zf _ _ _ (@zq _ _ _ _ (ym ["k"] ["cell", "many", "letters", "words", "other", "names", "k?", "sign", "head"] rfl (wp rfl B.range (za (pv 1) (@zb _))) (fun _ => (zx (i := 0) (show (["k", "cell", "many", "letters", "words", "other", "names", "k?", "sign", "head"] : List Str).Nodup by decide +kernel) rfl (Or.inl rfl))) (fun _ => (@yi _)) (fun _ => (@zo _ _ _ _ _ _ _ _ fk (@zu _ _ _ _ _ _ _ cq (pv 3) (@zo _ _ _ _ _ _ _ _ yn (@zo _ _ _ _ _ _ _ _ y1 (pv 1) (@zd _ _ _ _)) (@zd _ _ _ _)) (fun _ _ => rfl)) (@zo _ _ _ _ _ _ _ _ yy (pv 0) (@zd _ _ _ _)))) rfl (by decide +kernel) rfl rfl))) (@zz _));have b4 : PSs (cxOf CX0 P w K mg base ["cell", "many", "letters", "words", "other", "names", "k", "sign", "head"] "_law_names" (zh zt) f cdv A outer s H E).nox ((ya zt).drop 4) _ := (@qe _ _ _ _ _ _ @s4 rfl @b5);have s3 : PS ((cxOf CX0 P w K mg base ["cell", "many", "letters", "words", "other", "names", "k", "sign", "head"] "_law_names" (zh zt) f cdv A outer s H E).nox) ((ya zt).getD 3 (.Pass ⟨0, 0, 0, 0⟩)) _ := (@yd _ _ _ _ _ _ _ _ (@z5 _ _ _ _ _ _ _ _ xt (@zo _ _ _ _ _ _ _ _ yn (pv 0) (@zd _ _ _ _)) (@zd _ _ _ _) (z9 _)) (@zf _ _ _ (@zq _ _ _ _ (ym ["k"] ["cell", "many", "letters", "words", "other", "names", "k?", "sign", "head"] rfl (wp rfl B.range (za (pv 1) (@zb _))) (fun _ => (zx (i := 0) (show (["k", "cell", "many", "letters", "words", "other", "names", "k?", "sign", "head"] : List Str).Nodup by decide +kernel) rfl (Or.inl rfl))) (fun _ => (@yi _)) (fun _ => (@zu _ _ _ _ _ _ _ z3 (pv 4) (@zo _ _ _ _ _ _ _ _ yn (@zo _ _ _ _ _ _ _ _ yy (@zo _ _ _ _ _ _ _ _ y1 (pv 1) (@zd _ _ _ _)) (pv 0)) (@zd _ _ _ _)) (fun _ _ => rfl))) rfl (by decide +kernel) rfl rfl))) (@zz _));have b3 : PSs (cxOf CX0 P w K mg base ["cell", "many", "letters", "words", "other", "names", "k", "sign", "head"] "_law_names" (zh zt) f cdv A outer s H E).nox ((ya zt).drop 3) _ := (@qe _ _ _ _ _ _ @s3 rfl @b4);have s2 : PS ((cxOf CX0 P w K mg base ["cell", "many", "letters", "words", "other", "names", "k", "sign", "head"] "_law_names" (zh zt) f cdv A outer s H E).nox) ((ya zt).getD 2 (.Pass ⟨0, 0, 0, 0⟩)) _ := (@zv _ _ 3 _ _ _ _ sc_law_names.nd (by rfl) (by exact Or.inr rfl) (@zo _ _ _ _ _ _ _ _ kt (pv 3) (@y3 _ _ _ _ (@za _ _ _ _ _ (@zm _ _ _ _) (@za _ _ _ _ _ (@zm _ _ _ _) (@za _ _ _ _ _ (@zm _ _ _ _) (@za _ _ _ _ _ (@zm _ _ _ _) (@za _ _ _ _ _ (@zm _ _ _ _) (@za _ _ _ _ _ (@zm _ _ _ _) (@za _ _ _ _ _ (@zm _ _ _ _) (@za _ _ _ _ _ (@zm _ _ _ _) (@za _ _ _ _ _ (@zm _ _ _ _) (@za _ _ _ _ _ (@zm _ _ _ _) (@za _ _ _ _ _ (@zm _ _ _ _) (@za _ _ _ _ _ (@zm _ _ _ _) (@za _ _ _ _ _ (@zm _ _ _ _) (@zb _) (zp nofun)) (zp nofun)) (zp nofun)) (zp nofun)) (zp nofun)) (zp nofun)) (zp nofun)) (zp nofun)) (zp nofun)) (zp nofun)) (zp nofun)) (zp nofun)) (zp nofun)))) (by rfl) (by first | exact Or.inl rfl | exact Or.inr rfl));have b2 : PSs (cxOf CX0 P w K mg base ["cell", "many", "letters", "words", "other", "names", "k", "sign", "head"] "_law_names" (zh zt) f cdv A outer s H E).nox ((ya zt).drop 2) _ := (@qe _ _ _ _ _ _ @s2 rfl @b3);have s1 : PS ((cxOf CX0 P w K mg base ["cell", "many", "letters", "words", "other", "names", "k", "sign", "head"] "_law_names" (zh zt) f cdv A outer s H E).nox) ((ya zt).getD 1 (.Pass ⟨0, 0, 0, 0⟩)) _ := (@zv _ _ 3 _ _ _ _ sc_law_names.nd (by rfl) (by exact Or.inr rfl) (@y3 _ _ _ _ (@za _ _ _ _ _ (@zm _ _ _ _) (@za _ _ _ _ _ (@zm _ _ _ _) (@za _ _ _ _ _ (@zm _ _ _ _) (@za _ _ _ _ _ (@zm _ _ _ _) (@za _ _ _ _ _ (@zm _ _ _ _) (@za _ _ _ _ _ (@zm _ _ _ _) (@za _ _ _ _ _ (@zm _ _ _ _) (@za _ _ _ _ _ (@zm _ _ _ _) (@za _ _ _ _ _ (@zm _ _ _ _) (@za _ _ _ _ _ (@zm _ _ _ _) (@za _ _ _ _ _ (@zm _ _ _ _) (@za _ _ _ _ _ (@zm _ _ _ _) (@za _ _ _ _ _ (@zm _ _ _ _) (@zb _) (zp nofun)) (zp nofun)) (zp nofun)) (zp nofun)) (zp nofun)) (zp nofun)) (zp nofun)) (zp nofun)) (zp nofun)) (zp nofun)) (zp nofun)) (zp nofun)) (zp nofun))) (by rfl) (by first | exact Or.inl rfl | exact Or.inr rfl));have b1 : PSs (cxOf CX0 P w K mg base ["cell", "many", "letters", "words", "other", "names", "k", "sign", "head"] "_law_names" (zh zt) f cdv A outer s H E).nox ((ya zt).drop 1) _ := (@qe _ _ _ _ _ _ @s1 rfl @b2);have s0 : PS ((cxOf CX0 P w K mg base ["cell", "many", "letters", "words", "other", "names", "k", "sign", "head"] "_law_names" (zh zt) f cdv A outer s H E).nox) ((ya zt).getD 0 (.Pass ⟨0, 0, 0, 0⟩)) _ := (@zv _ _ 2 _ _ _ _ sc_law_names.nd (by rfl) (by exact Or.inr rfl) (@zm _ _ _ _) (by rfl) (by first | exact Or.inl rfl | exact Or.inr rfl));have b0 : PSs (cxOf CX0 P w K mg base ["cell", "many", "letters", "words", "other", "names", "k", "sign", "head"] "_law_names" (zh zt) f cdv A outer s H E).nox ((ya zt).drop 0) _ := (@qe _ _ _ _ _ _ @s0 rfl @b1);have b_ := @zgl _ _ _ @b0;refine ⟨_, @b_, ?_⟩;clear b_ s0 s1 s2 s3 s4 s5 s6 s7 s8 b0 b1 b2 b3 b4 b5 b6 b7 b8;rw [show start ["cell", "many", "letters", "words", "other", "names", "k", "sign", "head"] [V.int c, V.int many] = [some (V.int c), some (V.int many), none, none, none, none, none, none, none] from rfl];refine hide3 fun T hT => ?_
    simp only [zi, zj, ↓reduceIte];refine ⟨by decide, fun p hp => ?_⟩;have S1 : Same H (upd H p (.lst (w26a.map V.str))) := Same.upd (Same.refl _) hp;have t1 : upd H p (.lst (w26a.map V.str)) p = some (.lst (w26a.map V.str)) := zc
    show _ <= _ /\ ∀ (p_1 : Addr), upd H p (.lst (w26a.map V.str)) p_1 = none -> ∃ x, upd (upd H p (.lst (w26a.map V.str))) p_1 (.lst (w26b.map V.str)) p = some (HO.lst x) /\ ∃ x_1, upd (upd H p (.lst (w26a.map V.str))) p_1 (.lst (w26b.map V.str)) p_1 = some (HO.lst x_1) /\ x.length + x_1.length <= sizeLine /\ ∀ (p_2 : Addr), upd (upd H p (.lst (w26a.map V.str))) p_1 (.lst (w26b.map V.str)) p_2 = none -> T _ _ (upd (upd (upd H p (.lst (w26a.map V.str))) p_1 (.lst (w26b.map V.str))) p_2 (.lst (x ++ x_1)))
    generalize upd H p (.lst (w26a.map V.str)) = H1 at *;refine ⟨by decide, fun p2 hp2 => ?_⟩;have S2 : Same H1 (upd H1 p2 (.lst (w26b.map V.str))) := Same.upd (Same.refl _) hp2;have t2 : upd H1 p2 (.lst (w26b.map V.str)) p2 = some (.lst (w26b.map V.str)) := zc;generalize upd H1 p2 (.lst (w26b.map V.str)) = H2 at *;refine ⟨_, S2 _ _ t1, _, t2, by decide, fun p3 hp3 => ?_⟩;have S3 : Same H2 (upd H2 p3 (.lst (w26a.map V.str ++ w26b.map V.str))) := Same.upd (Same.refl _) hp3;have t3 : upd H2 p3 (.lst (w26a.map V.str ++ w26b.map V.str)) p3 = some (.lst (w26a.map V.str ++ w26b.map V.str)) := zc;generalize upd H2 p3 (.lst (w26a.map V.str ++ w26b.map V.str)) = H3 at *;have S03 := S1.trans (S2.trans S3);rw [hT];clear hT T S1 S2 S3 t1 t2 hp hp2 hp3;simp only [zi, zj, ↓reduceIte];refine ⟨by decide, rfl, ite2 (fun h => ?_) (fun h => ⟨by decide, rfl, ite2 (fun h => ?_) (fun h => ?_)⟩)⟩
    . refine ⟨by omega, by omega, fun d => ?_⟩
      rw [Zw];refine mx (PvPl H3 (zb3 (c / 12))) ⟨rfl, rfl⟩ ?_ ?_ ?_
      . rintro i ys H' hi ⟨rfl, rfl⟩
        rw [Za, Za, Yg];exact Zd (show i <= 9 by omega) (by decide)
      . rintro i ys H' hi ⟨rfl, rfl⟩
        simp only [zi, zj, ↓reduceIte];have h7 := yp (c / 12 + i) (show (0 : Int) < 26 by decide);have a7 := zn (w26_at ⟨((c / 12 + (i : Int)) % 26).toNat, by omega⟩);rw [ZY h7.1] at a7;refine ⟨⟨by decide, by decide⟩, by decide, _, .of t3, _, a7, rfl, ?_⟩;rw [lq];rfl
      . rintro ys H' ⟨rfl, rfl⟩ l hl
        have g := poolW (c / 12) hm;exact q _ l _ (S03.trans (Same.upd (Same.refl _) hl)) (S03.free hl) zc (by rw [Za, Yg]) g.1 g.2
    . refine ⟨by omega, by omega, fun d => ?_⟩
      rw [Zw];have h26 := yp (c / 3) (show (0 : Int) < 26 by decide);have hb := ae h26.1 h26.2;refine mx (PvPl H3 (m4 (chr1 (97 + (c / 3 % 26).toNat)))) ⟨rfl, rfl⟩ ?_ ?_ ?_
      . rintro i ys H' hi ⟨rfl, rfl⟩
        rw [Za, Za, Yg];exact Zd (show i <= 9 by omega) (by decide)
      . rintro i ys H' hi ⟨rfl, rfl⟩
        simp only [zi, zj, ↓reduceIte];rw [show ((i : Int) + 1).toNat = i + 1 by omega];refine ⟨⟨by decide, by decide⟩, by decide, by decide, _, hb, by omega, by omega, ?_, rfl, ?_⟩
        . exact Zd (show 1 * (i + 1) <= 9 by omega) (by decide)
        . rw [lq]
          rfl
      . rintro ys H' ⟨rfl, rfl⟩ l hl
        have g := poolR (fi := chr1 (97 + (c / 3 % 26).toNat)) (n := many) rfl (by omega) hm;exact q _ l _ (S03.trans (Same.upd (Same.refl _) hl)) (S03.free hl) zc (by rw [Za, Yg]) g.1 g.2
    . have h468 := yp (c / 468) (show (0 : Int) < 26 by decide)
      have h5 := yp (c / 5) (show (0 : Int) < 4 by decide);have h7 := yp (c / 7) (show (0 : Int) < 4 by decide);have h78 := yp (c / 78) (show (0 : Int) < 6 by decide);refine ⟨⟨by decide, by decide⟩, by decide, by decide, _, ae h468.1 h468.2, by decide, fun p hp => ⟨by omega, by omega, ?_⟩⟩;have hf : (⟨#[97 + (c / 468 % 26).toNat]⟩ : Str).length = 1 := rfl;have hfc : (⟨#[97 + (c / 468 % 26).toNat]⟩ : Str) = chr1 (97 + (c / 468 % 26).toNat) := rfl;generalize (⟨#[97 + (c / 468 % 26).toNat]⟩ : Str) = fi at *;rw [Zw];have hpn : H p = none := S03.free hp;refine qh (PvNl [some (V.int c), some (V.int ↑many), some (V.str (Str.ofString "abcdefghijklmnopqrstuvwxyz")), some (V.ref p3), some (V.str fi), some (V.ref p)] p H (d9 fi (c / 5 % 4).toNat (c / 7 % 4).toNat (c / 3) (1 + 2 * (c / 78 % 6)))) ⟨S03.trans (Same.upd (Same.refl _) hp), zc, _, _, _, rfl⟩ ?_ ?_
      . rintro i σ H' hi ⟨S4, t4, v1, v2, v3, rfl⟩
        have hb := ae (Int.emod_nonneg (c / 3 + i * (1 + 2 * (c / 78 % 6))) (show (26 : Int) ≠ 0 by decide)) (YQ (c / 3 + i * (1 + 2 * (c / 78 % 6))) (show (0 : Int) < 26 by decide));simp only [zi, zj, ↓reduceIte, Yv, Yo];rw [hf, Nat.one_mul, Nat.one_mul];refine ⟨⟨by decide, by decide⟩, ⟨by decide, by decide⟩, by decide, .inl ⟨by omega, by omega⟩, .inl ⟨by omega, by omega⟩, by decide, by decide, _, hb, ⟨by decide, by decide⟩, by decide, by omega, by omega, ?_, .inl ⟨rfl, _, .of t4⟩, ?_, ⟨by decide, by decide⟩, by decide, by omega, by omega, ?_, ?_, _, t4, ?_, Same.upd S4 hpn, ?_, _, _, _, rfl⟩
        . exact Zd (show _ <= 8 by omega) (by decide)
        . rw [y8, hf]
          exact Zd (show _ <= 20 by show 1 * _ + 1 <= 20; omega) (by decide)
        . exact Zd (show _ <= 8 by omega) (by decide)
        . rw [zw, y8, y8, hf]
          exact Zd (show _ <= 30 by show 1 * _ + 1 + 1 * _ <= 30; omega) (by decide)
        . rw [Za, Za, Yg]
          exact Yn (show i <= 9 by omega) (by decide)
        . rw [zc, lq]
          rfl
      . rintro σ H' ⟨S4, t4, v1, v2, v3, rfl⟩
        have g := poolL (fi := fi) (p := (c / 5 % 4).toNat) (q := (c / 7 % 4).toNat) (b := c / 3) (s := c / 78 % 6) (n := many) hfc (by omega) (by omega) h78 hm;simp only [zi, zj, ↓reduceIte, Yv, Yo];exact q _ p _ S4 hpn t4 (by rw [Za, Yg]) g.1 g.2
end
def HandC (H : Hp) (b : Addr) (x : HX) (d : HD) : Prop := HandAt H x d /\ x.w ≠ b /\ x.g ≠ b /\ ∀ r ∈ x.gs, r ≠ b
theorem HandC.mono {H H' : Hp} {b : Addr} {x : HX} {d : HD} (S : Same H H') (h : HandC H b x d) : HandC H' b x d := ⟨h.1.mono S, h.2⟩
theorem HandC.upd {H : Hp} {b : Addr} {x : HX} {d : HD} {xs ys : List V} (hb : H b = some (.lst xs)) (h : HandC H b x d) : HandC (upd H b (.lst ys)) b x d := by
  obtain ⟨a, h1, h2, h3⟩ := h;refine ⟨⟨?_, ?_, ?_, a.len, fun i r ns e1 e2 => ?_⟩, h1, h2, h3⟩
  . have := a.tup
    rw [z8 (fun z => by rw [z, hb] at this; cases this)]; exact this
  . rw [z8 h1]; exact a.words
  . rw [z8 h2]; exact a.grid
  . rw [z8 (h3 r (Zi e1))]; exact a.row i r ns e1 e2
def HandsC (H : Hp) (b : Addr) (xs : List HX) (ds : List HD) : Prop := xs.length = ds.length /\ ∀ (i : Nat) (x : HX) (d : HD), xs[i]? = some x -> ds[i]? = some d -> HandC H b x d
theorem HandsC.mono {H H' : Hp} {b : Addr} {xs : List HX} {ds : List HD} (S : Same H H') (h : HandsC H b xs ds) : HandsC H' b xs ds := ⟨h.1, fun i x d e1 e2 => (h.2 i x d e1 e2).mono S⟩
theorem HandsC.upd {H : Hp} {b : Addr} {xs : List HX} {ds : List HD} {us ys : List V} (hb : H b = some (.lst us)) (h : HandsC H b xs ds) : HandsC (L2.upd H b (.lst ys)) b xs ds := ⟨h.1, fun i x d e1 e2 => (h.2 i x d e1 e2).upd hb⟩
theorem HandsC.snoc {H : Hp} {b : Addr} {xs : List HX} {ds : List HD} {x : HX} {d : HD} (h : HandsC H b xs ds) (q : HandC H b x d) : HandsC H b (xs ++ [x]) (ds ++ [d]) := by
  refine ⟨by simp [h.1], fun i a e e1 e2 => ?_⟩
  by_cases hi : i < xs.length
  . rw [Zg hi] at e1
    rw [Zg (by rw [<- h.1]; exact hi)] at e2;exact h.2 i a e e1 e2
  . rw [Zf (ZD.mp hi)] at e1
    rw [Zf (by rw [<- h.1]; exact ZD.mp hi)] at e2
    have h0 : i - xs.length = 0 := by
      have := (Zc.mp e1).1;simp at this;omega
    rw [h0] at e1;rw [<- h.1, h0] at e2;simp at e1 e2;subst e1 e2;exact q
structure OkH (n : Nat) (d : HD) : Prop where
  len : 1 <= d.words.length /\ d.words.length <= 3
  good : ∀ z ∈ d.words, GoodN z
  nd : d.words.Nodup
  rows : d.worths.length = d.words.length
  nums : ∀ r ∈ d.worths, r.length = n /\ ∀ x ∈ r, -(10 ^ 60) < x /\ x < 10 ^ 60
structure w9 (n : Nat) (ds : List HD) : Prop where
  len : 1 <= ds.length /\ ds.length <= 3
  good : ∀ d ∈ ds, GoodN d.name
  nd : (ds.map HD.name).Nodup
  hand : ∀ d ∈ ds, OkH n d
theorem bc {outs : List Str} {ds : List HD} (o1 : 1 <= outs.length /\ outs.length <= 4) (og : ∀ z ∈ outs, GoodN z) (od : outs.Nodup) (h : w9 outs.length ds) : GoodHouse outs ds where
  outs1 := by omega
  outsG := og
  outsD := od
  hands := by have := h.len; omega
  handsG := h.good
  handsD := h.nd
  words1 := fun d hd => by have := (h.hand d hd).len; omega
  wordsG := fun d hd => (h.hand d hd).good
  wordsD := fun d hd => (h.hand d hd).nd
  rows := fun d hd => (h.hand d hd).rows
  cols := fun d hd r hr => ((h.hand d hd).nums r hr).1
  nums := fun d hd r hr => ((h.hand d hd).nums r hr).2
  few := Zd (zgw (n := ds.length) (t := 3) (fun x hx => by
    obtain ⟨d, hd, rfl⟩ := Zp.mp hx
    exact (h.hand d hd).len.2) (by rw [Za])) (Zd (Nat.pow_le_pow_right (by decide) h.len.2) (by decide))
def zbf (K : Fg) : Sp := fun vs H Q _ => ∃ (a : Addr) (ns : List Int) (pl : Nat) (top : Int), vs = [.ref a, .int pl, .int top] /\ SqL K H a (ns.map V.int) /\ 1 <= pl /\ pl <= 4 /\ 10 ^ 18 <= top /\ top <= 10 ^ 59 /\ ∀ H' b xs ds, Same H H' -> HandsL H' b xs ds -> w9 pl ds -> Q (.ref b) H'
def PvHs (a nl b : Addr) (pl : Nat) (top mn : Int) (nms : List Str) (H : Hp) (j : Nat) (σ : L2.St) (H' : Hp) : Prop := Same H H' /\ ∃ (xs : List HX) (ds : List HD) (sp : Int) (t1 t2 t3 t4 : Option V), H' b = some (.lst (xs.map fun x => V.ref x.t)) /\ HandsC H' b xs ds /\ ds.length = j /\ ds.map HD.name = nms.take j /\ (∀ d ∈ ds, OkH pl d) /\ 0 <= sp /\ σ = [some (.ref a), some (.int pl), some (.int top), some (.int mn), some (.ref nl), some (.ref b), some (.int sp), t1, t2, t3, t4]
def PvWo (a nl b g : Addr) (pl : Nat) (top mn k sz : Int) (H : Hp) (j : Nat) (σ : L2.St) (H' : Hp) : Prop := Same H H' /\ ∃ (gs : List Addr) (rows : List (List Int)) (sp : Int) (t4 : Option V), H' g = some (.lst (gs.map V.ref)) /\ NsAt H' gs rows /\ rows.length = j /\ (∀ r ∈ gs, r ≠ b /\ r ≠ g) /\ (∀ r ∈ rows, r.length = pl /\ ∀ x ∈ r, -(10 ^ 60) < x /\ x < 10 ^ 60) /\ 0 <= sp /\ σ = [some (.ref a), some (.int pl), some (.int top), some (.int mn), some (.ref nl), some (.ref b), some (.int sp), some (.int k), some (.int sz), some (.ref g), t4]
def PvRw (H : Hp) (i : Nat) (ys : List V) (H' : Hp) : Prop := H' = H /\ ∃ r : List Int, ys = r.map V.int /\ r.length = i /\ ∀ x ∈ r, -(10 ^ 60) < x /\ x < 10 ^ 60
theorem NsAt.past {H : Hp} {g : Addr} {gs : List Addr} {rows : List (List Int)} {o : HO} (h : NsAt H gs rows) (hg : ∀ r ∈ gs, r ≠ g) : NsAt (upd H g o) gs rows := ⟨h.len, fun i b r e1 e2 => by
  rw [z8 (hg b (Zi e1))]
  exact h.at' i b r e1 e2⟩
section
variable {P : Program} {w : World} {K : Fg} {mg : Str -> Option Value} {base : Heap} {a : Ad}
theorem nq (B : Bt mg) (yt : FnAt P w K mg base "_law_cell" 1 ["script", "k"] (iu K)) (p5 : FnAt P w K mg base "_law_number" 1 ["cell", "top"] zc2) (w6 : FnAt P w K mg base "_law_names" 1 ["cell", "many"] fh) (D : zg K mg "_law_hands" ri ["script", "places", "top"]) : FnAt P w K mg base "_law_hands" 2 ["script", "places", "top"] (zbf K) := by
  refine FnAt.of D sc_law_hands (fun vs H Q E h => ?_) (fun f cdv A outer s H vs Q E hr h => ?_)
  . obtain ⟨a, ns, pl, top, rfl, _⟩ := h
    rfl
  . obtain ⟨a, ns, pl, top, rfl, hS, pl1, pl4, tp1, tp2, q⟩ := h
    refine ⟨_, (@ze _ _ _ _ _ (zv (i := 3) sc_law_hands.nd rfl (Or.inl rfl) (@zo _ _ _ _ _ _ _ _ yy (@zd _ _ _ _) (@zo _ _ _ _ _ _ _ _ yn (@zo _ _ _ _ _ _ _ _ y1 (zk yt (hr.mono (by decide)) rfl (za (pv 0) (za (@zd _ _ _ _) (@zb _)))) (@zd _ _ _ _)) (@zd _ _ _ _)))) (@ze _ _ _ _ _ (zv (i := 4) sc_law_hands.nd rfl (Or.inl rfl) (zk w6 (hr.mono (by decide)) rfl (za (zk yt (hr.mono (by decide)) rfl (za (pv 0) (za (@zd _ _ _ _) (@zb _)))) (za (@zd _ _ _ _) (@zb _))))) (@ze _ _ _ _ _ (zv (i := 5) sc_law_hands.nd rfl (Or.inl rfl) (@y3 _ _ _ _ (@zb _))) (@ze _ _ _ _ _ (zv (i := 6) sc_law_hands.nd rfl (Or.inr rfl) (@zd _ _ _ _)) (@ze _ _ _ _ _ (xz PassesOwn.never rfl (wp rfl B.range (za (pv 3) (@zb _))) (zx (i := 7) sc_law_hands.nd rfl (Or.inl rfl)) (@ze _ _ _ _ _ (zv (i := 8) sc_law_hands.nd rfl (Or.inl rfl) (@zo _ _ _ _ _ _ _ _ yy (@zd _ _ _ _) (@zo _ _ _ _ _ _ _ _ yn (@zo _ _ _ _ _ _ _ _ y1 (zk yt (hr.mono (by decide)) rfl (za (pv 0) (za (@zd _ _ _ _) (@zb _)))) (@zu _ _ _ _ _ _ _ z3 (@y3 _ _ _ _ (za (@zd _ _ _ _) (za (@zd _ _ _ _) (za (@zd _ _ _ _) (@zb _))))) (pv 7) (fun _ _ => rfl))) (@zd _ _ _ _)))) (@ze _ _ _ _ _ (zv (i := 9) sc_law_hands.nd rfl (Or.inl rfl) (@y3 _ _ _ _ (@zb _))) (@ze _ _ _ _ _ (xz PassesOwn.never rfl (wp rfl B.range (za (pv 8) (@zb _))) (zx (i := 10) sc_law_hands.nd rfl (Or.inl rfl)) (@ze _ _ _ _ _ (ul (xa PySem.F.plainAttrs_list PySem.F.slot_list_append PySem.F.type_list_append ug (pv 9) (za (ym ["j"] ["script", "places", "top", "many", "called", "hands", "spot", "k", "size", "worths", "t"] rfl (wp rfl B.range (za (pv 1) (@zb _))) (fun _ => (zx (i := 0) (show (["j", "script", "places", "top", "many", "called", "hands", "spot", "k", "size", "worths", "t"] : List Str).Nodup by decide +kernel) rfl (Or.inl rfl))) (fun _ => (@yi _)) (fun _ => (zk p5 (hr.mono (by decide)) rfl (za (zk yt (hr.mono (by decide)) rfl (za (pv 1) (za (@zo _ _ _ _ _ _ _ _ yy (pv 7) (pv 0)) (@zb _)))) (za (pv 3) (@zb _))))) rfl (by decide +kernel) rfl rfl) (@zb _)))) (@zf _ _ _ (zv (i := 6) sc_law_hands.nd rfl (Or.inr rfl) (@zo _ _ _ _ _ _ _ _ yy (pv 6) (pv 1)))))) (@zf _ _ _ (ul (xa PySem.F.plainAttrs_list PySem.F.slot_list_append PySem.F.type_list_append ug (pv 5) (@za _ _ _ _ _ (@y0 _ _ _ _ _ (@za _ _ _ _ _ (@zu _ _ _ _ _ _ _ z3 (pv 4) (pv 7) (fun _ _ => rfl)) (@za _ _ _ _ _ (zk w6 (hr.mono (by decide)) rfl (@za _ _ _ _ _ (zk yt (hr.mono (by decide)) rfl (@za _ _ _ _ _ (pv 0) (@za _ _ _ _ _ (@zo _ _ _ _ _ _ _ _ yy (@zd _ _ _ _) (pv 7)) (@zb _) (zp nofun)) (zp nofun))) (@za _ _ _ _ _ (pv 8) (@zb _) (zp nofun)) (zp nofun))) (@za _ _ _ _ _ (pv 9) (@zb _) (zp nofun)) (zp nofun)) (zp nofun))) (@zb _) (zp nofun))))))))) (@zf _ _ _ (@zq _ _ _ _ (pv 5)))))))), ?_⟩;rw [show start ["script", "places", "top", "many", "called", "hands", "spot", "k", "size", "worths", "t"] [V.ref a, V.int pl, V.int top] = [some (V.ref a), some (V.int pl), some (V.int top), none, none, none, none, none, none, none, none] from rfl];refine zcm fun T hT => ?_
    simp only [zi, zj, ↓reduceIte];refine ⟨a, ns, 0, rfl, hS, by decide, fun c0 => ?_⟩;refine ⟨c0, rfl, ⟨by decide, by decide⟩, by decide, a, ns, 6, rfl, hS, by decide, fun c6 => ?_⟩;refine ⟨c6, 3, rfl, by decide, fun H1 nl nms S1 _ hn1 ln ng nd => ⟨by decide, fun b hb => ?_⟩⟩;have hbn : H b = none := S1.free hb;rw [hT];clear hT T;refine gh fun T hT => ?_
    have h3 := yp (c0 / 4) (show (0 : Int) < 3 by decide);obtain ⟨hn, ehn⟩ : ∃ hn : Nat, 1 + c0 / 4 % 3 = hn := ⟨(1 + c0 / 4 % 3).toNat, by omega⟩;rw [ehn];simp only [zi, zj, ↓reduceIte];refine ⟨by omega, by omega, ?_⟩;rw [Zw];refine qh (PvHs a nl b pl top hn nms H1) ⟨Same.upd (Same.refl _) hb, [], [], 8, _, _, _, _, zc, ⟨rfl, fun i x d e => by simp at e⟩, rfl, by simp, (fun _ z => nomatch z), by decide, rfl⟩ ?_ ?_
    . rintro j σ H3 hj ⟨S3, xs, ds, sp, t1, t2, t3, t4, hb3, hC, lh, hnm, hD, sp0, rfl⟩
      have SA := S1.trans S3;refine hide3 fun T2 hT2 => ?_
      simp only [zi, zj, ↓reduceIte];refine ⟨a, ns, 1, rfl, SA.seq hS, by decide, fun c1 => ⟨by decide, fun p1 hp1 => ?_⟩⟩;have S4 : Same H3 (upd H3 p1 (.lst [V.int 1, V.int 3, V.int 9])) := Same.upd (Same.refl _) hp1;have u4 : upd H3 p1 (.lst [V.int 1, V.int 3, V.int 9]) p1 = some (.lst [V.int 1, V.int 3, V.int 9]) := zc;generalize upd H3 p1 (.lst [V.int 1, V.int 3, V.int 9]) = H4 at *
      have hdv : ∃ d : Int, atI [V.int 1, V.int 3, V.int 9] (j : Int) = some (V.int d) /\ 0 < d /\ d < 1073741824 := by
        have : ∀ k : Fin 3, [V.int 1, V.int 3, V.int 9][k.val]? = some (V.int (([1, 3, 9] : List Int).getD k.val 0)) /\ 0 < ([1, 3, 9] : List Int).getD k.val 0 /\ ([1, 3, 9] : List Int).getD k.val 0 < 1073741824 := by decide
        have h := this ⟨j, by omega⟩;exact ⟨_, zn h.1, h.2⟩
      obtain ⟨dv, edv, dv0, dv1⟩ := hdv;have hsz := yp (c1 / dv) (show (0 : Int) < 3 by decide);obtain ⟨sz, esz⟩ : ∃ sz : Nat, 1 + c1 / dv % 3 = sz := ⟨(1 + c1 / dv % 3).toNat, by omega⟩;refine ⟨_, .of u4, _, edv, c1, rfl, dv, rfl, ⟨dv0, dv1⟩, by decide, by decide, fun g hg => ?_⟩;rw [esz];refine ⟨by omega, by omega, ?_⟩;rw [Zw];have hb4 := S4 _ _ hb3;have hgb : g ≠ b := fun z => by rw [z, hb4] at hg; cases hg
      refine qh (PvWo a nl b g pl top hn j sz H4) ⟨Same.upd (Same.refl _) hg, [], [], sp, _, zc, ⟨rfl, fun i b r e => by simp at e⟩, rfl, (fun _ z => nomatch z), (fun _ z => nomatch z), sp0, rfl⟩ ?_ ?_
      . rintro k σ H5 hk ⟨S5, gs, rows, sp5, t5, hg5, hN, lr, hgs, hro, sp50, rfl⟩
        simp only [zi, zj, ↓reduceIte];refine ⟨.inl ⟨rfl, _, .of hg5⟩, by omega, by omega, fun d => ?_⟩;rw [Zw];refine mx (PvRw H5) ⟨rfl, [], rfl, rfl, fun _ z => nomatch z⟩ ?_ ?_ ?_
        . rintro i ys H6 hi ⟨rfl, r, rfl, lr6, hr6⟩
          rw [Za, lr6];exact Zd (show i <= 9 by omega) (by decide)
        . rintro i ys H6 hi ⟨rfl, r, rfl, lr6, hr6⟩
          simp only [zi, zj, ↓reduceIte];refine ⟨a, ns, sp5 + i, rfl, (SA.trans (S4.trans S5)).seq hS, by omega, fun cv => ⟨cv, top, rfl, tp1, tp2, fun v v1 v2 => ⟨rfl, r ++ [v], by simp, by simp [lr6], fun x hx => ?_⟩⟩⟩
          rcases ZH.mp hx with z | z
          . exact hr6 x z
          . rw [ZC.mp z]
            exact ⟨by omega, by omega⟩
        . rintro ys H6 ⟨rfl, r, rfl, lr6, hr6⟩ l hl
          have hlg : l ≠ g := fun z => by rw [z, hg5] at hl; cases hl
          have hlb : l ≠ b := fun z => by rw [z, S5 _ _ hb4] at hl; cases hl
          have S7 : Same H6 (upd H6 l (.lst (r.map V.int))) := Same.upd (Same.refl _) hl;have u7 : upd H6 l (.lst (r.map V.int)) l = some (.lst (r.map V.int)) := zc;generalize upd H6 l (.lst (r.map V.int)) = H7 at *;have hgl : gs.length = k := by rw [hN.len, lr]
          refine ⟨_, S7 _ _ hg5, ?_, Same.upd (S5.trans S7) hg, gs ++ [l], rows ++ [r], _, _, ?_, ((hN.mono S7).snoc u7).past ?_, by simp [lr], ?_, ?_, ?_, rfl⟩
          . rw [Za, hgl]
            exact Zh (show k < 9 by omega) (by decide)
          . rw [zc, Zn]
            rfl
          . intro x hx
            rcases ZH.mp hx with z | z
            . exact (hgs x z).2
            . rw [ZC.mp z]; exact hlg
          . intro x hx
            rcases ZH.mp hx with z | z
            . exact hgs x z
            . rw [ZC.mp z]; exact ⟨hlb, hlg⟩
          . intro x hx
            rcases ZH.mp hx with z | z
            . exact hro x z
            . rw [ZC.mp z]; exact ⟨lr6, hr6⟩
          . omega
      . rintro σ H5 ⟨S5, gs, rows, sp5, t5, hg5, hN, lr, hgs, hro, sp50, rfl⟩
        show T2 _ _ _
        rw [hT2];clear hT2 T2;simp only [zi, zj, ↓reduceIte];have S35 := S4.trans S5;have hb5 := S35 _ _ hb3;have hn5 := (S3.trans S35) _ _ hn1;have hjn : j < nms.length := by omega
        have ejn : nms[j]? = some nms[j] := Zb hjn;generalize nms[j] = nmj at *;refine ⟨.inl ⟨rfl, _, .of hb5⟩, _, .of hn5, _, zn (j := j) (by rw [Ze, ejn]; rfl), a, ns, 3 + j, rfl, (SA.trans S35).seq hS, by omega, fun cw => ⟨cw, sz, rfl, by omega, fun H6 wl ws S6 hwn hw6 lw wg wd => ⟨by decide, fun t ht => ?_⟩⟩⟩;have hwb : wl ≠ b := fun z => by rw [z, hb5] at hwn; cases hwn
        have S7 : Same H6 (upd H6 t (.tup [V.str nmj, V.ref wl, V.ref g])) := Same.upd (Same.refl _) ht;have u7 : upd H6 t (.tup [V.str nmj, V.ref wl, V.ref g]) t = some (.tup [V.str nmj, V.ref wl, V.ref g]) := zc
        show ∃ x_2, upd H6 t (.tup [V.str nmj, V.ref wl, V.ref g]) b = some (HO.lst x_2) /\ x_2.length < sizeLine /\ PvHs a nl b pl top (↑hn) nms H1 (j + 1) _ (upd (upd H6 t (.tup [V.str nmj, V.ref wl, V.ref g])) b (HO.lst (x_2 ++ [V.ref t])))
        generalize upd H6 t (.tup [V.str nmj, V.ref wl, V.ref g]) = H7 at *;have S57 := S6.trans S7;have S37 := S35.trans S57;have hb7 := S57 _ _ hb5;have hC7 := hC.mono S37;have hN7 := hN.mono S57;have new : HandC H7 b ⟨t, wl, g, gs⟩ ⟨nmj, ws, rows⟩ := ⟨⟨u7, S7 _ _ hw6, S57 _ _ hg5, hN.len, fun i r ns e1 e2 => hN7.at' i r ns e1 e2⟩, hwb, hgb, fun r hr' => (hgs r hr').1⟩;refine ⟨_, hb7, ?_, Same.upd (S3.trans S37) hb, xs ++ [⟨t, wl, g, gs⟩], ds ++ [⟨nmj, ws, rows⟩], _, _, _, _, _, by rw [zc, Zn]; rfl, (hC7.snoc new).upd hb7, by simp [lh], ?_, fun d hd => ?_, sp50, rfl⟩
        . rw [Za, hC.1, lh]
          exact Zh (show j < 9 by omega) (by decide)
        . rw [Zn, hnm, Zq, ejn]
          rfl
        . rcases ZH.mp hd with z | z
          . exact hD d z
          . rw [ZC.mp z]
            exact ⟨by show 1 <= ws.length /\ ws.length <= _; omega, wg, wd, by show rows.length = ws.length; omega, hro⟩
    . rintro σ H3 ⟨S3, xs, ds, sp, t1, t2, t3, t4, hb3, hC, lh, hnm, hD, sp0, rfl⟩
      show T _ _ _
      rw [hT];simp only [zi, zj, ↓reduceIte];refine q H3 b xs ds (S1.trans S3) ⟨hb3, hC.1, fun i x d e1 e2 => (hC.2 i x d e1 e2).1⟩ ⟨by omega, fun d hd => ?_, ?_, hD⟩
      . exact ng _ ((YS hn nms).subset (by rw [<- hnm]; exact Zp.mpr ⟨d, hd, rfl⟩))
      . rw [hnm]
        exact nd.sublist (YS _ _)
end
def zax : Sp := fun vs H Q _ => ∃ (b : Addr) (xs : List HX) (ds : List HD), vs = [.ref b] /\ HandsL H b xs ds /\ ds.length <= 4 /\ (∀ d ∈ ds, d.words.length <= 8) /\ ∀ H' l as, Same H H' -> RwsAt H' l as (yr (ds.map HD.words)) -> Q (.ref l) H'
def PvRo (b : Addr) (H : Hp) (ds : List HD) (i : Nat) (σ : L2.St) (H' : Hp) : Prop := Same H H' /\ ∃ (l : Addr) (as : List Addr) (v1 v2 v3 v4 : Option V), RwsAt H' l as (yr ((ds.map HD.words).take i)) /\ σ = [some (.ref b), some (.ref l), v1, v2, v3, v4]
def PvGm (b l h p : Addr) (rs : List (List Str)) (ws : List Str) (H : Hp) (m : Nat) (σ : L2.St) (H' : Hp) : Prop := Same H H' /\ ∃ (as' : List Addr) (v1 v2 : Option V), H' p = some (.lst (as'.map V.ref)) /\ TupsAt H' as' (xc (rs.take m) ws) /\ σ = [some (.ref b), some (.ref l), some (.ref h), some (.ref p), v1, v2]
def PvGi (b l h p r : Addr) (dn : List (List Str)) (row ws : List Str) (H : Hp) (k : Nat) (σ : L2.St) (H' : Hp) : Prop := Same H H' /\ ∃ (as' : List Addr) (v2 : Option V), H' p = some (.lst (as'.map V.ref)) /\ TupsAt H' as' (dn ++ xh row (ws.take k)) /\ σ = [some (.ref b), some (.ref l), some (.ref h), some (.ref p), some (.ref r), v2]
section
variable {P : Program} {w : World} {K : Fg} {mg : Str -> Option Value} {base : Heap} {a : Ad}
theorem my (D : zg K mg "_law_rows" qw ["hands"]) : FnAt P w K mg base "_law_rows" 1 ["hands"] zax := by
  refine FnAt.of D sc_law_rows (fun vs H Q E h => ?_) (fun f cdv A outer s H vs Q E hr h => ?_)
  . obtain ⟨b, xs, ds, rfl, _⟩ := h
    rfl
  . obtain ⟨b, xs, ds, rfl, hH, h4, h8, q⟩ := h
    refine ⟨_, (@ze _ _ _ _ _ (@zv _ _ 1 _ _ _ _ sc_law_rows.nd rfl (Or.inl rfl) (@y3 _ _ _ _ (@za _ _ _ _ _ (@y0 _ _ _ _ _ (@zb _)) (@zb _) (zp nofun))) rfl (Or.inl rfl)) (@ze _ _ _ _ _ (xz PassesOwn.never rfl (@yg _ _ _ _ (pv 0)) (zx (i := 2) sc_law_rows.nd rfl (Or.inl rfl)) (@ze _ _ _ _ _ (zv (i := 3) sc_law_rows.nd rfl (Or.inl rfl) (@y3 _ _ _ _ (@zb _))) (@ze _ _ _ _ _ (xz PassesOwn.never rfl (@yg _ _ _ _ (pv 1)) (zx (i := 4) sc_law_rows.nd rfl (Or.inl rfl)) (@zf _ _ _ (xz PassesOwn.never rfl (@yg _ _ _ _ (@zu _ _ _ _ _ _ _ yb (pv 2) (@zd _ _ _ _) (fun _ _ => rfl))) (zx (i := 5) sc_law_rows.nd rfl (Or.inl rfl)) (@zf _ _ _ (ul (xa PySem.F.plainAttrs_list PySem.F.slot_list_append PySem.F.type_list_append ug (pv 3) (za (@zo _ _ _ _ _ _ _ _ zaz (pv 4) (@y0 _ _ _ _ _ (za (pv 5) (@zb _)))) (@zb _)))))))) (@zf _ _ _ (zv (i := 1) sc_law_rows.nd rfl (Or.inl rfl) (pv 3)))))) (@zf _ _ _ (@zq _ _ _ _ (pv 1))))), ?_⟩;rw [show start ["hands", "rows", "hand", "longer_ones", "row", "word"] [V.ref b] = [some (V.ref b), none, none, none, none, none] from rfl];simp only [zi, zj, ↓reduceIte];refine ⟨by decide, fun e he => ?_⟩;have S1 : Same H (upd H e (.tup [])) := Same.upd (Same.refl _) he;have t1 : upd H e (.tup []) e = some (.tup []) := zc;generalize upd H e (.tup []) = H1 at *;refine ⟨by decide, fun l hl => ?_⟩;have S2 : Same H1 (upd H1 l (.lst [V.ref e])) := Same.upd (Same.refl _) hl;have t2 : upd H1 l (.lst [V.ref e]) l = some (.lst [V.ref e]) := zc;generalize upd H1 l (.lst [V.ref e]) = H2 at *;have hH2 := hH.mono (S1.trans S2);refine ⟨⟨_, .of hH2.at'⟩, ?_⟩;refine wv (xs := xs.map fun x => V.ref x.t) (PvRo b H2 ds) ⟨Same.refl _, l, [e], _, _, _, _, ⟨t2, TupsAt.one (S2 _ _ t1)⟩, rfl⟩ ?_ ?_ ?_
    . rintro i σ H3 hi ⟨S3, l3, as, v1, v2, v3, v4, hR, rfl⟩
      exact .of (S3 _ _ hH2.at')
    . rintro i x σ H3 hx ⟨S3, l3, as, v1, v2, v3, v4, hR, rfl⟩
      obtain ⟨h, hh, rfl⟩ := yj hx;have hi : i < ds.length := by have := (Zc.mp hh).1; have := hH.len; omega
      have ed : ds[i]? = some ds[i] := Zb hi;have hA := (hH2.mono S3).hand i h _ hh ed;have w8 := h8 _ (Zl hi);have ew : (ds.map HD.words)[i]? = some ds[i].words := by rw [Ze, ed]; rfl
      have hwid := md (ds.map HD.words) i (by rw [Za]; omega)
      have few := ib (wss := ds.map HD.words) (by rw [Za]; exact h4) (fun ws hws => by
        obtain ⟨d, hd, rfl⟩ := Zp.mp hws
        exact h8 d hd) i (by rw [Za]; omega)
      simp only [zi, zj, ↓reduceIte];refine ⟨by decide, fun p hp => ?_⟩;have S4 : Same H3 (upd H3 p (.lst [])) := Same.upd (Same.refl _) hp;have t4 : upd H3 p (.lst []) p = some (.lst []) := zc;generalize upd H3 p (.lst []) = H4 at *;have hR4 := hR.mono S4;generalize hrs : yr ((ds.map HD.words).take i) = rs at *;refine ⟨⟨_, .of hR4.lst⟩, ?_⟩;refine wv (xs := as.map V.ref) (PvGm b l3 h.t p rs ds[i].words H3) ⟨S4, [], _, _, t4, TupsAt.nil, rfl⟩ ?_ ?_ ?_
      . rintro m σ H5 hm ⟨S5, as', v1, v2, hP, hG, rfl⟩
        exact .of (S5 _ _ hR.lst)
      . rintro m x σ H5 hx ⟨S5, as', v1, v2, hP, hG, rfl⟩
        obtain ⟨r, er, rfl⟩ := ld hx;have hm : m < rs.length := by have := (Zc.mp er).1; have := hR.tups.len; omega
        have er2 : rs[m]? = some rs[m] := Zb hm;have hr5 := (hR.mono S5).tups.at' m r _ er er2;have lr5 := hwid _ (Zl hm);have h15 := S5 _ _ hA.tup;have h25 := S5 _ _ hA.words;simp only [zi, zj, ↓reduceIte];refine ⟨_, .of h15, _, zn (j := 1) rfl, _, rfl, ⟨_, .of h25⟩, ?_⟩;refine wv (xs := ds[i].words.map V.str) (PvGi b l3 h.t p r (xc (rs.take m) ds[i].words) rs[m] ds[i].words H3) ⟨S5, as', _, hP, by rw [List.take_zero, xh, Yq, ZO]; exact hG, rfl⟩ ?_ ?_ ?_
        . rintro k σ H6 hk ⟨S6, bs, v3, hP6, t6, rfl⟩
          exact .of (S6 _ _ hA.words)
        . rintro k y σ H6 hy ⟨S6, bs, v3, hP6, t6, rfl⟩
          obtain ⟨z, ez, rfl⟩ := yj hy;have hr6 := (hR.mono S6).tups.at' m r _ er er2;simp only [zi, zj, ↓reduceIte];refine ⟨.inl ⟨rfl, _, .of hP6⟩, by decide, fun u hu => ?_⟩;have S7 : Same H6 (upd H6 u (.tup [V.str z])) := Same.upd (Same.refl _) hu;have t7 : upd H6 u (.tup [V.str z]) u = some (.tup [V.str z]) := zc;generalize upd H6 u (.tup [V.str z]) = H7 at *;refine ⟨_, S7 _ _ hr6, _, t7, ?_, fun H8 w S8 hw => ?_⟩
          . rw [Za, lr5]
            exact Zd (show i + 1 <= 9 by omega) (by decide)
          . have S68 := S7.trans S8
            have hP8 := S68 _ _ hP6;have hk : k < ds[i].words.length := (Zc.mp ez).1;refine ⟨_, hP8, ?_, Same.upd (S6.trans S68) hp, bs ++ [w], _, by rw [zc, Zn]; rfl, TupsAt.past hP8 ?_, rfl⟩
            . rw [Za, t6.len, Zo, rf, ni, Zj, Zj]
              have : min m rs.length * ds[i].words.length <= 4096 * 8 := YN (by omega) w8;exact Yn (show _ <= 4096 * 8 + 8 by omega) (by decide)
            . rw [Zq, ez]
              show TupsAt H8 (bs ++ [w]) (_ ++ xh _ (ds[i].words.take k ++ [z]))
              rw [xh, Zn, <- ZN];exact (t6.mono S68).append (TupsAt.one (by rw [hw]; simp))
        . rintro σ H6 ⟨S6, bs, v3, hP6, t6, rfl⟩
          refine ⟨S6, bs, _, _, hP6, ?_, rfl⟩;rw [Za, Zt] at t6;rw [Zq, er2]
          show TupsAt _ _ (xc (rs.take m ++ [rs[m]]) _)
          rw [gp];exact t6
      . rintro σ H5 ⟨S5, as', v1, v2, hP, hG, rfl⟩
        simp only [zi, zj, ↓reduceIte];rw [Za, hR.tups.len, Zt] at hG;refine ⟨S3.trans S5, p, as', _, _, _, _, ⟨hP, ?_⟩, rfl⟩;rw [vi ew, hrs];exact hG
    . rintro σ H3 ⟨S3, l3, as, v1, v2, v3, v4, hR, rfl⟩
      simp only [zi, zj, ↓reduceIte];rw [Za, hH.len, ZG (by rw [Za]; omega)] at hR;exact q H3 l3 as (S1.trans (S2.trans S3)) hR
end
theorem ra {y : Str} {ps : List Str} {B n : Nat} (hB : ∀ p ∈ ps, p.length <= B) (hn : ps.length <= n) (hy : y.length <= 3) (h : n * (B + 3) <= 100000) : JoinOk y ps = true /\ (Str.join y ps).length <= n * (B + 3) := by
  have h3 : ps.length * (B + 3) <= n * (B + 3) := Nat.mul_le_mul_right _ hn;have h4 : ps.length * y.length <= ps.length * 3 := Nat.mul_le_mul_left _ hy;rw [Nat.mul_add] at h3
  constructor
  . unfold JoinOk
    rw [StrLaws.joinFits (B := B) hB (by omega)];rfl
  . have h1 := StrLaws.join_length_le y ps
    have h2 := StrLaws.sumLen_le ps hB;omega
theorem fz (y p : Str) : ∀ {ps : List Str}, ps ≠ [] -> Str.join y (ps ++ [p]) = Str.join y ps ++ y ++ p
  | [], h => absurd rfl h
  | [q], _ => rfl
  | q :: r :: ps, _ => by
    show q ++ y ++ Str.join y (r :: ps ++ [p]) = q ++ y ++ Str.join y (r :: ps) ++ y ++ p
    rw [fz y p (ZW _ _)];simp only [Str.append_assoc]
theorem GoodN.plain {z : Str} (h : GoodN z) : vk z := h.2.2
structure SayOk (x : Str × List Int) : Prop where
  good : GoodN x.1
  few : x.2.length <= 4
  nums : ∀ n ∈ x.2, -(10 ^ 60) < n /\ n < 10 ^ 60
theorem SayOk.mem {x : Str × List Int} (h : SayOk x) : ∀ p ∈ sayL x.1 x.2, p.length <= 62 := fun p hp => by
  rcases ZK.mp hp with rfl | hp
  . have := h.good.2.1; omega
  . obtain ⟨n, hn, rfl⟩ := Zp.mp hp
    have := h.nums n hn;exact ic (by omega) (by omega)
theorem SayOk.join {x : Str × List Int} (h : SayOk x) : JoinOk (Str.ofString " ") (sayL x.1 x.2) = true /\ (sayT x).length <= 325 :=
  ra (n := 5) h.mem (by rw [sayL, ZL, Za]; have := h.few; omega) (by decide +kernel) (by decide)
theorem OkH.say {n : Nat} {d : HD} (h : OkH n d) (hn : n <= 4) : ∀ x ∈ xi d, SayOk x := fun x hx => by
  obtain ⟨h1, h2⟩ := YH hx;exact ⟨h.good _ h1, by rw [(h.nums _ h2).1]; exact hn, (h.nums _ h2).2⟩
theorem OkH.saysLen {n : Nat} {d : HD} (h : OkH n d) : (xi d).length = d.words.length := by
  rw [xi, List.length_zip, h.rows, Nat.min_self]
def ql (d : HD) (t : Nat) : Str := Str.join (Str.ofString " = ") (d.name :: ((xi d).take t).map sayT)
theorem OkH.to {n : Nat} {d : HD} (h : OkH n d) (hn : n <= 4) (hd : GoodN d.name) (t : Nat) : (ql d t).length <= 1312 := by
  refine (ra (B := 325) (n := 4) (fun p hp => ?_) ?_ (by decide +kernel) (by decide)).2
  . rcases ZK.mp hp with rfl | hp
    . have := hd.2.1; omega
    . obtain ⟨x, hx, rfl⟩ := Zp.mp hp
      exact (h.say hn x (List.mem_of_mem_take hx)).join.2
  . rw [ZL, Za, Zj, h.saysLen]
    have := h.len.2;omega
theorem gw (d : HD) : ql d (xi d).length = yw d := by rw [ql, Zt, yw]
theorem zap {d : HD} {t : Nat} {x : Str × List Int} (h : (xi d)[t]? = some x) : ql d (t + 1) = ql d t ++ Str.ofString " = " ++ sayT x := by
  rw [ql, ql, Zq, h, Zn];exact fz _ _ (ZW _ _)
theorem OkH.tx {n : Nat} {d : HD} (h : OkH n d) (hn : n <= 4) (hd : GoodN d.name) : (yw d).length <= 1312 := by
  rw [<- gw];exact h.to hn hd _
theorem kq {outs : List Str} (og : ∀ z ∈ outs, GoodN z) (o4 : outs.length <= 4) : JoinOk (Str.ofString " ") outs = true /\ (Str.join (Str.ofString " ") outs).length <= 44 :=
  ra (B := 8) (n := 4) (fun p hp => (og p hp).2.1) o4 (by decide +kernel) (by decide)
theorem lc {outs : List Str} {ds : List HD} (og : ∀ z ∈ outs, GoodN z) (o4 : outs.length <= 4) (h : w9 outs.length ds) : JoinOk (Str.ofString " / ") (Str.join (Str.ofString " ") outs :: ds.map yw) = true /\ (vh outs ds).length <= 5260 := by
  refine ra (B := 1312) (n := 4) (fun p hp => ?_) ?_ (by decide +kernel) (by decide)
  . rcases ZK.mp hp with rfl | hp
    . have := (kq og o4).2; omega
    . obtain ⟨d, hd, rfl⟩ := Zp.mp hp
      exact (h.hand d hd).tx o4 (h.good d hd)
  . rw [ZL, Za]
    have := h.len.2;omega
theorem zhk {outs : List Str} {ds : List HD} (og : ∀ z ∈ outs, GoodN z) (o4 : outs.length <= 4) (h : w9 outs.length ds) : ik outs ds where
  plain := fun x hx => (og x hx).plain
  name := fun d hd => (h.good d hd).plain
  says := fun d hd x hx => by
    have s := (h.hand d hd).say o4 x hx;exact ⟨s.good.plain, by have := s.few; omega, s.nums, Zd s.join.2 (by decide)⟩
  len := fun d hd => Zd ((h.hand d hd).tx o4 (h.good d hd)) (by decide)
  olen := Zd (kq og o4).2 (by decide)
  all := Zd (lc og o4 h).2 (by decide)
theorem gg (r : Str) : Str.ofString "house " ++ r = wj "house" r := by
  rw [wj, show ("house" : Str) ++ Str.ofString " " = Str.ofString "house " from by decide +kernel]
def i9 : Sp := fun vs H Q _ => ∃ (o b : Addr) (outs : List Str) (xs : List HX) (ds : List HD), vs = [.ref o, .ref b] /\ H o = some (.lst (outs.map V.str)) /\ HandsL H b xs ds /\ (∀ z ∈ outs, GoodN z) /\ outs.length <= 4 /\ w9 outs.length ds /\ ∀ H', Same H H' -> Q (.str (wj "house" (vh outs ds))) H'
def PvHr (o b p : Addr) (outs : List Str) (ds : List HD) (H : Hp) (i : Nat) (σ : L2.St) (H' : Hp) : Prop := Same H H' /\ ∃ v1 v2 v3 : Option V, H' p = some (.lst ((Str.join (Str.ofString " ") outs :: (ds.take i).map yw).map V.str)) /\ σ = [some (.ref o), some (.ref b), some (.ref p), v1, v2, v3]
def PvTt (o b p h : Addr) (d : HD) (H : Hp) (i : Nat) (σ : L2.St) (H' : Hp) : Prop := Same H H' /\ ∃ v3 : Option V, σ = [some (.ref o), some (.ref b), some (.ref p), some (.ref h), some (.str (ql d i)), v3]
def PvSt (H : Hp) (ns : List Int) (i : Nat) (ys : List V) (H' : Hp) : Prop := H' = H /\ ys = ((ns.take i).map intS).map V.str
section
variable {P : Program} {w : World} {K : Fg} {mg : Str -> Option Value} {base : Heap} {a : Ad}
theorem sf (B : Bt mg) (D : zg K mg "_law_house_row" vc ["outcomes", "hands"]) : FnAt P w K mg base "_law_house_row" 1 ["outcomes", "hands"] i9 := by
  refine FnAt.of D sc_law_house_row (fun vs H Q E h => ?_) (fun f cdv A outer s H vs Q E hr h => ?_)
  . obtain ⟨o, b, outs, xs, ds, rfl, _⟩ := h
    rfl
  . obtain ⟨o, b, outs, xs, ds, rfl, ho, hH, og, o4, hOk, q⟩ := h
    refine ⟨_, (@ze _ _ _ _ _ (zv (i := 2) sc_law_house_row.nd rfl (Or.inl rfl) (@y3 _ _ _ _ (za (xa PySem.F.plainAttrs_str PySem.F.slot_str_join PySem.F.type_str_join jq (@zm _ _ _ _) (za (pv 0) (@zb _))) (@zb _)))) (@ze _ _ _ _ _ (xz PassesOwn.never rfl (@yg _ _ _ _ (pv 1)) (zx (i := 3) sc_law_house_row.nd rfl (Or.inl rfl)) (@ze _ _ _ _ _ (zv (i := 4) sc_law_house_row.nd rfl (Or.inl rfl) (@zu _ _ _ _ _ _ _ yb (pv 3) (@zd _ _ _ _) (fun _ _ => rfl))) (@ze _ _ _ _ _ (xz PassesOwn.never rfl (wp rfl B.range (za (zy yc rfl B.len yz (za (@zu _ _ _ _ _ _ _ yb (pv 3) (@zd _ _ _ _) (fun _ _ => rfl)) (@zb _))) (@zb _))) (zx (i := 5) sc_law_house_row.nd rfl (Or.inl rfl)) (@zf _ _ _ (zv (i := 4) sc_law_house_row.nd rfl (Or.inl rfl) (@zo _ _ _ _ _ _ _ _ z6 (@zo _ _ _ _ _ _ _ _ z6 (pv 4) (@zm _ _ _ _)) (xa PySem.F.plainAttrs_str PySem.F.slot_str_join PySem.F.type_str_join jq (@zm _ _ _ _) (za (@zo _ _ _ _ _ _ _ _ kt (@y3 _ _ _ _ (za (@zu _ _ _ _ _ _ _ z3 (@zu _ _ _ _ _ _ _ yb (pv 3) (@zd _ _ _ _) (fun _ _ => rfl)) (pv 5) (fun _ _ => rfl)) (@zb _))) (ym ["one"] ["outcomes", "hands", "some", "hand", "text", "t"] rfl (@yg _ _ _ _ (@zu _ _ _ _ _ _ _ z3 (@zu _ _ _ _ _ _ _ yb (pv 3) (@zd _ _ _ _) (fun _ _ => rfl)) (pv 5) (fun _ _ => rfl))) (fun _ => (zx (i := 0) (show (["one", "outcomes", "hands", "some", "hand", "text", "t"] : List Str).Nodup by decide +kernel) rfl (Or.inl rfl))) (fun _ => (@yi _)) (fun _ => (yo kg rfl B.str on (za (pv 0) (@zb _)))) rfl (by decide +kernel) rfl rfl)) (@zb _))))))) (@zf _ _ _ (ul (xa PySem.F.plainAttrs_list PySem.F.slot_list_append PySem.F.type_list_append ug (pv 2) (za (pv 4) (@zb _)))))))) (@zf _ _ _ (@zq _ _ _ _ (@zo _ _ _ _ _ _ _ _ z6 (@zm _ _ _ _) (xa PySem.F.plainAttrs_str PySem.F.slot_str_join PySem.F.type_str_join jq (@zm _ _ _ _) (za (pv 2) (@zb _)))))))), ?_⟩;rw [show start ["outcomes", "hands", "some", "hand", "text", "t"] [V.ref o, V.ref b] = [some (V.ref o), some (V.ref b), none, none, none, none] from rfl];simp only [zi, zj, ↓reduceIte];refine ⟨rfl, outs, .of ho, (kq og o4).1, by decide, fun p hp => ?_⟩;rw [xy];have S1 : Same H (upd H p (.lst [V.str (Str.join (Str.ofString " ") outs)])) := Same.upd (Same.refl _) hp;have u1 : upd H p (.lst [V.str (Str.join (Str.ofString " ") outs)]) p = some (.lst [V.str (Str.join (Str.ofString " ") outs)]) := zc;generalize upd H p (.lst [V.str (Str.join (Str.ofString " ") outs)]) = H1 at *;refine ⟨⟨_, .of (S1 _ _ hH.at')⟩, ?_⟩;refine wv (xs := xs.map fun x => V.ref x.t) (PvHr o b p outs ds H) ⟨S1, _, _, _, u1, rfl⟩ ?_ ?_ ?_
    . rintro i σ H3 hi ⟨S3, v1, v2, v3, hP, rfl⟩
      exact .of (S3 _ _ hH.at')
    . rintro i x σ H3 hx ⟨S3, v1, v2, v3, hP, rfl⟩
      obtain ⟨h, hh, rfl⟩ := yj hx;have hi : i < ds.length := by have := (Zc.mp hh).1; have := hH.len; omega
      have ed : ds[i]? = some ds[i] := Zb hi;have hm := Zl hi;generalize ds[i] = d at *;have hA := (hH.mono S3).hand i h _ hh ed;have hD := hOk.hand d hm;have hN := hOk.good d hm;have wl := hD.len;refine zcb fun T hT => ?_
      simp only [zi, zj, ↓reduceIte];refine ⟨_, .of hA.tup, _, zn (j := 0) rfl, _, .of hA.tup, _, zn (j := 1) rfl, _, rfl, _, .inl (.of hA.words), ?_⟩;rw [Za];refine ⟨by omega, by omega, ?_⟩;rw [Zw];refine qh (PvTt o b p h.t d H3) ⟨Same.refl _, _, rfl⟩ ?_ ?_
      . rintro t σ H4 ht ⟨S4, v3, rfl⟩
        have hts : t < (xi d).length := by rw [hD.saysLen]; exact ht
        have hx : (xi d)[t]? = some (xi d)[t] := Zb hts;have hsm := Zl hts;generalize (xi d)[t] = x at *;obtain ⟨e1, e2⟩ := List.getElem?_zip_eq_some.mp hx;have so := hD.say o4 x hsm;have hA4 := hA.mono S4;obtain ⟨r, er⟩ : ∃ r, h.gs[t]? = some r := ⟨h.gs[t]'(by rw [hA.len, hD.rows]; exact ht), by simp⟩;have hrow := hA4.row t r _ er e2;simp only [zi, zj, ↓reduceIte];have l1 := hD.to o4 hN t;have l2 := hD.to o4 hN (t + 1);refine ⟨Zd (Nat.add_le_add_right l1 _) (by decide +kernel), rfl, _, .of hA4.tup, _, zn (j := 1) rfl, _, rfl, _, .of hA4.words, V.str x.1, zn (j := t) (by rw [Ze, e1]; rfl), by decide, fun p2 hp2 => ?_⟩;have S5 : Same H4 (upd H4 p2 (.lst [V.str x.1])) := Same.upd (Same.refl _) hp2;have u5 : upd H4 p2 (.lst [V.str x.1]) p2 = some (.lst [V.str x.1]) := zc;generalize upd H4 p2 (.lst [V.str x.1]) = H5 at *;refine ⟨_, .of (S5 _ _ hA4.tup), _, zn (j := 2) rfl, _, rfl, _, .of (S5 _ _ hA4.grid), V.ref r, zn (j := t) (by rw [Ze, er]; rfl), _, rfl, ⟨_, .of (S5 _ _ hrow)⟩, fun dd => ?_⟩;refine yk (xs := x.2.map V.int) (PvSt H5 x.2) ⟨rfl, rfl⟩ ?_ ?_ ?_
        . rintro k ys H6 hk ⟨rfl, rfl⟩
          refine ⟨?_, .of (S5 _ _ hrow)⟩;rw [Za, Za, Zj];have := so.few;exact Zd (show _ <= 9 by omega) (by decide)
        . rintro k y ys H6 hy ⟨rfl, rfl⟩
          obtain ⟨n, hn, rfl⟩ := zfm hy;have hb := so.nums n (Zi hn);simp only [zi, zj, ↓reduceIte];refine ⟨by omega, by omega, rfl, ?_⟩;rw [Zq, hn, Zn, Zn];rfl
        . rintro ys H6 ⟨rfl, rfl⟩ l hl
          rw [Za, Zt];have S7 : Same H6 (upd H6 l (.lst ((x.2.map intS).map V.str))) := Same.upd (Same.refl _) hl;have u7 : upd H6 l (.lst ((x.2.map intS).map V.str)) l = some (.lst ((x.2.map intS).map V.str)) := zc;generalize upd H6 l (.lst ((x.2.map intS).map V.str)) = H7 at *;have sj := so.join;refine ⟨_, S7 _ _ u5, _, u7, ?_, fun p8 hp8 => ⟨sayL x.1 x.2, .of zc, sj.1, ?_, S4.trans (S5.trans (S7.trans (Same.upd (Same.refl _) hp8))), some (V.int t), ?_⟩⟩
          . rw [Za, Za]
            have := so.few;exact Zd (show _ <= 9 by show 1 + _ <= 9; omega) (by decide)
          . rw [xy, show Str.join (Str.ofString " ") (sayL x.1 x.2) = sayT x from rfl, zw]
            exact Zd (Nat.add_le_add (Nat.add_le_add_right l1 _) sj.2) (by decide +kernel)
          . rw [xy, zap hx]
            rfl
      . rintro σ H4 ⟨S4, v3, rfl⟩
        show T _ _ _
        rw [hT];clear hT T;simp only [zi, zj, ↓reduceIte];have hP4 := S4 _ _ hP;refine ⟨.inl ⟨rfl, _, .of hP4⟩, _, hP4, ?_, Same.upd (S3.trans S4) hp, _, _, _, ?_, rfl⟩
        . rw [Za, ZL, Za, Zj]
          exact Yn (show _ <= 9 by have := hOk.len; omega) (by decide)
        . rw [zc, Zq, ed, <- hD.saysLen, gw]
          simp
    . rintro σ H3 ⟨S3, v1, v2, v3, hP, rfl⟩
      simp only [zi, zj, ↓reduceIte];rw [Za, hH.len, Zt] at hP;have hj := lc og o4 hOk;refine ⟨rfl, _, .of hP, hj.1, ?_, ?_⟩
      . rw [xy]
        exact Zd (ZZ hj.2 _) (by decide +kernel)
      . rw [xy, gg]
        exact q _ S3
end
structure Td where
  m : Nat
  k : Nat
  one : Str
  j : Nat
  oth : Str
  n : Nat
def Td.vs (t : Td) : List V := [.int t.m, .int t.k, .str t.one, .int t.j, .str t.oth, .int t.n]
def Td.cd (t : Td) : Cd := match t.m with
  | 0 => .says t.k t.one
  | 1 => .no (.says t.k t.one)
  | 2 => .count t.n t.one
  | 3 => .an (.says t.k t.one) (.says t.j t.oth)
  | _ => .orr (.says t.j t.oth) (.no (.says t.k t.one))
structure TdOk (ds : List HD) (t : Td) : Prop where
  m : t.m < 5
  k : ∃ d, ds[t.k]? = some d /\ t.one ∈ d.words
  j : ∃ d, ds[t.j]? = some d /\ t.oth ∈ d.words
  n : 1 <= t.n /\ t.n <= 4
theorem TdOk.ways {ds : List HD} {t : Td} (h : TdOk ds t) : t.m = 0 \/ t.m = 1 \/ t.m = 2 \/ t.m = 3 \/ t.m = 4 := by have := h.m; omega
theorem TdOk.ok {ds : List HD} {t : Td} (h : TdOk ds t) : okc True ds t.cd := by
  obtain ⟨d, h1, h2⟩ := h.k;have hc : okc True ds (.count t.n t.one) := ⟨trivial, h.n.1, h.n.2, d, Zi h1, h2⟩;have hk : okc True ds (.says t.k t.one) := ⟨d, h1, h2⟩;have hj : okc True ds (.says t.j t.oth) := h.j;unfold Td.cd
  rcases h.ways with e | e | e | e | e <;> rw [e]
  . exact hk
  . exact hk
  . exact hc
  . exact ⟨hk, hj⟩
  . exact ⟨hj, hk⟩
theorem TdOk.dp {ds : List HD} {t : Td} (h : TdOk ds t) : dep t.cd < 40 := by
  unfold Td.cd
  rcases h.ways with e | e | e | e | e <;> rw [e] <;> simp [dep]
theorem TdOk.len {ds : List HD} {t : Td} (h : TdOk ds t) : (wd ds t.cd).length <= 34 := by
  unfold Td.cd
  rcases h.ways with e | e | e | e | e <;> rw [e] <;> simp [wd]
theorem kh {α : Type} {zs : List α} (h : 1 <= zs.length) (c : Int) : ∃ (k : Nat) (z : α), c % (zs.length : Int) = k /\ zs[k]? = some z /\ z ∈ zs := by
  have h1 := yp c (show (0 : Int) < (zs.length : Int) by omega);have hk : (c % (zs.length : Int)).toNat < zs.length := by omega
  exact ⟨(c % (zs.length : Int)).toNat, zs[(c % (zs.length : Int)).toNat], by omega, Zb hk, Zl hk⟩
theorem ax {H : Hp} {b : Addr} {xs : List HX} {ds : List HD} (h : HandsL H b xs ds) (h1 : 1 <= ds.length) (c : Int) : ∃ (k : Nat) (x : HX) (d : HD), c % (xs.length : Int) = k /\ xs[k]? = some x /\ ds[k]? = some d /\ d ∈ ds /\ HandAt H x d := by
  have hl := h.len;obtain ⟨k, x, e, hx, _⟩ := kh (zs := xs) (by omega) c;have hk : k < ds.length := by have := (Zc.mp hx).1; omega
  exact ⟨k, x, ds[k], e, hx, Zb hk, Zl hk, h.hand k x _ hx (Zb hk)⟩
def zba : Sp := fun vs H Q _ => ∃ (c : Int) (b : Addr) (xs : List HX) (ds : List HD) (n : Nat), vs = [.int c, .ref b] /\ HandsL H b xs ds /\ w9 n ds /\ ∀ H' l t, Same H H' -> H' l = some (.lst (Td.vs t)) -> TdOk ds t -> Q (.ref l) H'
section
variable {P : Program} {w : World} {K : Fg} {mg : Str -> Option Value} {base : Heap} {a : Ad}
theorem sd (B : Bt mg) (D : zg K mg "_law_condition" vb ["cell", "hands"]) : FnAt P w K mg base "_law_condition" 1 ["cell", "hands"] zba := by
  refine FnAt.of D sc_law_condition (fun vs H Q E h => ?_) (fun f cdv A outer s H vs Q E hr h => ?_)
  . obtain ⟨c, b, xs, ds, n, rfl, _⟩ := h
    rfl
  . obtain ⟨c, b, xs, ds, n, rfl, hH, hOk, q⟩ := h
    refine ⟨_, (@ze _ _ _ _ _ (zv (i := 2) sc_law_condition.nd rfl (Or.inl rfl) (@zo _ _ _ _ _ _ _ _ yn (pv 0) (zy yc rfl B.len yz (za (pv 1) (@zb _))))) (@ze _ _ _ _ _ (zv (i := 3) sc_law_condition.nd rfl (Or.inl rfl) (@zo _ _ _ _ _ _ _ _ yn (@zo _ _ _ _ _ _ _ _ y1 (pv 0) (@zd _ _ _ _)) (zy yc rfl B.len yz (za (pv 1) (@zb _))))) (@ze _ _ _ _ _ (zv (i := 4) sc_law_condition.nd rfl (Or.inl rfl) (@zu _ _ _ _ _ _ _ z3 (@zu _ _ _ _ _ _ _ yb (@zu _ _ _ _ _ _ _ z3 (pv 1) (pv 2) (fun _ _ => rfl)) (@zd _ _ _ _) (fun _ _ => rfl)) (@zo _ _ _ _ _ _ _ _ yn (@zo _ _ _ _ _ _ _ _ y1 (pv 0) (@zd _ _ _ _)) (zy yc rfl B.len yz (za (@zu _ _ _ _ _ _ _ yb (@zu _ _ _ _ _ _ _ z3 (pv 1) (pv 2) (fun _ _ => rfl)) (@zd _ _ _ _) (fun _ _ => rfl)) (@zb _)))) (fun _ _ => rfl))) (@ze _ _ _ _ _ (zv (i := 5) sc_law_condition.nd rfl (Or.inl rfl) (@zu _ _ _ _ _ _ _ z3 (@zu _ _ _ _ _ _ _ yb (@zu _ _ _ _ _ _ _ z3 (pv 1) (pv 3) (fun _ _ => rfl)) (@zd _ _ _ _) (fun _ _ => rfl)) (@zo _ _ _ _ _ _ _ _ yn (@zo _ _ _ _ _ _ _ _ y1 (pv 0) (@zd _ _ _ _)) (zy yc rfl B.len yz (za (@zu _ _ _ _ _ _ _ yb (@zu _ _ _ _ _ _ _ z3 (pv 1) (pv 3) (fun _ _ => rfl)) (@zd _ _ _ _) (fun _ _ => rfl)) (@zb _)))) (fun _ _ => rfl))) (@zf _ _ _ (@zq _ _ _ _ (@y3 _ _ _ _ (@za _ _ _ _ _ (@zo _ _ _ _ _ _ _ _ yn (@zo _ _ _ _ _ _ _ _ y1 (pv 0) (@zd _ _ _ _)) (@zd _ _ _ _)) (@za _ _ _ _ _ (pv 2) (@za _ _ _ _ _ (pv 4) (@za _ _ _ _ _ (pv 3) (@za _ _ _ _ _ (pv 5) (@za _ _ _ _ _ (@zo _ _ _ _ _ _ _ _ yy (@zd _ _ _ _) (@zo _ _ _ _ _ _ _ _ yn (@zo _ _ _ _ _ _ _ _ y1 (pv 0) (@zd _ _ _ _)) (@zd _ _ _ _))) (@zb _) (zp nofun)) (zp nofun)) (zp nofun)) (zp nofun)) (zp nofun)) (zp nofun))))))))), ?_⟩;rw [show start ["cell", "hands", "k", "j", "one", "other"] [V.int c, V.ref b] = [some (V.int c), some (V.ref b), none, none, none, none] from rfl];simp only [zi, zj, ↓reduceIte];have h1 := hOk.len.1;have lx := hH.len;obtain ⟨k, xk, dk, ek, hxk, hdk, mk, ak⟩ := ax hH h1 c;obtain ⟨j, xj, dj, ej, hxj, hdj, mj, aj⟩ := ax hH h1 (c / 3);obtain ⟨kw, one, ekw, hone, mone⟩ := kh (hOk.hand _ mk).len.1 (c / 9);obtain ⟨jw, oth, ejw, hoth, moth⟩ := kh (hOk.hand _ mj).len.1 (c / 27);have h5 := yp (c / 81) (show (0 : Int) < 5 by decide);have h4 := yp (c / 405) (show (0 : Int) < 4 by decide);have gk : atI (xs.map fun x => V.ref x.t) (k : Int) = some (V.ref xk.t) := zn (by rw [Ze, hxk]; rfl);have gj : atI (xs.map fun x => V.ref x.t) (j : Int) = some (V.ref xj.t) := zn (by rw [Ze, hxj]; rfl);have go : atI (dk.words.map V.str) (kw : Int) = some (V.str one) := zn (by rw [Ze, hone]; rfl);have gt : atI (dj.words.map V.str) (jw : Int) = some (V.str oth) := zn (by rw [Ze, hoth]; rfl);refine ⟨_, .inl (.of hH.at'), ?_⟩;rw [Za, ek];refine ⟨by omega, ⟨by decide, by decide⟩, _, .inl (.of hH.at'), ?_⟩;rw [Za, ej];refine ⟨by omega, _, .of hH.at', _, gk, _, rfl, _, .of ak.tup, _, zn (j := 1) rfl, ⟨by decide, by decide⟩, _, .of hH.at', _, gk, _, rfl, _, .of ak.tup, _, zn (j := 1) rfl, _, rfl, _, .inl (.of ak.words), ?_⟩;rw [Za, ekw];have lk := (hOk.hand _ mk).len;have lj := (hOk.hand _ mj).len;refine ⟨by omega, _, rfl, _, .of ak.words, _, go, _, .of hH.at', _, gj, _, rfl, _, .of aj.tup, _, zn (j := 1) rfl, ⟨by decide, by decide⟩, _, .of hH.at', _, gj, _, rfl, _, .of aj.tup, _, zn (j := 1) rfl, _, rfl, _, .inl (.of aj.words), ?_⟩;rw [Za, ejw];refine ⟨by omega, _, rfl, _, .of aj.words, _, gt, ?_⟩;refine ⟨⟨by decide, by decide⟩, by decide, ⟨by decide, by decide⟩, by decide, by decide, fun l hl => ?_⟩;refine q _ l ⟨(c / 81 % 5).toNat, k, one, j, oth, (1 + c / 405 % 4).toNat⟩ (Same.upd (Same.refl _) hl) ?_ ⟨?_, ⟨dk, hdk, mone⟩, ⟨dj, hdj, moth⟩, ?_⟩
    . rw [zc, Td.vs]
      show some (HO.lst [V.int (c / 81 % 5), V.int ↑k, V.str one, V.int ↑j, V.str oth, V.int (1 + c / 405 % 4)]) = some (HO.lst [V.int ((c / 81 % 5).toNat : Int), V.int ↑k, V.str one, V.int ↑j, V.str oth, V.int ((1 + c / 405 % 4).toNat : Int)])
      rw [ZY h5.1, ZY (by omega)]
    . show (c / 81 % 5).toNat < 5
      omega
    . show 1 <= (1 + c / 405 % 4).toNat /\ (1 + c / 405 % 4).toNat <= 4
      omega
end
theorem lu (y : Str) {qs : List Str} (hq : qs ≠ []) : ∀ {ps : List Str}, ps ≠ [] -> Str.join y (ps ++ qs) = Str.join y ps ++ y ++ Str.join y qs
  | [], h => absurd rfl h
  | [p], _ => by
    cases qs with
    | nil => exact absurd rfl hq
    | cons q qs => rfl
  | p :: r :: ps, _ => by
    show p ++ y ++ Str.join y (r :: ps ++ qs) = p ++ y ++ Str.join y (r :: ps) ++ y ++ Str.join y qs
    rw [lu y hq (ZW _ _)];simp only [Str.append_assoc]
def sayW (nm w : Str) : Str := Str.ofString "says " ++ nm ++ Str.ofString " " ++ w
def tdW (ds : List HD) (t : Td) : List Str := [sayW (nmAt ds t.k) t.one, Str.ofString "not " ++ sayW (nmAt ds t.k) t.one, Str.ofString "count " ++ intS t.n ++ Str.ofString " " ++ t.one, Str.ofString "and " ++ sayW (nmAt ds t.k) t.one ++ Str.ofString " " ++ sayW (nmAt ds t.j) t.oth, Str.ofString "or " ++ sayW (nmAt ds t.j) t.oth ++ Str.ofString " not " ++ sayW (nmAt ds t.k) t.one]
theorem zgb : Str.ofString "says " = Str.ofString "says" ++ Str.ofString " " := by decide +kernel
theorem wl_not : Str.ofString "not " = Str.ofString "not" ++ Str.ofString " " := by decide +kernel
theorem zfr : Str.ofString "count " = Str.ofString "count" ++ Str.ofString " " := by decide +kernel
theorem wl_and : Str.ofString "and " = Str.ofString "and" ++ Str.ofString " " := by decide +kernel
theorem wl_or : Str.ofString "or " = Str.ofString "or" ++ Str.ofString " " := by decide +kernel
theorem zg2 : Str.ofString " not " = Str.ofString " " ++ (Str.ofString "not" ++ Str.ofString " ") := by decide +kernel
theorem bp {n : Nat} (h : 1 <= n /\ n <= 4) : intS n = fig n := by
  have : n = 1 \/ n = 2 \/ n = 3 \/ n = 4 := by omega
  rcases this with rfl | rfl | rfl | rfl <;> decide +kernel
theorem ui (ds : List HD) (k : Nat) (w : Str) : Str.join (Str.ofString " ") (wd ds (.says k w)) = sayW (nmAt ds k) w := by
  rw [wd, sayW, zgb, um, um];simp only [Str.append_assoc];rfl
theorem q9 (ds : List HD) (c : Cd) : wd ds c ≠ [] := by cases c <;> simp [wd]
theorem wn (y p : Str) {qs : List Str} (h : qs ≠ []) : Str.join y (p :: qs) = p ++ y ++ Str.join y qs := by
  cases qs with
  | nil => exact absurd rfl h
  | cons q qs => rfl
theorem tdW_at {ds : List HD} {t : Td} (h : TdOk ds t) : (tdW ds t)[t.m]? = some (Str.join (Str.ofString " ") (wd ds t.cd)) := by
  unfold Td.cd
  rcases h.ways with e | e | e | e | e <;> rw [e]
  . show some (sayW (nmAt ds t.k) t.one) = some (Str.join (Str.ofString " ") (wd ds (Cd.says t.k t.one)))
    rw [ui]
  . show some (Str.ofString "not " ++ sayW (nmAt ds t.k) t.one) = some (Str.join (Str.ofString " ") (Str.ofString "not" :: wd ds (Cd.says t.k t.one)))
    rw [wn _ _ (q9 _ _), ui, wl_not]
  . show some (Str.ofString "count " ++ intS t.n ++ Str.ofString " " ++ t.one) = some (Str.join (Str.ofString " ") [Str.ofString "count", fig t.n, t.one])
    rw [wn _ _ (ZW _ _), wn _ _ (ZW _ _), bp h.n, zfr];simp only [Str.append_assoc];rfl
  . show some (Str.ofString "and " ++ sayW (nmAt ds t.k) t.one ++ Str.ofString " " ++ sayW (nmAt ds t.j) t.oth) = some (Str.join (Str.ofString " ") (Str.ofString "and" :: (wd ds (Cd.says t.k t.one) ++ wd ds (Cd.says t.j t.oth))))
    rw [wn _ _ (fun z => q9 _ _ (YB.mp z).1), lu _ (q9 _ _) (q9 _ _), ui, ui, wl_and];simp only [Str.append_assoc]
  . show some (Str.ofString "or " ++ sayW (nmAt ds t.j) t.oth ++ Str.ofString " not " ++ sayW (nmAt ds t.k) t.one) = some (Str.join (Str.ofString " ") (Str.ofString "or" :: (wd ds (Cd.says t.j t.oth) ++ (Str.ofString "not" :: wd ds (Cd.says t.k t.one)))))
    rw [wn _ _ (fun z => q9 _ _ (YB.mp z).1), lu _ (ZW _ _) (q9 _ _), wn _ _ (q9 _ _), ui, ui, wl_or, zg2];simp only [Str.append_assoc]
theorem ck {nm w : Str} (h1 : nm.length <= 8) (h2 : w.length <= 8) : (sayW nm w).length <= 22 := by
  rw [sayW, zw, zw, zw];have e1 : (Str.ofString "says ").length = 5 := by decide +kernel
  have e2 : (Str.ofString " ").length = 1 := by decide +kernel
  omega
def zbk : Sp := fun vs H Q _ => ∃ (l b : Addr) (xs : List HX) (ds : List HD) (n : Nat) (t : Td), vs = [.ref l, .ref b] /\ H l = some (.lst (Td.vs t)) /\ HandsL H b xs ds /\ w9 n ds /\ TdOk ds t /\ ∀ H', Same H H' -> Q (.str (Str.join (Str.ofString " ") (wd ds t.cd))) H'
def za6 : Sp := fun vs H Q _ => ∃ (l r : Addr) (t : Td) (row : List Str), vs = [.ref l, .ref r] /\ H l = some (.lst (Td.vs t)) /\ H r = some (.tup (row.map V.str)) /\ t.k < row.length /\ t.j < row.length /\ t.m < 5 /\ ∀ H', Same H H' -> Q (.bl (ev row t.cd)) H'
section
variable {P : Program} {w : World} {K : Fg} {mg : Str -> Option Value} {base : Heap} {a : Ad}
theorem wt (B : Bt mg) (D : zg K mg "_law_condition_text" xw ["told", "hands"]) : FnAt P w K mg base "_law_condition_text" 1 ["told", "hands"] zbk := by
  refine FnAt.of D sc_law_condition_text (fun vs H Q E h => ?_) (fun f cdv A outer s H vs Q E hr h => ?_)
  . obtain ⟨l, b, xs, ds, n, t, rfl, _⟩ := h
    rfl
  . obtain ⟨l, b, xs, ds, n, t, rfl, hl, hH, hOk, hT, q⟩ := h
    refine ⟨_, (@ze _ _ _ _ _ (zv (i := 2) sc_law_condition_text.nd rfl (Or.inl rfl) (@zo _ _ _ _ _ _ _ _ z6 (@zo _ _ _ _ _ _ _ _ z6 (@zo _ _ _ _ _ _ _ _ z6 (@zm _ _ _ _) (@zu _ _ _ _ _ _ _ yb (@zu _ _ _ _ _ _ _ z3 (pv 1) (@zu _ _ _ _ _ _ _ z3 (pv 0) (@zd _ _ _ _) (fun _ _ => rfl)) (fun _ _ => rfl)) (@zd _ _ _ _) (fun _ _ => rfl))) (@zm _ _ _ _)) (@zu _ _ _ _ _ _ _ z3 (pv 0) (@zd _ _ _ _) (fun _ _ => rfl)))) (@ze _ _ _ _ _ (zv (i := 3) sc_law_condition_text.nd rfl (Or.inl rfl) (@zo _ _ _ _ _ _ _ _ z6 (@zo _ _ _ _ _ _ _ _ z6 (@zo _ _ _ _ _ _ _ _ z6 (@zm _ _ _ _) (@zu _ _ _ _ _ _ _ yb (@zu _ _ _ _ _ _ _ z3 (pv 1) (@zu _ _ _ _ _ _ _ z3 (pv 0) (@zd _ _ _ _) (fun _ _ => rfl)) (fun _ _ => rfl)) (@zd _ _ _ _) (fun _ _ => rfl))) (@zm _ _ _ _)) (@zu _ _ _ _ _ _ _ z3 (pv 0) (@zd _ _ _ _) (fun _ _ => rfl)))) (@ze _ _ _ _ _ (zv (i := 4) sc_law_condition_text.nd rfl (Or.inl rfl) (@y3 _ _ _ _ (za (pv 2) (za (@zo _ _ _ _ _ _ _ _ z6 (@zm _ _ _ _) (pv 2)) (za (@zo _ _ _ _ _ _ _ _ z6 (@zo _ _ _ _ _ _ _ _ z6 (@zo _ _ _ _ _ _ _ _ z6 (@zm _ _ _ _) (yo kg rfl B.str on (za (@zu _ _ _ _ _ _ _ z3 (pv 0) (@zd _ _ _ _) (fun _ _ => rfl)) (@zb _)))) (@zm _ _ _ _)) (@zu _ _ _ _ _ _ _ z3 (pv 0) (@zd _ _ _ _) (fun _ _ => rfl))) (za (@zo _ _ _ _ _ _ _ _ z6 (@zo _ _ _ _ _ _ _ _ z6 (@zo _ _ _ _ _ _ _ _ z6 (@zm _ _ _ _) (pv 2)) (@zm _ _ _ _)) (pv 3)) (@zb _))))))) (@zf _ _ _ (@zq _ _ _ _ (@zu _ _ _ _ _ _ _ z3 (@zo _ _ _ _ _ _ _ _ kt (pv 4) (@y3 _ _ _ _ (za (@zo _ _ _ _ _ _ _ _ z6 (@zo _ _ _ _ _ _ _ _ z6 (@zo _ _ _ _ _ _ _ _ z6 (@zm _ _ _ _) (pv 3)) (@zm _ _ _ _)) (pv 2)) (@zb _)))) (@zu _ _ _ _ _ _ _ z3 (pv 0) (@zd _ _ _ _) (fun _ _ => rfl)) (fun _ _ => rfl))))))), ?_⟩;rw [show start ["told", "hands", "one", "other", "some"] [V.ref l, V.ref b] = [some (V.ref l), some (V.ref b), none, none, none] from rfl];refine zcb fun T hTT => ?_
    simp only [zi, zj, ↓reduceIte];obtain ⟨dk, hdk, mk⟩ := hT.k;obtain ⟨dj, hdj, mj⟩ := hT.j;have lx := hH.len;obtain ⟨xk, hxk⟩ : ∃ x, xs[t.k]? = some x := ⟨xs[t.k]'(by have := (Zc.mp hdk).1; omega), by simp⟩;obtain ⟨xj, hxj⟩ : ∃ x, xs[t.j]? = some x := ⟨xs[t.j]'(by have := (Zc.mp hdj).1; omega), by simp⟩;have ak := hH.hand _ _ _ hxk hdk;have aj := hH.hand _ _ _ hxj hdj;have gk : atI (xs.map fun x => V.ref x.t) (t.k : Int) = some (V.ref xk.t) := zn (by rw [Ze, hxk]; rfl);have gj : atI (xs.map fun x => V.ref x.t) (t.j : Int) = some (V.ref xj.t) := zn (by rw [Ze, hxj]; rfl);have nk : nmAt ds t.k = dk.name := by rw [nmAt, Zk, Ze, hdk]; rfl
    have nj : nmAt ds t.j = dj.name := by rw [nmAt, Zk, Ze, hdj]; rfl
    have l1 := (hOk.good _ (Zi hdk)).2.1;have l2 := (hOk.good _ (Zi hdj)).2.1;have l3 := ((hOk.hand _ (Zi hdk)).good _ mk).2.1;have l4 := ((hOk.hand _ (Zi hdj)).good _ mj).2.1;have e1 : (Str.ofString "says ").length = 5 := by decide +kernel
    have e2 : (Str.ofString " ").length = 1 := by decide +kernel
    have z30 : ∀ {n : Nat}, n <= 100 -> n <= sizeLine := fun h => Zd h (by decide)
    refine ⟨_, .of hl, _, zn (j := 1) rfl, _, _, rfl, .of hH.at', _, gk, _, rfl, _, .of ak.tup, _, zn (j := 0) rfl, _, rfl, z30 (by omega), z30 (by rw [zw]; omega), _, .of hl, _, zn (j := 2) rfl, _, rfl, z30 (by rw [zw, zw]; omega), _, .of hl, _, zn (j := 3) rfl, _, _, rfl, .of hH.at', _, gj, _, rfl, _, .of aj.tup, _, zn (j := 0) rfl, _, rfl, z30 (by omega), z30 (by rw [zw]; omega), _, .of hl, _, zn (j := 4) rfl, _, rfl, z30 (by rw [zw, zw]; omega), ?_⟩
    show T _ [_, _, some (V.str (sayW dk.name t.one)), some (V.str (sayW dj.name t.oth)), _] _
    rw [<- nk, <- nj];have w1 := ck (nm := nmAt ds t.k) (w := t.one) (by rw [nk]; exact l1) l3;have w2 := ck (nm := nmAt ds t.j) (w := t.oth) (by rw [nj]; exact l2) l4;rw [hTT];clear hTT T;have ht := tdW_at hT;unfold tdW at ht;generalize sayW (nmAt ds t.k) t.one = one at *;generalize sayW (nmAt ds t.j) t.oth = oth at *;refine gh fun T hTT => ?_
    simp only [zi, zj, ↓reduceIte];have hn := hT.n;have e3 : (Str.ofString "not ").length = 4 := by decide +kernel
    have e4 : (Str.ofString "count ").length = 6 := by decide +kernel
    have e5 : (Str.ofString "and ").length = 4 := by decide +kernel
    have e6 : (Str.ofString "or ").length = 3 := by decide +kernel
    have e7 : (Str.ofString " not ").length = 5 := by decide +kernel
    have e8 : (intS t.n).length = 1 := by rw [bp hn]; rfl
    refine ⟨z30 (by omega), _, .of hl, _, zn (j := 5) rfl, _, rfl, by omega, by omega, z30 (by omega), z30 (by rw [zw]; omega), _, .of hl, _, zn (j := 2) rfl, _, rfl, z30 (by rw [zw, zw]; omega), z30 (by omega), z30 (by rw [zw]; omega), z30 (by rw [zw, zw]; omega), by decide, fun p hp => ?_⟩;have S1 : Same H (upd H p (.lst [V.str one, V.str (Str.ofString "not " ++ one), V.str (Str.ofString "count " ++ intS t.n ++ Str.ofString " " ++ t.one), V.str (Str.ofString "and " ++ one ++ Str.ofString " " ++ oth)])) := Same.upd (Same.refl _) hp;have u1 : upd H p (.lst [V.str one, V.str (Str.ofString "not " ++ one), V.str (Str.ofString "count " ++ intS t.n ++ Str.ofString " " ++ t.one), V.str (Str.ofString "and " ++ one ++ Str.ofString " " ++ oth)]) p = some (.lst [V.str one, V.str (Str.ofString "not " ++ one), V.str (Str.ofString "count " ++ intS t.n ++ Str.ofString " " ++ t.one), V.str (Str.ofString "and " ++ one ++ Str.ofString " " ++ oth)]) := zc;generalize upd H p (.lst [V.str one, V.str (Str.ofString "not " ++ one), V.str (Str.ofString "count " ++ intS t.n ++ Str.ofString " " ++ t.one), V.str (Str.ofString "and " ++ one ++ Str.ofString " " ++ oth)]) = H1 at *;rw [hTT];clear hTT T;simp only [zi, zj, ↓reduceIte];refine ⟨z30 (by omega), z30 (by rw [zw]; omega), z30 (by rw [zw, zw]; omega), by decide, fun p2 hp2 => ?_⟩;have S2 : Same H1 (upd H1 p2 (.lst [V.str (Str.ofString "or " ++ oth ++ Str.ofString " not " ++ one)])) := Same.upd (Same.refl _) hp2;have u2 : upd H1 p2 (.lst [V.str (Str.ofString "or " ++ oth ++ Str.ofString " not " ++ one)]) p2 = some (.lst [V.str (Str.ofString "or " ++ oth ++ Str.ofString " not " ++ one)]) := zc;generalize upd H1 p2 (.lst [V.str (Str.ofString "or " ++ oth ++ Str.ofString " not " ++ one)]) = H2 at *;refine ⟨_, S2 _ _ u1, _, u2, show 5 <= sizeLine by decide, fun p3 hp3 => ?_⟩;have S3 := S1.trans (S2.trans (Same.upd (Same.refl _) hp3 (o := .lst ([V.str one, V.str (Str.ofString "not " ++ one), V.str (Str.ofString "count " ++ intS t.n ++ Str.ofString " " ++ t.one), V.str (Str.ofString "and " ++ one ++ Str.ofString " " ++ oth)] ++ [V.str (Str.ofString "or " ++ oth ++ Str.ofString " not " ++ one)]))));refine ⟨_, .of (S3 _ _ hl), _, zn (j := 0) rfl, _, _, rfl, .of zc, _, zn (j := t.m) ?_, q _ S3⟩;have := congrArg (Option.map V.str) ht;rw [<- Ze] at this;exact this
theorem wm (B : Bt mg) (D : zg K mg "_law_condition_holds" xr ["told", "row"]) : FnAt P w K mg base "_law_condition_holds" 1 ["told", "row"] za6 := by
  refine FnAt.of D sc_law_condition_holds (fun vs H Q E h => ?_) (fun f cdv A outer s H vs Q E hr h => ?_)
  . obtain ⟨l, r, t, row, rfl, _⟩ := h
    rfl
  . obtain ⟨l, r, t, row, rfl, hl, hrw, hk, hj, hm, q⟩ := h
    refine ⟨_, (@ze _ _ _ _ _ (zv (i := 2) sc_law_condition_holds.nd rfl (Or.inl rfl) (@vm _ _ _ _ _ _ _ _ xt (@zu _ _ _ _ _ _ _ yb (pv 1) (@zu _ _ _ _ _ _ _ z3 (pv 0) (@zd _ _ _ _) (fun _ _ => rfl)) (fun _ _ => rfl)) (@zu _ _ _ _ _ _ _ z3 (pv 0) (@zd _ _ _ _) (fun _ _ => rfl)) (z9 _))) (@ze _ _ _ _ _ (zv (i := 3) sc_law_condition_holds.nd rfl (Or.inl rfl) (@vm _ _ _ _ _ _ _ _ xt (@zu _ _ _ _ _ _ _ yb (pv 1) (@zu _ _ _ _ _ _ _ z3 (pv 0) (@zd _ _ _ _) (fun _ _ => rfl)) (fun _ _ => rfl)) (@zu _ _ _ _ _ _ _ z3 (pv 0) (@zd _ _ _ _) (fun _ _ => rfl)) (z9 _))) (@zf _ _ _ (@zq _ _ _ _ (@zu _ _ _ _ _ _ _ z3 (@y3 _ _ _ _ (@za _ _ _ _ _ (pv 2) (@za _ _ _ _ _ (@gf _ _ _ _ (pv 2)) (@za _ _ _ _ _ (@vm _ _ _ _ _ _ _ _ zcr (zd6 PySem.F.plainAttrs_tuple PySem.F.slot_tuple_count PySem.F.type_tuple_count f7 (pv 1) (za (@zu _ _ _ _ _ _ _ z3 (pv 0) (@zd _ _ _ _) (fun _ _ => rfl)) (@zb _))) (@zu _ _ _ _ _ _ _ z3 (pv 0) (@zd _ _ _ _) (fun _ _ => rfl)) (z9 _)) (@za _ _ _ _ _ (@uw _ _ _ _ _ _ _ (pv 2) (@vq _ _ _ _ _ (pv 3))) (@za _ _ _ _ _ (@pe_or _ _ _ _ _ _ _ (pv 3) (@vq _ _ _ _ _ (@gf _ _ _ _ (pv 2)))) (@zb _) (zp nofun)) (zp nofun)) (zp nofun)) (zp nofun)) (zp nofun))) (@zu _ _ _ _ _ _ _ z3 (pv 0) (@zd _ _ _ _) (fun _ _ => rfl)) (fun _ _ => rfl)))))), ?_⟩;rw [show start ["told", "row", "one", "other"] [V.ref l, V.ref r] = [some (V.ref l), some (V.ref r), none, none] from rfl];simp only [zi, zj, ↓reduceIte];have gk : atI (row.map V.str) (t.k : Int) = some (V.str row[t.k]) := zn (by rw [Ze, Zb hk]; rfl);have gj : atI (row.map V.str) (t.j : Int) = some (V.str row[t.j]) := zn (by rw [Ze, Zb hj]; rfl)
    have ek : decide (V.str row[t.k] = V.str t.one) = ev row (.says t.k t.one) := by
      rw [ev, Zb hk];exact decide_eq_decide.mpr ⟨fun h => congrArg some (V.str.inj h), fun h => congrArg V.str (Option.some.inj h)⟩
    have ej : decide (V.str row[t.j] = V.str t.oth) = ev row (.says t.j t.oth) := by
      rw [ev, Zb hj];exact decide_eq_decide.mpr ⟨fun h => congrArg some (V.str.inj h), fun h => congrArg V.str (Option.some.inj h)⟩
    have fin : ∀ p, H p = none -> ∃ x5, SqL K (upd H p (.lst [V.bl (ev row (.says t.k t.one)), V.bl (!ev row (.says t.k t.one)), V.bl (ev row (.count t.n t.one)), V.bl (ev row (.says t.k t.one) && ev row (.says t.j t.oth)), V.bl (ev row (.says t.j t.oth) || !ev row (.says t.k t.one))])) l x5 /\ ∃ x6, atI x5 0 = some x6 /\ ∃ x7 x8, x6 = V.int x8 /\ SqL K (upd H p (.lst [V.bl (ev row (.says t.k t.one)), V.bl (!ev row (.says t.k t.one)), V.bl (ev row (.count t.n t.one)), V.bl (ev row (.says t.k t.one) && ev row (.says t.j t.oth)), V.bl (ev row (.says t.j t.oth) || !ev row (.says t.k t.one))])) p x7 /\ ∃ x9, atI x7 x8 = some x9 /\ Q x9 (upd H p (.lst [V.bl (ev row (.says t.k t.one)), V.bl (!ev row (.says t.k t.one)), V.bl (ev row (.count t.n t.one)), V.bl (ev row (.says t.k t.one) && ev row (.says t.j t.oth)), V.bl (ev row (.says t.j t.oth) || !ev row (.says t.k t.one))])) := fun p hp => by
      have S1 := Same.upd (Same.refl H) hp (o := .lst [V.bl (ev row (.says t.k t.one)), V.bl (!ev row (.says t.k t.one)), V.bl (ev row (.count t.n t.one)), V.bl (ev row (.says t.k t.one) && ev row (.says t.j t.oth)), V.bl (ev row (.says t.j t.oth) || !ev row (.says t.k t.one))]);refine ⟨_, .of (S1 _ _ hl), _, zn (j := 0) rfl, _, _, rfl, .of zc, _, zn (j := t.m) ?_, q _ S1⟩;unfold Td.cd;have : t.m = 0 \/ t.m = 1 \/ t.m = 2 \/ t.m = 3 \/ t.m = 4 := by omega
      rcases this with e | e | e | e | e <;> rw [e] <;> rfl
    refine ⟨_, .of hl, _, zn (j := 1) rfl, _, _, rfl, .of hrw, _, gk, _, .of hl, _, zn (j := 2) rfl, rfl, _, .of hl, _, zn (j := 3) rfl, _, _, rfl, .of hrw, _, gj, _, .of hl, _, zn (j := 4) rfl, rfl, ?_⟩;refine ⟨⟨_, .inl hrw⟩, _, .of hl, _, zn (j := 2) rfl, _, .of hrw, rfl, uf row, _, .of hl, _, zn (j := 5) rfl, _, rfl, ?_⟩;rw [show decide ((t.n : Int) <= ↑(List.countP (fun z => eqV z (V.str t.one)) (row.map V.str))) = ev row (.count t.n t.one) from rfl, ek, ej];generalize ev row (.says t.k t.one) = b1 at *;generalize ev row (.says t.j t.oth) = b2 at *;generalize ev row (.count t.n t.one) = b3 at *;cases b1 <;> cases b2
    . rw [if_neg (by decide), if_neg (by decide)]
      exact ⟨by decide, fin⟩
    . rw [if_neg (by decide), if_pos rfl]
      exact ⟨by decide, fin⟩
    . rw [if_pos rfl, if_neg (by decide)]
      exact ⟨by decide, fin⟩
    . rw [if_pos rfl, if_pos rfl]
      exact ⟨by decide, fin⟩
end
structure CE where
  T : Addr
  l : Addr
  td : Td
  o : Str
structure ClsAt (H : Hp) (cl : Addr) (ts : List CE) : Prop where
  at' : H cl = some (.lst (ts.map fun c => V.ref c.T))
  each : ∀ c ∈ ts, H c.T = some (.tup [.ref c.l, .str c.o]) /\ H c.l = some (.lst c.td.vs)
theorem ClsAt.mono {H H' : Hp} {cl : Addr} {ts : List CE} (S : Same H H') (h : ClsAt H cl ts) : ClsAt H' cl ts := ⟨S _ _ h.at', fun c hc => ⟨S _ _ (h.each c hc).1, S _ _ (h.each c hc).2⟩⟩
theorem ClsAt.snoc {H : Hp} {cl : Addr} {ts : List CE} {c : CE} (h : ClsAt H cl ts) (h1 : H c.T = some (.tup [.ref c.l, .str c.o])) (h2 : H c.l = some (.lst c.td.vs)) : ClsAt (upd H cl (.lst ((ts.map fun c => V.ref c.T) ++ [V.ref c.T]))) cl (ts ++ [c]) := by
  refine ⟨by rw [zc, Zn]; rfl, fun e he => ?_⟩
  have : H e.T = some (.tup [.ref e.l, .str e.o]) /\ H e.l = some (.lst e.td.vs) := by
    rcases ZH.mp he with z | z
    . exact h.each e z
    . rw [ZC.mp z]; exact ⟨h1, h2⟩
  refine ⟨?_, ?_⟩
  . rw [z8 (fun z => by rw [z, h.at'] at this; cases this.1)]
    exact this.1
  . rw [z8 (fun z => ?_)]
    . exact this.2
    . have h3 := this.2
      rw [z, h.at'] at h3
      injection h3 with h3
      injection h3 with h3
      cases ts with
      | nil => cases h3
      | cons x xs => cases h3
def y6 (ts : List CE) : List (Cd × Str) := ts.map fun c => (c.td.cd, c.o)
def zc3 (K : Fg) : Sp := fun vs H Q _ => ∃ (a : Addr) (ns : List Int) (b : Addr) (xs : List HX) (ds : List HD) (o : Addr) (outs : List Str) (n : Nat), vs = [.ref a, .ref b, .ref o] /\ SqL K H a (ns.map V.int) /\ HandsL H b xs ds /\ w9 n ds /\ H o = some (.lst (outs.map V.str)) /\ 1 <= outs.length /\ ∀ H' cl ts, Same H H' -> ClsAt H' cl ts -> ts.length <= 3 -> (∀ c ∈ ts, TdOk ds c.td /\ c.o ∈ outs) -> Q (.ref cl) H'
def PvCl (a b o cl : Addr) (ds : List HD) (outs : List Str) (H : Hp) (i : Nat) (σ : L2.St) (H' : Hp) : Prop := Same H H' /\ ∃ (ts : List CE) (v1 v2 : Option V), ClsAt H' cl ts /\ ts.length = i /\ (∀ c ∈ ts, TdOk ds c.td /\ c.o ∈ outs) /\ σ = [some (.ref a), some (.ref b), some (.ref o), some (.ref cl), v1, v2]
section
variable {P : Program} {w : World} {K : Fg} {mg : Str -> Option Value} {base : Heap} {a : Ad}
theorem qo (B : Bt mg) (yt : FnAt P w K mg base "_law_cell" 1 ["script", "k"] (iu K)) (sd : FnAt P w K mg base "_law_condition" 1 ["cell", "hands"] zba) (D : zg K mg "_law_clauses" v0 ["script", "hands", "outcomes"]) : FnAt P w K mg base "_law_clauses" 2 ["script", "hands", "outcomes"] (zc3 K) := by
  refine FnAt.of D sc_law_clauses (fun vs H Q E h => ?_) (fun f cdv A outer s H vs Q E hr h => ?_)
  . obtain ⟨a, ns, b, xs, ds, o, outs, n, rfl, _⟩ := h
    rfl
  . obtain ⟨a, ns, b, xs, ds, o, outs, n, rfl, hS, hH, hOk, ho, o1, q⟩ := h
    refine ⟨_, (@ze _ _ _ _ _ (zv (i := 3) sc_law_clauses.nd rfl (Or.inl rfl) (@y3 _ _ _ _ (@zb _))) (@ze _ _ _ _ _ (xz PassesOwn.never rfl (wp rfl B.range (za (@zo _ _ _ _ _ _ _ _ yn (zk yt (hr.mono (by decide)) rfl (za (pv 0) (za (@zd _ _ _ _) (@zb _)))) (@zd _ _ _ _)) (@zb _))) (zx (i := 4) sc_law_clauses.nd rfl (Or.inl rfl)) (@ze _ _ _ _ _ (zv (i := 5) sc_law_clauses.nd rfl (Or.inl rfl) (zk yt (hr.mono (by decide)) rfl (za (pv 0) (za (@zo _ _ _ _ _ _ _ _ yy (@zd _ _ _ _) (@zo _ _ _ _ _ _ _ _ p7 (@zd _ _ _ _) (pv 4))) (@zb _))))) (@zf _ _ _ (ul (xa PySem.F.plainAttrs_list PySem.F.slot_list_append PySem.F.type_list_append ug (pv 3) (@za _ _ _ _ _ (@y0 _ _ _ _ _ (@za _ _ _ _ _ (zk sd (hr.mono (by decide)) rfl (@za _ _ _ _ _ (pv 5) (@za _ _ _ _ _ (pv 1) (@zb _) (zp nofun)) (zp nofun))) (@za _ _ _ _ _ (@zu _ _ _ _ _ _ _ z3 (pv 2) (@zo _ _ _ _ _ _ _ _ yn (zk yt (hr.mono (by decide)) rfl (@za _ _ _ _ _ (pv 0) (@za _ _ _ _ _ (@zo _ _ _ _ _ _ _ _ yy (@zd _ _ _ _) (@zo _ _ _ _ _ _ _ _ p7 (@zd _ _ _ _) (pv 4))) (@zb _) (zp nofun)) (zp nofun))) (zy yc rfl B.len yz (@za _ _ _ _ _ (pv 2) (@zb _) (zp nofun)))) (fun _ _ => rfl)) (@zb _) (zp nofun)) (zp nofun))) (@zb _) (zp nofun))))))) (@zf _ _ _ (@zq _ _ _ _ (pv 3))))), ?_⟩;rw [show start ["script", "hands", "outcomes", "clauses", "k", "cell"] [V.ref a, V.ref b, V.ref o] = [some (V.ref a), some (V.ref b), some (V.ref o), none, none, none] from rfl];simp only [zi, zj, ↓reduceIte];refine ⟨by decide, fun cl hcl => ?_⟩;have S1 : Same H (upd H cl (.lst [])) := Same.upd (Same.refl _) hcl;have u1 : upd H cl (.lst []) cl = some (.lst []) := zc;generalize upd H cl (.lst []) = H1 at *;refine ⟨a, ns, 7, rfl, S1.seq hS, by decide, fun c7 => ⟨c7, rfl, by decide, ?_⟩⟩;have h4 := yp c7 (show (0 : Int) < 4 by decide);obtain ⟨m, em⟩ : ∃ m : Nat, c7 % 4 = m := ⟨(c7 % 4).toNat, by omega⟩;rw [em];refine ⟨by omega, by omega, ?_⟩;rw [Zw];refine qh (PvCl a b o cl ds outs H) ⟨S1, [], _, _, ⟨u1, fun _ z => nomatch z⟩, rfl, (fun _ z => nomatch z), rfl⟩ ?_ ?_
    . rintro i σ H3 hi ⟨S3, ts, v1, v2, hC, lt, hts, rfl⟩
      simp only [zi, zj, ↓reduceIte];refine ⟨.inl ⟨by decide, by decide⟩, a, ns, 51 + 2 * i, rfl, S3.seq hS, by omega, fun c => ?_⟩;refine ⟨.inl ⟨rfl, _, .of hC.at'⟩, ?_⟩;refine ⟨c, b, xs, ds, n, rfl, hH.mono S3, hOk, fun H4 l t S4 h4' tok => ⟨.inl ⟨by decide, by decide⟩, a, ns, 52 + 2 * i, rfl, (S3.trans S4).seq hS, by omega, fun c2 => ?_⟩⟩;have ho4 := (S3.trans S4) _ _ ho;obtain ⟨k, z, ez, hz, mz⟩ := kh o1 c2;refine ⟨_, .inl (.of ho4), c2, rfl, ?_⟩;rw [Za, ez];refine ⟨by omega, _, .of ho4, V.str z, zn (j := k) (by rw [Ze, hz]; rfl), by decide, fun T hT => ?_⟩;have S5 : Same H4 (upd H4 T (.tup [V.ref l, V.str z])) := Same.upd (Same.refl _) hT;have u5 : upd H4 T (.tup [V.ref l, V.str z]) T = some (.tup [V.ref l, V.str z]) := zc;generalize upd H4 T (.tup [V.ref l, V.str z]) = H5 at *;have hC5 := hC.mono (S4.trans S5);refine ⟨_, hC5.at', ?_, Same.upd (S3.trans (S4.trans S5)) hcl, ts ++ [⟨T, l, t, z⟩], _, _, hC5.snoc (c := ⟨T, l, t, z⟩) u5 (S5 _ _ h4'), by simp [lt], fun e he => ?_, rfl⟩
      . rw [Za, lt]
        exact Yn (show i <= 9 by omega) (by decide)
      . rcases ZH.mp he with y | y
        . exact hts e y
        . rw [ZC.mp y]
          exact ⟨tok, mz⟩
    . rintro σ H3 ⟨S3, ts, v1, v2, hC, lt, hts, rfl⟩
      simp only [zi, zj, ↓reduceIte];exact q H3 cl ts S3 hC (by omega) hts
end
theorem zhd : Str.ofString "when " = Str.ofString "when" ++ Str.ofString " " := by decide +kernel
theorem zfu : Str.ofString " deal " = Str.ofString " " ++ (Str.ofString "deal" ++ Str.ofString " ") := by decide +kernel
theorem dg (r : Str) : Str.ofString "rule " ++ r = wj "rule" r := by
  rw [wj, show ("rule" : Str) ++ Str.ofString " " = Str.ofString "rule " from by decide +kernel]
theorem ai (ds : List HD) (c : Cd × Str) : Str.ofString "when " ++ Str.join (Str.ofString " ") (wd ds c.1) ++ Str.ofString " deal " ++ c.2 = Str.join (Str.ofString " ") (clW ds c) := by
  rw [clW, wn _ _ (fun z => q9 _ _ (YB.mp z).1), lu _ (ZW _ _) (q9 _ _), wn _ _ (ZW _ _), zhd, zfu];simp only [Str.append_assoc];rfl
theorem gb {outs : List Str} {ds : List HD} {cls : List (Cd × Str)} {z : Str} (h : ClsOk outs ds cls z) : (oo ds cls z).length <= 7657 :=
  (ra (B := 400) (n := 19) h.short (by rw [txts, Za, h.rlen]; have := h.few; omega) (by decide +kernel) (by decide)).2
theorem cls_ok {outs : List Str} {ds : List HD} {ts : List CE} {z : Str} (G : GoodHouse outs ds) (lt : ts.length <= 3) (h : ∀ c ∈ ts, TdOk ds c.td /\ c.o ∈ outs) (hz : z ∈ outs) : ClsOk outs ds (y6 ts) z := by
  refine ⟨G, fun c hc => ?_, fun c hc => ?_, by rw [y6, Za]; omega, hz⟩
  . obtain ⟨e, he, rfl⟩ := Zp.mp hc
    exact ⟨(h e he).1.ok, (h e he).1.dp, (h e he).2⟩
  . obtain ⟨e, he, rfl⟩ := Zp.mp hc
    exact (h e he).1.len
def df : Sp := fun vs H Q _ => ∃ (cl b : Addr) (xs : List HX) (ds : List HD) (ts : List CE) (n : Nat) (outs : List Str) (z : Str), vs = [.ref cl, .ref b, .str z] /\ ClsAt H cl ts /\ HandsL H b xs ds /\ w9 n ds /\ (∀ c ∈ ts, TdOk ds c.td) /\ ClsOk outs ds (y6 ts) z /\ ∀ H', Same H H' -> Q (.str (wj "rule" (oo ds (y6 ts) z))) H'
def al : Sp := fun vs H Q _ => ∃ (cl r : Addr) (ts : List CE) (row : List Str) (z : Str), vs = [.ref cl, .ref r, .str z] /\ ClsAt H cl ts /\ H r = some (.tup (row.map V.str)) /\ (∀ c ∈ ts, c.td.k < row.length /\ c.td.j < row.length /\ c.td.m < 5) /\ ∀ H', Same H H' -> Q (.str (vf (psOf (y6 ts) z) row)) H'
def PvWw (H : Hp) (ds : List HD) (cls : List (Cd × Str)) (i : Nat) (ys : List V) (H' : Hp) : Prop := Same H H' /\ ys = ((cls.take i).map fun c => Str.join (Str.ofString " ") (clW ds c)).map V.str
def PvDz (cl r : Addr) (z : Str) (ts : List CE) (row : List Str) (H : Hp) (i : Nat) (σ : L2.St) (H' : Hp) : Prop := Same H H' /\ (∀ d ∈ (psOf (y6 ts) z).take i, evo row d.1 = false) /\ ∃ v1 v2 : Option V, σ = [some (.ref cl), some (.ref r), some (.str z), v1, v2]
section
variable {P : Program} {w : World} {K : Fg} {mg : Str -> Option Value} {base : Heap} {a : Ad}
theorem sr (B : Bt mg) (wt : FnAt P w K mg base "_law_condition_text" 1 ["told", "hands"] zbk) (D : zg K mg "_law_rule_row" vg ["clauses", "hands", "last"]) : FnAt P w K mg base "_law_rule_row" 2 ["clauses", "hands", "last"] df := by
  refine FnAt.of D sc_law_rule_row (fun vs H Q E h => ?_) (fun f cdv A outer s H vs Q E hr h => ?_)
  . obtain ⟨cl, b, xs, ds, ts, n, outs, z, rfl, _⟩ := h
    rfl
  . obtain ⟨cl, b, xs, ds, ts, n, outs, z, rfl, hC, hH, hOk, htd, hK, q⟩ := h
    refine ⟨_, (@ze _ _ _ _ _ (fm (i := 3) ["told", "outcome"] ["clauses", "hands", "last", "some"] sc_law_rule_row.nd rfl rfl rfl (@yg _ _ _ _ (pv 0)) (fun _ => (bw rfl (sw (zx (i := 0) (show (["told", "outcome", "clauses", "hands", "last", "some"] : List Str).Nodup by decide +kernel) rfl (Or.inl rfl)) (sw (zx (i := 1) (show (["told", "outcome", "clauses", "hands", "last", "some"] : List Str).Nodup by decide +kernel) rfl (Or.inl rfl)) (@fc _))))) (fun _ => (@yi _)) (fun _ => (@zo _ _ _ _ _ _ _ _ z6 (@zo _ _ _ _ _ _ _ _ z6 (@zo _ _ _ _ _ _ _ _ z6 (@zm _ _ _ _) (zk wt (hr.mono (by decide)) rfl (za (pv 0) (za (pv 3) (@zb _))))) (@zm _ _ _ _)) (pv 1))) rfl (by decide +kernel) rfl rfl rfl) (@zf _ _ _ (@zq _ _ _ _ (@zo _ _ _ _ _ _ _ _ z6 (@zm _ _ _ _) (xa PySem.F.plainAttrs_str PySem.F.slot_str_join PySem.F.type_str_join jq (@zm _ _ _ _) (za (@zo _ _ _ _ _ _ _ _ kt (pv 3) (@y3 _ _ _ _ (za (@zo _ _ _ _ _ _ _ _ z6 (@zm _ _ _ _) (pv 2)) (@zb _)))) (@zb _))))))), ?_⟩;rw [show start ["clauses", "hands", "last", "some"] [V.ref cl, V.ref b, V.str z] = [some (V.ref cl), some (V.ref b), some (V.str z), none] from rfl];simp only [zi, zj, ↓reduceIte];refine ⟨⟨_, .of hC.at'⟩, fun dd => ?_⟩;refine yk (xs := ts.map fun c => V.ref c.T) (PvWw H ds (y6 ts)) ⟨Same.refl _, rfl⟩ ?_ ?_ ?_
    . rintro i ys H3 hi ⟨S3, rfl⟩
      refine ⟨?_, .of (S3 _ _ hC.at')⟩;rw [Za, Za, Zj];have := hK.few;exact Zd (show _ <= 20 by omega) (by decide)
    . rintro i x ys H3 hx ⟨S3, rfl⟩
      obtain ⟨c, hc, rfl⟩ := yj hx;have hm := Zi hc;obtain ⟨h1, h2⟩ := (hC.mono S3).each c hm;have hm2 : (c.td.cd, c.o) ∈ y6 ts := Zp.mpr ⟨c, hm, rfl⟩;have hsh := hK.short (Str.join (Str.ofString " ") (clW ds (c.td.cd, c.o))) (Zp.mpr ⟨_, ZX _ (Zp.mpr ⟨_, hm2, rfl⟩), rfl⟩);rw [<- ai, zw, zw, zw] at hsh;dsimp only at hsh;simp only [zi, zj, ↓reduceIte];have z4 : ∀ {n : Nat}, n <= 400 -> n <= sizeLine := fun h => Zd h (by decide)
      refine ⟨_, .of h1, rfl, _, _, rfl, _, _, rfl, rfl, c.l, b, xs, ds, n, c.td, rfl, h2, hH.mono S3, hOk, htd c hm, fun H4 S4 => ⟨_, rfl, z4 (by omega), z4 (by rw [zw]; omega), _, rfl, z4 (by rw [zw, zw]; exact hsh), S3.trans S4, ?_⟩⟩;have ec : (y6 ts)[i]? = some (c.td.cd, c.o) := by rw [y6, Ze, hc]; rfl
      rw [Zq, ec, Zn, Zn]
      show _ = _ ++ [V.str (Str.join (Str.ofString " ") (clW ds (c.td.cd, c.o)))]
      rw [<- ai]
    . rintro ys H3 ⟨S3, rfl⟩ l hl
      rw [Za, show ts.length = (y6 ts).length by rw [y6, Za], Zt];have S4 : Same H3 (upd H3 l (.lst (((y6 ts).map fun c => Str.join (Str.ofString " ") (clW ds c)).map V.str))) := Same.upd (Same.refl _) hl;have u4 : upd H3 l (.lst (((y6 ts).map fun c => Str.join (Str.ofString " ") (clW ds c)).map V.str)) l = some (.lst (((y6 ts).map fun c => Str.join (Str.ofString " ") (clW ds c)).map V.str)) := zc;generalize upd H3 l (.lst (((y6 ts).map fun c => Str.join (Str.ofString " ") (clW ds c)).map V.str)) = H4 at *;have zl := (hK.G.outsG _ hK.last).2.1;have fw := hK.few;refine ⟨rfl, Zd (ZZ zl _) (by decide +kernel), by decide, fun p hp => ?_⟩;have S5 : Same H4 (upd H4 p (.lst [V.str (Str.ofString "deal " ++ z)])) := Same.upd (Same.refl _) hp;have u5 : upd H4 p (.lst [V.str (Str.ofString "deal " ++ z)]) p = some (.lst [V.str (Str.ofString "deal " ++ z)]) := zc;generalize upd H4 p (.lst [V.str (Str.ofString "deal " ++ z)]) = H5 at *;refine ⟨_, S5 _ _ u4, _, u5, ?_, fun p6 hp6 => ⟨txts ds (y6 ts) z, .of ?_, hK.join, ?_, ?_⟩⟩
      . rw [Za, Za]
        exact Zd (show _ <= 20 by show _ + 1 <= 20; omega) (by decide)
      . rw [zc, txts, rlW, Zn, Zn, zc8, ZS (f := clW ds)]
        rfl
      . rw [xy]
        exact Zd (ZZ (gb hK) _) (by decide +kernel)
      . rw [xy, dg]
        exact q _ (S3.trans (S4.trans (S5.trans (Same.upd (Same.refl _) hp6))))
theorem ny (wm : FnAt P w K mg base "_law_condition_holds" 1 ["told", "row"] za6) (D : zg K mg "_law_dealt" re ["clauses", "row", "last"]) : FnAt P w K mg base "_law_dealt" 2 ["clauses", "row", "last"] al := by
  refine FnAt.of D sc_law_dealt (fun vs H Q E h => ?_) (fun f cdv A outer s H vs Q E hr h => ?_)
  . obtain ⟨cl, r, ts, row, z, rfl, _⟩ := h
    rfl
  . obtain ⟨cl, r, ts, row, z, rfl, hC, hrw, hts, q⟩ := h
    refine ⟨_, (@ze _ _ _ _ _ (xz PassesOwn.never rfl (@yg _ _ _ _ (pv 0)) (bw rfl (sw (zx (i := 3) sc_law_dealt.nd rfl (Or.inl rfl)) (sw (zx (i := 4) sc_law_dealt.nd rfl (Or.inl rfl)) (@fc _)))) (@zf _ _ _ (@yd _ _ _ _ _ _ _ _ (xg (zk wm (hr.mono (by decide)) rfl (za (pv 3) (za (pv 1) (@zb _))))) (@zf _ _ _ (@zq _ _ _ _ (pv 4))) (@zz _)))) (@zf _ _ _ (@zq _ _ _ _ (pv 2)))), ?_⟩;rw [show start ["clauses", "row", "last", "told", "outcome"] [V.ref cl, V.ref r, V.str z] = [some (V.ref cl), some (V.ref r), some (V.str z), none, none] from rfl];simp only [zi, zj, ↓reduceIte];refine ⟨⟨_, .of hC.at'⟩, ?_⟩;have lps : (y6 ts).length = ts.length := by rw [y6, Za]
    refine wv (xs := ts.map fun c => V.ref c.T) (PvDz cl r z ts row H) ⟨Same.refl _, (fun _ y => by simp at y), _, _, rfl⟩ ?_ ?_ ?_
    . rintro i σ H3 hi ⟨S3, hn, v1, v2, rfl⟩
      exact .of (S3 _ _ hC.at')
    . rintro i x σ H3 hx ⟨S3, hn, v1, v2, rfl⟩
      obtain ⟨c, hc, rfl⟩ := yj hx;have hm := Zi hc;obtain ⟨h1, h2⟩ := (hC.mono S3).each c hm;obtain ⟨b1, b2, b3⟩ := hts c hm
      have ep : (psOf (y6 ts) z)[i]? = some (some c.td.cd, c.o) := by
        have hi := (Zc.mp hc).1;rw [psOf, Zg (by rw [Za]; omega), Ze, y6, Ze, hc];rfl
      simp only [zi, zj, ↓reduceIte];refine ⟨_, .of h1, rfl, _, _, rfl, _, _, rfl, rfl, c.l, r, c.td, row, rfl, h2, S3 _ _ hrw, b1, b2, b3, fun H4 S4 => ⟨_, rfl, ite2 (fun h => ?_) fun h => ?_⟩⟩
      . have := q H4 (S3.trans S4)
        rw [jv ep hn h] at this;exact this
      . refine ⟨S3.trans S4, fun d hd => ?_, _, _, rfl⟩
        rw [Zq, ep] at hd
        rcases ZH.mp hd with y | y
        . exact hn d y
        . rw [show d = (some c.td.cd, c.o) by simpa using y]
          exact Bool.eq_false_iff.mpr h
    . rintro σ H3 ⟨S3, hn, v1, v2, rfl⟩
      simp only [zi, zj, ↓reduceIte];rw [Za] at hn
      have ep : (psOf (y6 ts) z)[ts.length]? = some (none, z) := by
        rw [psOf, Zf (by rw [Za]; omega), Za, lps, YZ];rfl
      have := q H3 S3;rw [jv ep hn rfl] at this;exact this
end
def rem (H : Hp) (x : Addr) : Hp := fun b => if b = x then none else H b
theorem mv (H : Hp) (x : Addr) : rem H x x = none := if_pos rfl
theorem il {H : Hp} {x b : Addr} (h : b ≠ x) : rem H x b = H b := if_neg h
theorem cm (H : Hp) (x : Addr) : Same (rem H x) H := fun b u h => by
  by_cases e : b = x
  . rw [e, mv] at h; cases h
  . rwa [il e] at h
theorem bg {H H' : Hp} {x : Addr} (S : Same H H') (hx : H x = none) : Same H (rem H' x) := fun b u h => by
  rw [il (fun e => by rw [e, hx] at h; cases h)];exact S b u h
section
variable {H : Hp} {x C dx : Addr} {fs : List (Str × V)}
theorem uh {b : Addr} {ys : List V} (hx : H x = some (.ins C dx fs)) (h : H b = some (.tup ys)) : rem H x b = some (.tup ys) := by
  rw [il (fun e => by rw [e, hx] at h; cases h)]; exact h
theorem jf {b : Addr} {ys : List V} (hx : H x = some (.ins C dx fs)) (h : H b = some (.lst ys)) : rem H x b = some (.lst ys) := by
  rw [il (fun e => by rw [e, hx] at h; cases h)]; exact h
theorem HHouse.rem {p o h : Addr} {hs : List Addr} {outs : List Str} {ds : List HD} (hx : H x = some (.ins C dx fs)) (q : HHouse H p o h hs outs ds) : HHouse (rem H x) p o h hs outs ds := by
  refine ⟨uh hx q.tup, uh hx q.outs, uh hx q.hands, q.hand.1, fun i t d e1 e2 => ?_⟩;obtain ⟨w, g, gs, k⟩ := q.hand.2 i t d e1 e2;exact ⟨w, g, gs, uh hx k.tup, uh hx k.words, uh hx k.grid, k.len, fun j r ns e3 e4 => uh hx (k.row j r ns e3 e4)⟩
theorem ClsAt.rem {cl : Addr} {ts : List CE} (hx : H x = some (.ins C dx fs)) (q : ClsAt H cl ts) : ClsAt (rem H x) cl ts :=
  ⟨jf hx q.at', fun c hc => ⟨uh hx (q.each c hc).1, jf hx (q.each c hc).2⟩⟩
end
theorem da (r : Str) : Str.ofString "deal " ++ r = wj "deal" r := by
  rw [wj, show ("deal" : Str) ++ Str.ofString " " = Str.ofString "deal " from by decide +kernel]
theorem bz (h t : V) : List.lookup (Str.ofString "say") [(("house" : Str), h), ("table", t)] = none := by
  rw [List.lookup, show (Str.ofString "say" == ("house" : Str)) = false from by decide +kernel]
  show List.lookup (Str.ofString "say") [(("table" : Str), t)] = none
  rw [List.lookup, show (Str.ofString "say" == ("table" : Str)) = false from by decide +kernel];rfl
def PvOu (C sc b o x dx p L : Addr) (pl : Nat) (outs : List Str) (R : Hp) (i : Nat) (σ : L2.St) (H' : Hp) : Prop := Same R H' /\ ∃ (tb : V) (z : Str) (v6 v7 v8 : Option V), H' x = some (uc C dx (.ref p) tb) /\ z ∈ outs /\ σ = [some (.ref sc), some (.int pl), some (.ref b), some (.ref o), some (.ref x), some (.str z), v6, v7, v8]
def PvRr (st : L2.St) (H : Hp) (_ : Nat) (σ : L2.St) (H' : Hp) : Prop := Same H H' /\ ∃ v7 v8 : Option V, σ = st ++ [v7, v8]
structure RowOk (ds : List HD) (r : List Str) : Prop where
  len : r.length = ds.length
  good : ∀ z ∈ r, GoodN z
theorem row_ok {n : Nat} {ds : List HD} {r : List Str} (h : w9 n ds) (hr : r ∈ yr (ds.map HD.words)) : RowOk ds r := by
  have hw : (ds.map HD.words).take (ds.map HD.words).length = ds.map HD.words := Zt;have p := (zen (ds.map HD.words) (ds.map HD.words).length (Zm _) r).mp (by rw [hw]; exact hr);rw [hw] at p;have l1 := p.1;rw [Za] at l1;refine ⟨l1, fun z hz => ?_⟩;obtain ⟨j, hj⟩ := List.getElem?_of_mem hz;have hjl := (Zc.mp hj).1;have ed : ds[j]? = some ds[j] := Zb (by omega);obtain ⟨w, e1, e2⟩ := p.2 j (ds[j]).words (by rw [Ze, ed]; rfl);rw [e1] at hj;cases hj;exact (h.hand _ (Zi ed)).good _ e2
section
variable {P : Program} {w : World} {K : Fg} {mg : Str -> Option Value} {base : Heap} {a : Ad}
theorem law_fn (B : Bt mg) (c_Desk : jh K mg "Desk" a.Desk "Desk.__init__" xu ["self"] ["house", "table"]) (af : MkAt P w K mg base "Desk" a.Desk 1 ["self"] (zbp a.Desk)) (uv : ca P w K mg base a.Desk "say" 48 ["self", "row"] (spSay K a.Desk zbn zbv)) (yt : FnAt P w K mg base "_law_cell" 1 ["script", "k"] (iu K)) (nq : FnAt P w K mg base "_law_hands" 2 ["script", "places", "top"] (zbf K)) (w6 : FnAt P w K mg base "_law_names" 1 ["cell", "many"] fh) (sf : FnAt P w K mg base "_law_house_row" 1 ["outcomes", "hands"] i9) (qo : FnAt P w K mg base "_law_clauses" 2 ["script", "hands", "outcomes"] (zc3 K)) (sr : FnAt P w K mg base "_law_rule_row" 2 ["clauses", "hands", "last"] df) (my : FnAt P w K mg base "_law_rows" 1 ["hands"] zax) (ny : FnAt P w K mg base "_law_dealt" 2 ["clauses", "row", "last"] al) {f : Addr} {fd : FuncData} (F : Fun K "law" "law" jp f fd) : FnOk P w K mg base CX0 50 f fd ["script"] (zcv K) := by
  refine F.ok sc_law (fun vs H Q E h => ?_) (fun cdv A outer s H vs Q E hr h => ?_)
  . obtain ⟨b, ns, rfl, _⟩ := h
    rfl
  . obtain ⟨sc, ns, rfl, hS, hlen, q⟩ := h
    refine ⟨_, (@ze _ _ _ _ _ (zv (i := 1) sc_law.nd rfl (Or.inl rfl) (@zo _ _ _ _ _ _ _ _ yy (@zd _ _ _ _) (@zo _ _ _ _ _ _ _ _ yn (zk yt (hr.mono (by decide)) rfl (za (pv 0) (za (@zd _ _ _ _) (@zb _)))) (@zd _ _ _ _)))) (@ze _ _ _ _ _ (zv (i := 2) sc_law.nd rfl (Or.inl rfl) (zk nq (hr.mono (by decide)) rfl (za (pv 0) (za (pv 1) (za (@zo _ _ _ _ _ _ _ _ iz (@zd _ _ _ _) (@zd _ _ _ _)) (@zb _)))))) (@ze _ _ _ _ _ (zv (i := 3) sc_law.nd rfl (Or.inl rfl) (zk w6 (hr.mono (by decide)) rfl (za (zk yt (hr.mono (by decide)) rfl (za (pv 0) (za (@zd _ _ _ _) (@zb _)))) (za (pv 1) (@zb _))))) (@ze _ _ _ _ _ (zv (i := 4) sc_law.nd rfl (Or.inl rfl) (pe_mkA af (hr.mono (by decide)) rfl)) (@ze _ _ _ _ _ (@yd _ _ _ _ _ _ _ _ (@z5 _ _ _ _ _ _ _ _ vx (bx (pv 4) c_Desk.cl uv (hr.mono (by decide)) (za (zk sf (hr.mono (by decide)) rfl (za (pv 3) (za (pv 2) (@zb _)))) (@zb _))) (@zm _ _ _ _) (z9 _)) (@zf _ _ _ (@zq _ _ _ _ (@vz _ _ _ _))) (@zz _)) (@ze _ _ _ _ _ (zv (i := 5) sc_law.nd rfl (Or.inl rfl) (@zu _ _ _ _ _ _ _ z3 (pv 3) (@zo _ _ _ _ _ _ _ _ yn (zk yt (hr.mono (by decide)) rfl (za (pv 0) (za (@zd _ _ _ _) (@zb _)))) (pv 1)) (fun _ _ => rfl))) (@ze _ _ _ _ _ (xz PassesOwn.never rfl (@yg _ _ _ _ (@y3 _ _ _ _ (@za _ _ _ _ _ (zk qo (hr.mono (by decide)) rfl (@za _ _ _ _ _ (pv 0) (@za _ _ _ _ _ (pv 2) (@za _ _ _ _ _ (pv 3) (@zb _) (zp nofun)) (zp nofun)) (zp nofun))) (@za _ _ _ _ _ (@y3 _ _ _ _ (@zb _)) (@zb _) (zp nofun)) (zp nofun)))) (zx (i := 6) sc_law.nd rfl (Or.inl rfl)) (@ze _ _ _ _ _ (@yd _ _ _ _ _ _ _ _ (@z5 _ _ _ _ _ _ _ _ vx (bx (pv 4) c_Desk.cl uv (hr.mono (by decide)) (za (zk sr (hr.mono (by decide)) rfl (za (pv 6) (za (pv 2) (za (pv 5) (@zb _))))) (@zb _))) (@zm _ _ _ _) (z9 _)) (@zf _ _ _ (@zq _ _ _ _ (@vz _ _ _ _))) (@zz _)) (@ze _ _ _ _ _ (xz PassesOwn.never rfl (@yg _ _ _ _ (zk my (hr.mono (by decide)) rfl (za (pv 2) (@zb _)))) (zx (i := 7) sc_law.nd rfl (Or.inl rfl)) (@ze _ _ _ _ _ (zv (i := 8) sc_law.nd rfl (Or.inl rfl) (bx (pv 4) c_Desk.cl uv (hr.mono (by decide)) (za (@zo _ _ _ _ _ _ _ _ z6 (@zm _ _ _ _) (xa PySem.F.plainAttrs_str PySem.F.slot_str_join PySem.F.type_str_join zfk (@zm _ _ _ _) (za (pv 7) (@zb _)))) (@zb _)))) (@zf _ _ _ (@yd _ _ _ _ _ _ _ _ (PW.pt (@v9 _ _ _ _ _ _ _ (@xn _ _ _ _ (xg (zy y4 rfl B.isinstance yu (za (pv 8) (za (se rfl B.str on) (@zb _)))))) (@vd _ _ _ _ (@z5 _ _ _ _ _ _ _ _ vx (pv 8) (zk ny (hr.mono (by decide)) rfl (za (pv 6) (za (pv 7) (za (pv 5) (@zb _))))) (z9 _))))) (@zf _ _ _ (@zq _ _ _ _ (@vz _ _ _ _))) (@zz _))))) (@zf _ _ _ (zv (i := 5) sc_law.nd rfl (Or.inl rfl) (@zu _ _ _ _ _ _ _ z3 (pv 3) (@zd _ _ _ _) (fun _ _ => rfl))))))) (@zf _ _ _ (@zq _ _ _ _ (@vz _ _ _ _)))))))))), ?_⟩;rw [show start ["script", "places", "hands", "outcomes", "desk", "last", "clauses", "row", "found"] [V.ref sc] = [some (V.ref sc), none, none, none, none, none, none, none, none] from rfl];refine zcm fun T hT => ?_
    simp only [zi, zj, ↓reduceIte];refine ⟨sc, ns, 0, rfl, hS, by decide, fun c0 => ?_⟩;have h4 := yp c0 (show (0 : Int) < 4 by decide);obtain ⟨pl, epl⟩ : ∃ pl : Nat, 1 + c0 % 4 = pl := ⟨(1 + c0 % 4).toNat, by omega⟩;refine ⟨c0, rfl, by decide, ⟨by decide, by decide, by decide⟩, ?_⟩;rw [epl];refine ⟨sc, ns, pl, _, rfl, hS, by omega, by omega, by decide, by decide, fun H1 b xs ds S1 hL hOk => ?_⟩;refine ⟨sc, ns, 2, rfl, S1.seq hS, by decide, fun c2 => ⟨c2, pl, rfl, by omega, fun H2 o outs S2 _ ho lo og od x dx hxn hdn hne => ?_⟩⟩;have hS2 := (S1.trans S2).seq hS;have hL2 := hL.mono S2;rw [<- lo] at hOk;have G := bc (by omega) og od hOk;have S3 : Same H2 (upd (upd (upd (upd H2 dx (.own x)) x (.ins a.Desk dx [])) x (.ins a.Desk dx [("house", .non)])) x (.ins a.Desk dx [("house", .non), ("table", .non)])) := Same.upd (Same.upd (Same.upd (Same.upd (Same.refl _) hdn) hxn) hxn) hxn;refine ⟨x, dx, rfl, zc, rfl, ?_⟩;have u3 : upd (upd (upd (upd H2 dx (.own x)) x (.ins a.Desk dx [])) x (.ins a.Desk dx [("house", .non)])) x (.ins a.Desk dx [("house", .non), ("table", .non)]) x = some (.ins a.Desk dx [("house", .non), ("table", .non)]) := zc;generalize upd (upd (upd (upd H2 dx (.own x)) x (.ins a.Desk dx [])) x (.ins a.Desk dx [("house", .non)])) x (.ins a.Desk dx [("house", .non), ("table", .non)]) = H3 at *;rw [hT];clear hT T;refine gh fun T hT => ?_
    simp only [zi, zj, ↓reduceIte];have hS3 := S3.seq hS2;have hL3 := hL2.mono S3;have ho3 := S3 _ _ ho;have jl := (lc og (by omega) hOk).2;refine ⟨_, _, u3, bz _ _, o, b, outs, xs, ds, rfl, ho3, hL3, og, by omega, hOk, fun H4 S4 => ?_⟩;refine ⟨x, dx, .non, .non, "house", vh outs ds, rfl, S4 _ _ u3, by simp [uo], ?_, .inl ⟨rfl, outs, ds, rfl, G, zhk og (by omega) hOk, fun H5 p o' hh hs S5 hH => ?_⟩⟩
    . rw [<- gg, zw]
      exact Zd (ZZ jl _) (by decide +kernel)
    have hx5 := S5 _ _ (S4 _ _ u3);have hR5 := HHouse.rem hx5 hH;have S25 : Same H2 (rem H5 x) := bg (S3.trans (S4.trans S5)) hxn;have u6 : upd (upd H5 x (uc a.Desk dx (.ref p) .non)) x (uc a.Desk dx (.ref p) .non) x = some (uc a.Desk dx (.ref p) .non) := zc;have S56 : Same (rem H5 x) (upd (upd H5 x (uc a.Desk dx (.ref p) .non)) x (uc a.Desk dx (.ref p) .non)) := Same.upd (Same.upd (cm H5 x) (mv H5 x)) (mv H5 x);generalize upd (upd H5 x (uc a.Desk dx (.ref p) .non)) x (uc a.Desk dx (.ref p) .non) = H6 at *;have S26 := S25.trans S56;have hH6 := hR5.mono S56;clear hx5 hR5 S25 S56 hH S5 S4 u3 hL3 ho3 hS3 jl;refine ⟨rfl, ite2 (fun h => absurd h (by simp)) fun _ => ?_⟩;rw [hT];clear hT T;refine zcb fun T hT => ?_
    simp only [zi, zj, ↓reduceIte];have hS6 := S26.seq hS2;refine ⟨sc, ns, 50, rfl, hS6, by decide, fun c50 => ?_⟩;obtain ⟨kz, z0, ez0, hz0, mz0⟩ := kh (zs := outs) (by omega) c50;rw [lo] at ez0;refine ⟨c50, rfl, by omega, _, .of (S26 _ _ ho), V.str z0, by rw [ez0]; exact zn (by rw [Ze, hz0]; rfl), ?_⟩;refine ⟨sc, ns, b, xs, ds, o, outs, outs.length, rfl, hS6, hL2.mono S26, hOk, S26 _ _ ho, by omega, fun H7 cl ts S7 hC lt hts => ⟨by decide, fun e0 he0 => ?_⟩⟩;have S8 : Same H7 (upd H7 e0 (.lst [])) := Same.upd (Same.refl _) he0;have u8 : upd H7 e0 (.lst []) e0 = some (.lst []) := zc;generalize upd H7 e0 (.lst []) = H8 at *;refine ⟨by decide, fun L hLn => ?_⟩;have S9 : Same H8 (upd H8 L (.lst [V.ref cl, V.ref e0])) := Same.upd (Same.refl _) hLn;have u9 : upd H8 L (.lst [V.ref cl, V.ref e0]) L = some (.lst [V.ref cl, V.ref e0]) := zc;generalize upd H8 L (.lst [V.ref cl, V.ref e0]) = H9 at *;have S69 := S7.trans (S8.trans S9);have x9 := S69 _ _ u6;have R2 : Same H2 (rem H9 x) := bg (S26.trans S69) hxn;have RH := HHouse.rem x9 (hH6.mono S69);have RL := jf x9 u9
    have cts : ∀ (i : Nat) (y : V), [V.ref cl, V.ref e0][i]? = some y -> ∃ c ts', y = V.ref c /\ ClsAt (rem H9 x) c ts' /\ ts'.length <= 3 /\ ∀ e ∈ ts', TdOk ds e.td /\ e.o ∈ outs := fun i y hy => by
      rcases i with _ | _ | k
      . cases hy; exact ⟨cl, ts, rfl, ClsAt.rem x9 (hC.mono (S8.trans S9)), lt, hts⟩
      . cases hy; exact ⟨e0, [], rfl, ⟨jf x9 (S9 _ _ u8), fun _ z => nomatch z⟩, by decide, fun _ z => nomatch z⟩
      . cases hy
    have R9 := cm H9 x;have rn := mv H9 x;refine ⟨⟨_, .of u9⟩, ?_⟩;clear hH6 S69 S26 S7 S8 S9 u8 u9 hC hts lt hLn he0 hS6;generalize rem H9 x = R at *;refine wv (xs := [V.ref cl, V.ref e0]) (PvOu a.Desk sc b o x dx p L pl outs R) ⟨R9, _, z0, _, _, _, x9, mz0, rfl⟩ ?_ ?_ ?_
    . rintro i σ H' hi ⟨S, tb, z, v6, v7, v8, hx, mz, rfl⟩
      exact .of (S _ _ RL)
    . rintro i y σ H' hy ⟨S, tb, z, v6, v7, v8, hx, mz, rfl⟩
      obtain ⟨c, ts', rfl, hC, lt, hts⟩ := cts i y hy;have hK := cls_ok G lt hts mz;have hL' := hL2.mono (R2.trans S);refine gh fun T2 hT2 => ?_
      simp only [zi, zj, ↓reduceIte];have rl := gb hK;refine ⟨_, _, hx, bz _ _, c, b, xs, ds, ts', outs.length, outs, z, rfl, hC.mono S, hL', hOk, fun e he => (hts e he).1, hK, fun H4 S4 => ?_⟩;refine ⟨x, dx, .ref p, tb, "rule", oo ds (y6 ts') z, rfl, S4 _ _ hx, by simp [uo], ?_, .inr (.inl ⟨rfl, p, rfl, fun H5 S5 => ?_⟩)⟩
      . rw [<- dg, zw]
        exact Zd (ZZ rl _) (by decide +kernel)
      have S05 := S.trans (S4.trans S5);refine ⟨p, o', hh, hs, outs, ds, y6 ts', z, rfl, RH.mono S05, hK, fun H6 t S6 ht => ?_⟩;have hx6 := (S4.trans (S5.trans S6)) _ _ hx;refine ⟨_, _, _, hx6, c_Desk.cl, c_Desk.no "table" (by simp), by simp, ?_⟩;have hp6 : putF "table" (V.ref t) [(("house" : Str), V.ref p), ("table", tb)] = [(("house" : Str), V.ref p), ("table", V.ref t)] := rfl;rw [hp6]
      have t7 : upd H6 x (.ins a.Desk dx [("house", V.ref p), ("table", V.ref t)]) t = some (.dT (ww (vf (psOf (y6 ts') z)) (yr (ds.map HD.words)))) := by
        rw [z8 (fun e => by rw [e, hx6] at ht; cases ht)];exact ht
      have x7 : upd H6 x (.ins a.Desk dx [("house", V.ref p), ("table", V.ref t)]) x = some (uc a.Desk dx (V.ref p) (V.ref t)) := zc;have S07 : Same R (upd H6 x (.ins a.Desk dx [("house", V.ref p), ("table", V.ref t)])) := Same.upd (S05.trans S6) rn;generalize upd H6 x (.ins a.Desk dx [("house", V.ref p), ("table", V.ref t)]) = H7 at *;clear S05 S6 hx6 ht S5 S4 hx S hL' hp6;refine ⟨rfl, ite2 (fun h => absurd h (by simp)) fun _ => ?_⟩;rw [hT2];clear hT2 T2;refine gh fun T2 hT2 => ?_
      simp only [zi, zj, ↓reduceIte];refine ⟨b, xs, ds, rfl, hL2.mono (R2.trans S07), by have := hOk.len; omega, fun d hd => by have := (hOk.hand d hd).len; omega, fun H8 lr as S8 hW => ⟨lr, rfl, ⟨_, .of hW.lst⟩, ?_⟩⟩;have hf := fun e (he : e ∈ ts') => (hts e he).1
      refine wv (xs := as.map V.ref) (PvRr [some (V.ref sc), some (V.int ↑pl), some (V.ref b), some (V.ref o), some (V.ref x), some (V.str z), some (V.ref c)] H8) ⟨Same.refl _, _, _, rfl⟩ ?_ ?_ ?_
      . rintro k σ H9 hk ⟨S9, v7, v8, rfl⟩
        exact .of (S9 _ _ hW.lst)
      . rintro k y σ H9 hy ⟨S9, v7, v8, rfl⟩
        obtain ⟨r, er, rfl⟩ := ld hy;have hk : k < (yr (ds.map HD.words)).length := by have := (Zc.mp er).1; have := hW.tups.len; omega
        have hrm := Zl hk;have hr9 := S9 _ _ (hW.tups.at' k r _ er (Zb hk));generalize (yr (ds.map HD.words))[k] = row at *;have ro := row_ok hOk hrm;have rn0 : row ≠ [] := fun e => by have := ro.len; rw [e] at this; have := hOk.len; simp at *; omega
        have rj := ra (y := Str.ofString " ") (ps := row) (B := 8) (n := 4) (fun p hp => (ro.good p hp).2.1) (by have := ro.len; have := hOk.len; omega) (by decide +kernel) (by decide);have S79 := S8.trans S9;simp only [zi, zj, ↓reduceIte, Yv, Yo]
        have hin : ∀ e ∈ ts', e.td.k < row.length /\ e.td.j < row.length /\ e.td.m < 5 := fun e he => by
          obtain ⟨⟨d1, k1, _⟩, ⟨d2, k2, _⟩⟩ := And.intro (hf e he).k (hf e he).j;have := (Zc.mp k1).1;have := (Zc.mp k2).1;have := (hf e he).m;have := ro.len;omega
        have jl : (Str.ofString "deal ").length + (Str.join (Str.ofString " ") row).length <= sizeLine := Zd (ZZ rj.2 _) (by decide +kernel);refine ⟨_, _, S79 _ _ x7, bz _ _, rfl, row, .of hr9, rj.1, ?_⟩;rw [xy];refine ⟨jl, x, dx, .ref p, .ref t, "deal", Str.join (Str.ofString " ") row, by rw [da], S79 _ _ x7, by simp [uo], by rw [<- da, zw]; exact jl, .inr (.inr ⟨rfl, p, t, rfl, rfl, fun H10 S10 => ?_⟩)⟩;refine ⟨p, t, _, row, _, rfl, (S79.trans S10) _ _ t7, zcg hrm, rn0, fun z hz => (ro.good z hz).plain, by have := ro.len; have := hOk.len; omega, Zd rj.2 (by decide), fun H11 S11 => ?_⟩;have S911 := S10.trans S11;refine ⟨_, .str _, true, jm, iteF ⟨c, r, ts', row, z, rfl, hC.mono (S07.trans (S79.trans S911)), S911 _ _ hr9, hin, fun H12 S12 => ⟨rfl, ite2 (fun h => absurd h (by simp)) fun _ => ⟨S9.trans (S911.trans S12), _, _, rfl⟩⟩⟩⟩
      . rintro σ H9 ⟨S9, v7, v8, rfl⟩
        show T2 _ _ _
        rw [hT2];have S09 := S07.trans (S8.trans S9);simp only [zi, zj, ↓reduceIte, Yv, Yo];have o0 : outs[0]? = some outs[0] := Zb (by omega);exact ⟨_, .of ((R2.trans S09) _ _ ho), V.str outs[0], zn (j := 0) (by rw [Ze, o0]; rfl), S09, _, _, _, _, _, (S8.trans S9) _ _ x7, Zl _, rfl⟩
    . rintro σ H' ⟨S, tb, z, v6, v7, v8, hx, mz, rfl⟩
      show T _ _ _
      rw [hT];simp only [zi, zj, ↓reduceIte];exact q _
end
section
variable {P : Program} {w : World} {K : Fg} {mg : Str -> Option Value} {base : Heap} {a : Ad}
theorem law_ok (B : Bt mg) (C : Ct K mg a) (d_is_whole : zg K mg "is_whole" pb ["thing"]) (d_is_bounded : zg K mg "is_bounded" tm ["thing"]) (d_is_grid_row : zg K mg "is_grid_row" ub ["thing", "width"]) (d_is_name : zg K mg "is_name" o9 ["thing"]) (d_are_names : zg K mg "are_names" rm ["thing", "most"]) (d_are_worths : zg K mg "are_worths" tu ["thing", "height", "width"]) (d_is_hand : zg K mg "is_hand" oz ["thing", "width"]) (d_name_of : zg K mg "name_of" qi ["hand"]) (d_names_of : zg K mg "names_of" uq ["hands"]) (d_words_of_hand : zg K mg "words_of_hand" wf ["hand"]) (d_worths_of_hand : zg K mg "worths_of_hand" wu ["hand"]) (d_count_of_rows : zg K mg "count_of_rows" va ["hands"]) (d_makes_house : zg K mg "makes_house" vy ["outcomes", "hands"]) (d_kept_hand : zg K mg "kept_hand" vp ["hand"]) (d_house_of : zg K mg "house_of" t9 ["outcomes", "hands"]) (d_outcomes_of : zg K mg "outcomes_of" vv ["house"]) (d_hands_of : zg K mg "hands_of" ph ["house"]) (d_with_each : zg K mg "with_each" qc ["rows", "words"]) (d_rows_over : zg K mg "rows_over" rk ["hands"]) (d_rows_of : zg K mg "rows_of" o5 ["house"]) (d_holds : zg K mg "holds" jo ["condition", "row"]) (d_dealt : zg K mg "dealt" jn ["rule", "row"]) (d_table_of : zg K mg "table_of" qx ["house", "rule"]) (d_condition_of : zg K mg "condition_of" vj ["told"]) (d_place_of : zg K mg "place_of" pj ["told"]) (d_word_at : zg K mg "word_at" ox ["words", "place"]) (d_read_says : zg K mg "read_says" r9 ["house", "name", "word"]) (d_read_count : zg K mg "read_count" tq ["house", "figure", "word"]) (d_read_condition : zg K mg "read_condition" wq ["house", "words", "place"]) (d_read_deal : zg K mg "read_deal" rg ["house", "words"]) (d_read_clause : zg K mg "read_clause" v5 ["house", "words"]) (d_clauses_in : zg K mg "clauses_in" si ["text"]) (d_read_rule : zg K mg "read_rule" qd ["house", "text"]) (d_are_figures : zg K mg "are_figures" ua ["text"]) (d_number_of : zg K mg "number_of" rq ["text"]) (d_numbers_of : zg K mg "numbers_of" sm ["words"]) (d_hand_from : zg K mg "hand_from" qa ["text"]) (d_read_house : zg K mg "read_house" ur ["text"]) (d_rule_table : zg K mg "rule_table" tw ["house", "rest"]) (d_row_from : zg K mg "row_from" qu ["table", "rest"]) (d_deal_told : zg K mg "deal_told" rh ["house", "table", "rest"]) (d_refuse_row : zg K mg "refuse_row" sg ["row"]) (d_law_cell : zg K mg "_law_cell" q8 ["script", "k"]) (d_law_number : zg K mg "_law_number" ux ["cell", "top"]) (d_law_names : zg K mg "_law_names" zt ["cell", "many"]) (d_law_hands : zg K mg "_law_hands" ri ["script", "places", "top"]) (d_law_rows : zg K mg "_law_rows" qw ["hands"]) (d_law_house_row : zg K mg "_law_house_row" vc ["outcomes", "hands"]) (d_law_condition : zg K mg "_law_condition" vb ["cell", "hands"]) (d_law_condition_text : zg K mg "_law_condition_text" xw ["told", "hands"]) (d_law_condition_holds : zg K mg "_law_condition_holds" xr ["told", "row"]) (d_law_clauses : zg K mg "_law_clauses" v0 ["script", "hands", "outcomes"]) (d_law_rule_row : zg K mg "_law_rule_row" vg ["clauses", "hands", "last"]) (d_law_dealt : zg K mg "_law_dealt" re ["clauses", "row", "last"]) (c_Desk : jh K mg "Desk" a.Desk "Desk.__init__" xu ["self"] ["house", "table"]) (m_Desk_say : MtIn K a.Desk "say" "Desk.say" qz ["self", "row"]) (g_MAKERS : na P w K mg "MAKERS" [("rule", "rule_table"), ("best", "weighted_table")]) (g_ANSWERS : na P w K mg "ANSWERS" [("deal", "deal_told"), ("pays", "pays_told"), ("verdict", "verdict_told"), ("menu", "menu_told")]) (base : Heap) {f : Addr} {fd : FuncData} (F : Fun K "law" "law" jp f fd) : FnOk P w K mg base CX0 50 f fd ["script"] (zcv K) := by
  have n1 := qk (P := P) (w := w) (base := base) B d_is_name;have n2 := w5 B n1 d_are_names;have n3 := qr B (p9 B (l5 (P := P) (w := w) (base := base) B d_is_whole) d_is_bounded) d_is_grid_row;have n4 := oh B n3 d_are_worths;have n5 := ki B n1 n2 n4 d_is_hand;have n6 := wc (P := P) (w := w) (base := base) d_name_of;have n7 := yf (P := P) (w := w) (base := base) d_words_of_hand;have n8 := x0 (P := P) (w := w) (base := base) d_worths_of_hand;have n9 := wz B n2 n5 (uz n6 d_names_of) (tj B n7 d_count_of_rows) d_makes_house;have n10 := zby B C n9 (zaj B n6 n7 n8 d_kept_hand) d_house_of;have m0 := du (P := P) (w := w) (base := base) d_outcomes_of;have m1 := zcn (P := P) (w := w) (base := base) d_hands_of;have mw := gv (P := P) (w := w) (base := base) d_words_of_hand;have r1 := wo (P := P) (w := w) (base := base) B C d_word_at;have r2 := rz B C m1 (zco (zeh (P := P) (w := w) (base := base) d_name_of) d_names_of) mw d_read_says;have r3 := y7 (P := P) (w := w) (base := base) d_condition_of;have r4 := we (P := P) (w := w) (base := base) d_place_of;have r5 := vt B C m0 d_read_deal;have r6 := yx B C r1 r2 (sh B C m1 mw d_read_count) r3 r4 d_read_condition 40;have r7 := n0 B C (oj (P := P) (w := w) (base := base) B C d_clauses_in) (qq B C r6 r3 r4 r5 d_read_clause) r5 d_read_rule;have t1 := k8 (P := P) (w := w) (base := base) B (nz B (nn (P := P) (w := w) (base := base) B d_with_each) mw d_rows_over) m1 d_rows_of;have t2 := lm B t1 (fj (w4 (P := P) (w := w) (base := base) d_holds 41) d_dealt) d_table_of;have x1 := ma B (qm (P := P) (w := w) (base := base) B d_are_figures) d_number_of;have x2 := oq B (nu B (ot B x1 d_numbers_of) d_hand_from) n10 d_read_house;have sy := uv (P := P) (w := w) (base := base) B C c_Desk g_MAKERS g_ANSWERS (ou (P := P) (w := w) (base := base) B C g_MAKERS g_ANSWERS d_refuse_row) x2 (f_rule_table r7 t2 d_rule_table) (f_deal_told B (m3 (P := P) (w := w) (base := base) B C d_row_from) d_deal_told) m_Desk_say;have c1 := yt (P := P) (w := w) (base := base) B d_law_cell;have c2 := w6 (P := P) (w := w) (base := base) B d_law_names;exact law_fn B c_Desk (af (P := P) (w := w) (base := base) c_Desk) sy c1 (nq B c1 (p5 (P := P) (w := w) (base := base) d_law_number) c2 d_law_hands) c2 (sf (P := P) (w := w) (base := base) B d_law_house_row) (qo B c1 (sd (P := P) (w := w) (base := base) B d_law_condition) d_law_clauses) (sr B (wt (P := P) (w := w) (base := base) B d_law_condition_text) d_law_rule_row) (my (P := P) (w := w) (base := base) d_law_rows) (ny (wm (P := P) (w := w) (base := base) B d_law_condition_holds) d_law_dealt) F
end
end Mine
namespace Tp
open PySem PySem.W PySem.Calls PyProof.Rows
noncomputable section
abbrev pr : Program := PySem.Challenge.pw_trueword_k73_rules_said
def en (P : Params) (x : Str) (t : Nat) (v : Value) : DictEntry := ⟨PyData.keyHash P x, .str x t, v⟩
abbrev fn (i : Nat) (name qual : Str) (dV kV doc pm : Value) (an : Option Addr) (cdv ct : Value) : FuncData := fnOf name qual (L2.wb (Mine.top i)) (L2.ya (Mine.top i)) (L2.zh (Mine.top i)) dV kV doc pm an cdv ct
abbrev fx (i : Nat) (name qual : Str) (g : Addr) (dV kV doc pm : Value) (an : Option Addr) (cdv ct : Value) (b : Addr) : FuncData := ⟨name, qual, L2.wb (Mine.top i), .stmts (L2.ya (Mine.top i)), L2.zh (Mine.top i), g, [], dV, kV, doc, pm, an, cdv, ct, b⟩
def oE : Obj := ⟨.type "tuple", none, .seq #[] 0, #[]⟩
def oF : Obj := ⟨.none, none, .fields #[], #[]⟩
def tl : Nat -> List Str -> List Value
  | _, [] => []
  | t, x :: r => .str x t :: tl (t + 1) r
def ts (t : Nat) (xs : List Str) : Obj := ⟨.type "tuple", none, .seq (tl t xs).toArray 0, #[]⟩
def fo (i : Nat) (n m : Str) (t c : Nat) : Obj := ⟨.type "function", none, .func (fn i n n .none .none .none (.str m t) none (.ref c) .none), #[]⟩
def xo (i : Nat) (n : Str) : Obj := ⟨.none, none, .func (fx i n n 0 .none .none .none .none none .none .none 0), #[]⟩
def co (n : Str) (t l c f a : Nat) (b : Bool) (e : Nat) (v1 v2 v3 v4 : Value) (k : Nat) : Obj := ⟨.type "code", none, .fields #[.str n t, .str n (t + 1), .str "/claim/cut.py" (t + 2), .int l 0, .int c 0, .int 0 0, .int 0 0, .int f 0, .ref a, .bool b, .int 181 0, .ref e, v1, v2, v3, v4, .int k 0, .int l 0, .str "/claim/cut.py" (k + 1)], #[]⟩
def ia (t : BT) : Nat -> List Obj -> BT
  | _, [] => t
  | n, o :: r => ia (t.ins n o) (n + 1) r
def lf (P : Params) : Life := (boot_heap P).life
def env : Env := { scope := pr.main.scope, locals := mainNs, globals := mainNs, cells := [], code := (.ref 13), frame := some 14 }
def cd : Code := .body (behindTheImports pr) env
def qp : Pos := ⟨0, 0, 0, 0⟩
def o13 : Obj := (co "<module>" 182 1 0 0 11 false 12 .none .none .none .none 185)
def ha (P : Params) : Heap := ⟨⟨[boot_o_0 P, boot_o_1 P, boot_o_2 P, boot_o_3 P, boot_o_4 P, boot_o_5 P, boot_o_6 P, boot_o_7 P, boot_o_8 P, boot_o_9 P, boot_o_10 P, oE, oF, o13, ⟨(.type "frame"), none, .plain, #[(some (.ref 13)), (some (.ref 3)), (some (.ref 3)), none, (some (.str "__main__" 164)), none, (some (.ref 0))]⟩]⟩, lf P⟩
def t0 (P : Params) : BT := (.node (boot_o_0 P) (.node (boot_o_1 P) (.node (boot_o_3 P) (.node (boot_o_7 P) .nil .nil) (.node (oE) .nil .nil)) (.node (boot_o_5 P) (.node (boot_o_9 P) .nil .nil) (.node (o13) .nil .nil))) (.node (boot_o_2 P) (.node (boot_o_4 P) (.node (boot_o_8 P) .nil .nil) (.node (oF) .nil .nil)) (.node (boot_o_6 P) (.node (boot_o_10 P) .nil .nil) (.node (⟨(.type "frame"), none, .plain, #[(some (.ref 13)), (some (.ref 3)), (some (.ref 3)), none, (some (.str "__main__" 164)), none, (some (.ref 0))]⟩) .nil .nil))))
def o3 (P : Params) : Obj := ⟨(.type "dict"), none, (.dict #[en P "__name__" 165 (.str "trueword.errors" 187), en P "__doc__" 166 .none, en P "__package__" 167 .none, en P "__loader__" 168 (.builtin "__main__.__loader__#opaque"), en P "__spec__" 169 .none, en P "__annotations__" 170 (.ref 6), en P "__builtins__" 171 (.ref 4), en P "__file__" 173 (.str "/claim/cut.py" 172), en P "__cached__" 174 .none, en P "TrueError" 206 (.ref 24), en P "NoPays" 222 (.ref 37), en P "NoHouse" 238 (.ref 49), en P "NoWeight" 254 (.ref 61), en P "NoRule" 270 (.ref 73), en P "NoRow" 286 (.ref 85), en P "NoStand" 302 (.ref 97)] 16), #[]⟩
def o17 (P : Params) : Obj := ⟨(.type "dict"), none, (.dict #[en P "__module__" 196 (.str "trueword.errors" 187), en P "__qualname__" 198 (.str "TrueError" 197), en P "__firstlineno__" 200 (.int (2) 199), en P "__static_attributes__" 201 (.ref 22)] 4), #[]⟩
def o20 : Obj := (co "TrueError" 191 2 0 0 18 false 19 .none .none .none .none 194)
def o23 (P : Params) : Obj := ⟨(.type "dict"), none, (.dict #[en P "__module__" 196 (.str "trueword.errors" 187), en P "__firstlineno__" 200 (.int (2) 199), en P "__static_attributes__" 201 (.ref 22), en P "__weakref__" 203 (.ref 25), en P "__doc__" 204 .none] 3), #[]⟩
def o24 : Obj := ⟨(.type "type"), none, (.cls ⟨"TrueError", [(.type "ValueError")], [(.ref 24), (.type "ValueError"), (.type "Exception"), (.type "BaseException"), (.type "object")], 23, "TrueError", true, [], [(.ref 37), (.ref 49), (.ref 61), (.ref 73), (.ref 85), (.ref 97)], false, none, false⟩), #[(some (.ref 15)), none, (some (.str "TrueError" 189)), (some (.str "TrueError" 197)), (some (.builtin "ValueError.__new__")), (some (.bool true))]⟩
def o30 (P : Params) : Obj := ⟨(.type "dict"), none, (.dict #[en P "__module__" 214 (.str "trueword.errors" 187), en P "__qualname__" 216 (.str "NoPays" 215), en P "__firstlineno__" 218 (.int (4) 217), en P "__static_attributes__" 219 (.ref 35)] 4), #[]⟩
def o33 : Obj := (co "NoPays" 209 4 0 0 31 false 32 .none .none .none .none 212)
def o36 (P : Params) : Obj := ⟨(.type "dict"), none, (.dict #[en P "__module__" 214 (.str "trueword.errors" 187), en P "__firstlineno__" 218 (.int (4) 217), en P "__static_attributes__" 219 (.ref 35), en P "__doc__" 220 .none] 2), #[]⟩
def o37 : Obj := ⟨(.type "type"), none, (.cls ⟨"NoPays", [(.ref 24)], [(.ref 37), (.ref 24), (.type "ValueError"), (.type "Exception"), (.type "BaseException"), (.type "object")], 36, "NoPays", true, [], [], false, none, false⟩), #[(some (.ref 28)), none, (some (.str "NoPays" 207)), (some (.str "NoPays" 215)), (some (.builtin "ValueError.__new__")), (some (.bool true))]⟩
def o42 (P : Params) : Obj := ⟨(.type "dict"), none, (.dict #[en P "__module__" 230 (.str "trueword.errors" 187), en P "__qualname__" 232 (.str "NoHouse" 231), en P "__firstlineno__" 234 (.int (6) 233), en P "__static_attributes__" 235 (.ref 47)] 4), #[]⟩
def o45 : Obj := (co "NoHouse" 225 6 0 0 43 false 44 .none .none .none .none 228)
def o48 (P : Params) : Obj := ⟨(.type "dict"), none, (.dict #[en P "__module__" 230 (.str "trueword.errors" 187), en P "__firstlineno__" 234 (.int (6) 233), en P "__static_attributes__" 235 (.ref 47), en P "__doc__" 236 .none] 2), #[]⟩
def o49 : Obj := ⟨(.type "type"), none, (.cls ⟨"NoHouse", [(.ref 24)], [(.ref 49), (.ref 24), (.type "ValueError"), (.type "Exception"), (.type "BaseException"), (.type "object")], 48, "NoHouse", true, [], [], false, none, false⟩), #[(some (.ref 40)), none, (some (.str "NoHouse" 223)), (some (.str "NoHouse" 231)), (some (.builtin "ValueError.__new__")), (some (.bool true))]⟩
def o54 (P : Params) : Obj := ⟨(.type "dict"), none, (.dict #[en P "__module__" 246 (.str "trueword.errors" 187), en P "__qualname__" 248 (.str "NoWeight" 247), en P "__firstlineno__" 250 (.int (8) 249), en P "__static_attributes__" 251 (.ref 59)] 4), #[]⟩
def o57 : Obj := (co "NoWeight" 241 8 0 0 55 false 56 .none .none .none .none 244)
def o60 (P : Params) : Obj := ⟨(.type "dict"), none, (.dict #[en P "__module__" 246 (.str "trueword.errors" 187), en P "__firstlineno__" 250 (.int (8) 249), en P "__static_attributes__" 251 (.ref 59), en P "__doc__" 252 .none] 2), #[]⟩
def o61 : Obj := ⟨(.type "type"), none, (.cls ⟨"NoWeight", [(.ref 24)], [(.ref 61), (.ref 24), (.type "ValueError"), (.type "Exception"), (.type "BaseException"), (.type "object")], 60, "NoWeight", true, [], [], false, none, false⟩), #[(some (.ref 52)), none, (some (.str "NoWeight" 239)), (some (.str "NoWeight" 247)), (some (.builtin "ValueError.__new__")), (some (.bool true))]⟩
def o66 (P : Params) : Obj := ⟨(.type "dict"), none, (.dict #[en P "__module__" 262 (.str "trueword.errors" 187), en P "__qualname__" 264 (.str "NoRule" 263), en P "__firstlineno__" 266 (.int (10) 265), en P "__static_attributes__" 267 (.ref 71)] 4), #[]⟩
def o69 : Obj := (co "NoRule" 257 10 0 0 67 false 68 .none .none .none .none 260)
def o72 (P : Params) : Obj := ⟨(.type "dict"), none, (.dict #[en P "__module__" 262 (.str "trueword.errors" 187), en P "__firstlineno__" 266 (.int (10) 265), en P "__static_attributes__" 267 (.ref 71), en P "__doc__" 268 .none] 2), #[]⟩
def o73 : Obj := ⟨(.type "type"), none, (.cls ⟨"NoRule", [(.ref 24)], [(.ref 73), (.ref 24), (.type "ValueError"), (.type "Exception"), (.type "BaseException"), (.type "object")], 72, "NoRule", true, [], [], false, none, false⟩), #[(some (.ref 64)), none, (some (.str "NoRule" 255)), (some (.str "NoRule" 263)), (some (.builtin "ValueError.__new__")), (some (.bool true))]⟩
def o78 (P : Params) : Obj := ⟨(.type "dict"), none, (.dict #[en P "__module__" 278 (.str "trueword.errors" 187), en P "__qualname__" 280 (.str "NoRow" 279), en P "__firstlineno__" 282 (.int (12) 281), en P "__static_attributes__" 283 (.ref 83)] 4), #[]⟩
def o81 : Obj := (co "NoRow" 273 12 0 0 79 false 80 .none .none .none .none 276)
def o84 (P : Params) : Obj := ⟨(.type "dict"), none, (.dict #[en P "__module__" 278 (.str "trueword.errors" 187), en P "__firstlineno__" 282 (.int (12) 281), en P "__static_attributes__" 283 (.ref 83), en P "__doc__" 284 .none] 2), #[]⟩
def o85 : Obj := ⟨(.type "type"), none, (.cls ⟨"NoRow", [(.ref 24)], [(.ref 85), (.ref 24), (.type "ValueError"), (.type "Exception"), (.type "BaseException"), (.type "object")], 84, "NoRow", true, [], [], false, none, false⟩), #[(some (.ref 76)), none, (some (.str "NoRow" 271)), (some (.str "NoRow" 279)), (some (.builtin "ValueError.__new__")), (some (.bool true))]⟩
def o90 (P : Params) : Obj := ⟨(.type "dict"), none, (.dict #[en P "__module__" 294 (.str "trueword.errors" 187), en P "__qualname__" 296 (.str "NoStand" 295), en P "__firstlineno__" 298 (.int (14) 297), en P "__static_attributes__" 299 (.ref 95)] 4), #[]⟩
def o93 : Obj := (co "NoStand" 289 14 0 0 91 false 92 .none .none .none .none 292)
def o96 (P : Params) : Obj := ⟨(.type "dict"), none, (.dict #[en P "__module__" 294 (.str "trueword.errors" 187), en P "__firstlineno__" 298 (.int (14) 297), en P "__static_attributes__" 299 (.ref 95), en P "__doc__" 300 .none] 2), #[]⟩
def o97 : Obj := ⟨(.type "type"), none, (.cls ⟨"NoStand", [(.ref 24)], [(.ref 97), (.ref 24), (.type "ValueError"), (.type "Exception"), (.type "BaseException"), (.type "object")], 96, "NoStand", true, [], [], false, none, false⟩), #[(some (.ref 88)), none, (some (.str "NoStand" 287)), (some (.str "NoStand" 295)), (some (.builtin "ValueError.__new__")), (some (.bool true))]⟩
def t1 (P : Params) : BT := ia (((t0 P).set 3 fun _ => o3 P).set 12 fun _ => ⟨.none, none, (.fields #[(.int (2) 0), (.int (0) 0), (.ref 20), (.int (4) 0), (.int (0) 0), (.ref 33), (.int (6) 0), (.int (0) 0), (.ref 45), (.int (8) 0), (.int (0) 0), (.ref 57), (.int (10) 0), (.int (0) 0), (.ref 69), (.int (12) 0), (.int (0) 0), (.ref 81), (.int (14) 0), (.int (0) 0), (.ref 93)]), #[]⟩) 15 [⟨(.type "tuple"), none, (.seq #[(.type "ValueError")] 0), #[]⟩, ⟨(.type "builtin_function_or_method"), none, (.fields #[(.builtin "type.__prepare__"), (.type "type")]), #[]⟩, o17 P, oE, oF, o20, ⟨(.type "frame"), none, .plain, #[(some (.ref 20)), (some (.ref 3)), (some (.ref 17)), none, (some (.str "trueword.errors" 187)), none, (some (.ref 0))]⟩, oE, o23 P, o24, ⟨(.type "getset_descriptor"), none, (.fields #[(.str "__weakref__" 202), (.ref 24), (.builtin "ExceptionGroup.__weakref__"), .none]), #[]⟩, ⟨(.type "super"), none, (.fields #[(.ref 24), (.ref 24), (.ref 24)]), #[]⟩, ⟨(.type "builtin_function_or_method"), none, (.fields #[(.builtin "object.__init_subclass__"), (.ref 24)]), #[]⟩, ⟨(.type "tuple"), none, (.seq #[(.ref 24)] 0), #[]⟩, ⟨(.type "builtin_function_or_method"), none, (.fields #[(.builtin "type.__prepare__"), (.type "type")]), #[]⟩, o30 P, oE, oF, o33, ⟨(.type "frame"), none, .plain, #[(some (.ref 33)), (some (.ref 3)), (some (.ref 30)), none, (some (.str "trueword.errors" 187)), none, (some (.ref 0))]⟩, oE, o36 P, o37, ⟨(.type "super"), none, (.fields #[(.ref 37), (.ref 37), (.ref 37)]), #[]⟩, ⟨(.type "builtin_function_or_method"), none, (.fields #[(.builtin "object.__init_subclass__"), (.ref 37)]), #[]⟩, ⟨(.type "tuple"), none, (.seq #[(.ref 24)] 0), #[]⟩, ⟨(.type "builtin_function_or_method"), none, (.fields #[(.builtin "type.__prepare__"), (.type "type")]), #[]⟩, o42 P, oE, oF, o45, ⟨(.type "frame"), none, .plain, #[(some (.ref 45)), (some (.ref 3)), (some (.ref 42)), none, (some (.str "trueword.errors" 187)), none, (some (.ref 0))]⟩, oE, o48 P, o49, ⟨(.type "super"), none, (.fields #[(.ref 49), (.ref 49), (.ref 49)]), #[]⟩, ⟨(.type "builtin_function_or_method"), none, (.fields #[(.builtin "object.__init_subclass__"), (.ref 49)]), #[]⟩, ⟨(.type "tuple"), none, (.seq #[(.ref 24)] 0), #[]⟩, ⟨(.type "builtin_function_or_method"), none, (.fields #[(.builtin "type.__prepare__"), (.type "type")]), #[]⟩, o54 P, oE, oF, o57, ⟨(.type "frame"), none, .plain, #[(some (.ref 57)), (some (.ref 3)), (some (.ref 54)), none, (some (.str "trueword.errors" 187)), none, (some (.ref 0))]⟩, oE, o60 P, o61, ⟨(.type "super"), none, (.fields #[(.ref 61), (.ref 61), (.ref 61)]), #[]⟩, ⟨(.type "builtin_function_or_method"), none, (.fields #[(.builtin "object.__init_subclass__"), (.ref 61)]), #[]⟩, ⟨(.type "tuple"), none, (.seq #[(.ref 24)] 0), #[]⟩, ⟨(.type "builtin_function_or_method"), none, (.fields #[(.builtin "type.__prepare__"), (.type "type")]), #[]⟩, o66 P, oE, oF, o69, ⟨(.type "frame"), none, .plain, #[(some (.ref 69)), (some (.ref 3)), (some (.ref 66)), none, (some (.str "trueword.errors" 187)), none, (some (.ref 0))]⟩, oE, o72 P, o73, ⟨(.type "super"), none, (.fields #[(.ref 73), (.ref 73), (.ref 73)]), #[]⟩, ⟨(.type "builtin_function_or_method"), none, (.fields #[(.builtin "object.__init_subclass__"), (.ref 73)]), #[]⟩, ⟨(.type "tuple"), none, (.seq #[(.ref 24)] 0), #[]⟩, ⟨(.type "builtin_function_or_method"), none, (.fields #[(.builtin "type.__prepare__"), (.type "type")]), #[]⟩, o78 P, oE, oF, o81, ⟨(.type "frame"), none, .plain, #[(some (.ref 81)), (some (.ref 3)), (some (.ref 78)), none, (some (.str "trueword.errors" 187)), none, (some (.ref 0))]⟩, oE, o84 P, o85, ⟨(.type "super"), none, (.fields #[(.ref 85), (.ref 85), (.ref 85)]), #[]⟩, ⟨(.type "builtin_function_or_method"), none, (.fields #[(.builtin "object.__init_subclass__"), (.ref 85)]), #[]⟩, ⟨(.type "tuple"), none, (.seq #[(.ref 24)] 0), #[]⟩, ⟨(.type "builtin_function_or_method"), none, (.fields #[(.builtin "type.__prepare__"), (.type "type")]), #[]⟩, o90 P, oE, oF, o93, ⟨(.type "frame"), none, .plain, #[(some (.ref 93)), (some (.ref 3)), (some (.ref 90)), none, (some (.str "trueword.errors" 187)), none, (some (.ref 0))]⟩, oE, o96 P, o97, ⟨(.type "super"), none, (.fields #[(.ref 97), (.ref 97), (.ref 97)]), #[]⟩, ⟨(.type "builtin_function_or_method"), none, (.fields #[(.builtin "object.__init_subclass__"), (.ref 97)]), #[]⟩]
def o3_1 (P : Params) : Obj := ⟨(.type "dict"), none, (.dict #[en P "__name__" 165 (.str "trueword.rings" 621), en P "__doc__" 166 .none, en P "__package__" 167 .none, en P "__loader__" 168 (.builtin "__main__.__loader__#opaque"), en P "__spec__" 169 .none, en P "__annotations__" 170 (.ref 6), en P "__builtins__" 171 (.ref 4), en P "__file__" 173 (.str "/claim/cut.py" 172), en P "__cached__" 174 .none, en P "TrueError" 206 (.ref 24), en P "NoPays" 222 (.ref 37), en P "NoHouse" 238 (.ref 49), en P "NoWeight" 254 (.ref 61), en P "NoRule" 270 (.ref 73), en P "NoRow" 286 (.ref 85), en P "NoStand" 302 (.ref 97), en P "NoWord" 318 (.ref 109), en P "MOST_WORDS" 322 (.int (8) 321), en P "is_whole" 329 (.ref 118), en P "is_bounded" 336 (.ref 125), en P "is_grid_row" 342 (.ref 130), en P "turn" 351 (.ref 137), en P "gain" 361 (.ref 144), en P "first_gain" 372 (.ref 151), en P "MOST_LETTERS" 376 (.int (8) 375), en P "MOST_OUTCOMES" 378 (.int (8) 377), en P "MOST_HANDS" 380 (.int (4) 379), en P "MOST_ROWS" 382 (.int (256) 381), en P "is_name" 388 (.ref 156), en P "are_names" 394 (.ref 161), en P "are_worths" 400 (.ref 166), en P "is_hand" 408 (.ref 173), en P "name_of" 415 (.ref 180), en P "names_of" 421 (.ref 185), en P "words_of_hand" 428 (.ref 192), en P "worths_of_hand" 435 (.ref 199), en P "worths_by" 443 (.ref 206), en P "count_of_rows" 452 (.ref 213), en P "makes_house" 458 (.ref 218), en P "kept_hand" 464 (.ref 223), en P "house_of" 470 (.ref 228), en P "outcomes_of" 477 (.ref 235), en P "hands_of" 484 (.ref 242), en P "with_each" 490 (.ref 247), en P "rows_over" 499 (.ref 254), en P "rows_of" 506 (.ref 261), en P "without" 514 (.ref 268), en P "others_of" 522 (.ref 275), en P "row_with" 531 (.ref 282), en P "are_weights" 539 (.ref 287), en P "are_handicaps" 547 (.ref 294), en P "refuse_weights" 556 (.ref 301), en P "part_of" 562 (.ref 306), en P "parts_of" 568 (.ref 311), en P "scores" 574 (.ref 316), en P "best_place" 581 (.ref 323), en P "best_outcome" 591 (.ref 330), en P "best_table" 597 (.ref 335), en P "holds" 608 (.ref 342), en P "dealt" 614 (.ref 347), en P "table_of" 620 (.ref 352), en P "total_of" 629 (.ref 359), en P "words_of" 636 (.ref 366), en P "walks_of_one_turn" 642 (.ref 371)] 64), #[]⟩
def o24_1 : Obj := ⟨(.type "type"), none, (.cls ⟨"TrueError", [(.type "ValueError")], [(.ref 24), (.type "ValueError"), (.type "Exception"), (.type "BaseException"), (.type "object")], 23, "TrueError", true, [], [(.ref 37), (.ref 49), (.ref 61), (.ref 73), (.ref 85), (.ref 97), (.ref 109)], false, none, false⟩), #[(some (.ref 15)), none, (some (.str "TrueError" 189)), (some (.str "TrueError" 197)), (some (.builtin "ValueError.__new__")), (some (.bool true))]⟩
def o102 (P : Params) : Obj := ⟨(.type "dict"), none, (.dict #[en P "__module__" 310 (.str "trueword.errors" 187), en P "__qualname__" 312 (.str "NoWord" 311), en P "__firstlineno__" 314 (.int (16) 313), en P "__static_attributes__" 315 (.ref 107)] 4), #[]⟩
def o105 : Obj := (co "NoWord" 305 16 0 0 103 false 104 .none .none .none .none 308)
def o108 (P : Params) : Obj := ⟨(.type "dict"), none, (.dict #[en P "__module__" 310 (.str "trueword.errors" 187), en P "__firstlineno__" 314 (.int (16) 313), en P "__static_attributes__" 315 (.ref 107), en P "__doc__" 316 .none] 2), #[]⟩
def o109 : Obj := ⟨(.type "type"), none, (.cls ⟨"NoWord", [(.ref 24)], [(.ref 109), (.ref 24), (.type "ValueError"), (.type "Exception"), (.type "BaseException"), (.type "object")], 108, "NoWord", true, [], [], false, none, false⟩), #[(some (.ref 100)), none, (some (.str "NoWord" 303)), (some (.str "NoWord" 311)), (some (.builtin "ValueError.__new__")), (some (.bool true))]⟩
def o117 : Obj := (co "is_whole" 323 20 1 3 112 true 113 .none (.ref 114) (.ref 115) (.ref 116) 327)
def o118 : Obj := (fo 11 "is_whole" "trueword.grids" 319 117)
def o124 : Obj := (co "is_bounded" 330 22 1 3 119 true 120 .none (.ref 121) (.ref 122) (.ref 123) 334)
def o125 : Obj := (fo 12 "is_bounded" "trueword.grids" 319 124)
def o129 : Obj := (co "is_grid_row" 337 24 2 3 126 true 127 .none .none .none (.ref 128) 340)
def o130 : Obj := (fo 13 "is_grid_row" "trueword.grids" 319 129)
def o136 : Obj := (co "turn" 343 28 3 3 131 true 132 .none (.ref 133) (.ref 134) (.ref 135) 349)
def o137 : Obj := (fo 14 "turn" "trueword.grids" 319 136)
def o143 : Obj := (co "gain" 352 30 4 3 138 true 139 .none (.ref 140) (.ref 141) (.ref 142) 359)
def o144 : Obj := (fo 15 "gain" "trueword.grids" 319 143)
def o150 : Obj := (co "first_gain" 362 32 2 3 145 true 146 .none (.ref 147) (.ref 148) (.ref 149) 370)
def o151 : Obj := (fo 16 "first_gain" "trueword.grids" 319 150)
def o155 : Obj := (co "is_name" 383 44 1 3 152 true 153 .none .none .none (.ref 154) 386)
def o156 : Obj := (fo 22 "is_name" "trueword.houses" 373 155)
def o160 : Obj := (co "are_names" 389 48 2 3 157 true 158 .none .none .none (.ref 159) 392)
def o161 : Obj := (fo 23 "are_names" "trueword.houses" 373 160)
def o165 : Obj := (co "are_worths" 395 52 3 3 162 true 163 .none .none .none (.ref 164) 398)
def o166 : Obj := (fo 24 "are_worths" "trueword.houses" 373 165)
def o172 : Obj := (co "is_hand" 401 56 2 3 167 true 168 .none (.ref 169) (.ref 170) (.ref 171) 406)
def o173 : Obj := (fo 25 "is_hand" "trueword.houses" 373 172)
def o179 : Obj := (co "name_of" 409 60 1 3 174 true 175 .none (.ref 176) (.ref 177) (.ref 178) 413)
def o180 : Obj := (fo 26 "name_of" "trueword.houses" 373 179)
def o184 : Obj := (co "names_of" 416 62 1 3 181 true 182 .none .none .none (.ref 183) 419)
def o185 : Obj := (fo 27 "names_of" "trueword.houses" 373 184)
def o191 : Obj := (co "words_of_hand" 422 64 1 3 186 true 187 .none (.ref 188) (.ref 189) (.ref 190) 426)
def o192 : Obj := (fo 28 "words_of_hand" "trueword.houses" 373 191)
def o198 : Obj := (co "worths_of_hand" 429 66 1 3 193 true 194 .none (.ref 195) (.ref 196) (.ref 197) 433)
def o199 : Obj := (fo 29 "worths_of_hand" "trueword.houses" 373 198)
def o205 : Obj := (co "worths_by" 436 68 2 3 200 true 201 .none (.ref 202) (.ref 203) (.ref 204) 441)
def o206 : Obj := (fo 30 "worths_by" "trueword.houses" 373 205)
def o212 : Obj := (co "count_of_rows" 444 70 1 3 207 true 208 .none (.ref 209) (.ref 210) (.ref 211) 450)
def o213 : Obj := (fo 31 "count_of_rows" "trueword.houses" 373 212)
def o217 : Obj := (co "makes_house" 453 75 2 3 214 true 215 .none .none .none (.ref 216) 456)
def o218 : Obj := (fo 32 "makes_house" "trueword.houses" 373 217)
def o222 : Obj := (co "kept_hand" 459 81 1 3 219 true 220 .none .none .none (.ref 221) 462)
def o223 : Obj := (fo 33 "kept_hand" "trueword.houses" 373 222)
def o227 : Obj := (co "house_of" 465 84 2 3 224 true 225 .none .none .none (.ref 226) 468)
def o228 : Obj := (fo 34 "house_of" "trueword.houses" 373 227)
def o234 : Obj := (co "outcomes_of" 471 88 1 3 229 true 230 .none (.ref 231) (.ref 232) (.ref 233) 475)
def o235 : Obj := (fo 35 "outcomes_of" "trueword.houses" 373 234)
def o241 : Obj := (co "hands_of" 478 90 1 3 236 true 237 .none (.ref 238) (.ref 239) (.ref 240) 482)
def o242 : Obj := (fo 36 "hands_of" "trueword.houses" 373 241)
def o246 : Obj := (co "with_each" 485 92 2 3 243 true 244 .none .none .none (.ref 245) 488)
def o247 : Obj := (fo 37 "with_each" "trueword.houses" 373 246)
def o253 : Obj := (co "rows_over" 491 97 1 3 248 true 249 .none (.ref 250) (.ref 251) (.ref 252) 497)
def o254 : Obj := (fo 38 "rows_over" "trueword.houses" 373 253)
def o260 : Obj := (co "rows_of" 500 102 1 3 255 true 256 .none (.ref 257) (.ref 258) (.ref 259) 504)
def o261 : Obj := (fo 39 "rows_of" "trueword.houses" 373 260)
def o267 : Obj := (co "without" 507 104 2 3 262 true 263 .none (.ref 264) (.ref 265) (.ref 266) 512)
def o268 : Obj := (fo 40 "without" "trueword.houses" 373 267)
def o274 : Obj := (co "others_of" 515 106 2 3 269 true 270 .none (.ref 271) (.ref 272) (.ref 273) 520)
def o275 : Obj := (fo 41 "others_of" "trueword.houses" 373 274)
def o281 : Obj := (co "row_with" 523 108 3 3 276 true 277 .none (.ref 278) (.ref 279) (.ref 280) 529)
def o282 : Obj := (fo 42 "row_with" "trueword.houses" 373 281)
def o286 : Obj := (co "are_weights" 534 111 2 3 283 true 284 .none .none .none (.ref 285) 537)
def o287 : Obj := (fo 44 "are_weights" "trueword.best" 532 286)
def o293 : Obj := (co "are_handicaps" 540 113 2 3 288 true 289 .none (.ref 290) (.ref 291) (.ref 292) 545)
def o294 : Obj := (fo 45 "are_handicaps" "trueword.best" 532 293)
def o300 : Obj := (co "refuse_weights" 548 115 3 3 295 true 296 .none (.ref 297) (.ref 298) (.ref 299) 554)
def o301 : Obj := (fo 46 "refuse_weights" "trueword.best" 532 300)
def o305 : Obj := (co "part_of" 557 120 3 3 302 true 303 .none .none .none (.ref 304) 560)
def o306 : Obj := (fo 47 "part_of" "trueword.best" 532 305)
def o310 : Obj := (co "parts_of" 563 122 3 3 307 true 308 .none .none .none (.ref 309) 566)
def o311 : Obj := (fo 48 "parts_of" "trueword.best" 532 310)
def o315 : Obj := (co "scores" 569 124 4 3 312 true 313 .none .none .none (.ref 314) 572)
def o316 : Obj := (fo 49 "scores" "trueword.best" 532 315)
def o322 : Obj := (co "best_place" 575 130 1 3 317 true 318 .none (.ref 319) (.ref 320) (.ref 321) 579)
def o323 : Obj := (fo 50 "best_place" "trueword.best" 532 322)
def o329 : Obj := (co "best_outcome" 582 132 4 3 324 true 325 .none (.ref 326) (.ref 327) (.ref 328) 589)
def o330 : Obj := (fo 51 "best_outcome" "trueword.best" 532 329)
def o334 : Obj := (co "best_table" 592 134 3 3 331 true 332 .none .none .none (.ref 333) 595)
def o335 : Obj := (fo 52 "best_table" "trueword.best" 532 334)
def o341 : Obj := (co "holds" 600 137 2 3 336 true 337 .none (.ref 338) (.ref 339) (.ref 340) 606)
def o342 : Obj := (fo 54 "holds" "trueword.clauses" 598 341)
def o346 : Obj := (co "dealt" 609 150 2 3 343 true 344 .none .none .none (.ref 345) 612)
def o347 : Obj := (fo 55 "dealt" "trueword.clauses" 598 346)
def o351 : Obj := (co "table_of" 615 152 2 3 348 true 349 .none .none .none (.ref 350) 618)
def o352 : Obj := (fo 56 "table_of" "trueword.clauses" 598 351)
def o358 : Obj := (co "total_of" 623 155 1 3 353 true 354 .none (.ref 355) (.ref 356) (.ref 357) 627)
def o359 : Obj := (fo 58 "total_of" "trueword.rings" 621 358)
def o365 : Obj := (co "words_of" 630 157 1 3 360 true 361 .none (.ref 362) (.ref 363) (.ref 364) 634)
def o366 : Obj := (fo 59 "words_of" "trueword.rings" 621 365)
def o370 : Obj := (co "walks_of_one_turn" 637 159 2 3 367 true 368 .none .none .none (.ref 369) 640)
def o371 : Obj := (fo 60 "walks_of_one_turn" "trueword.rings" 621 370)
def t2 (P : Params) : BT := ia ((((t1 P).set 3 fun _ => o3_1 P).set 12 fun _ => ⟨.none, none, (.fields #[(.int (2) 0), (.int (0) 0), (.ref 20), (.int (4) 0), (.int (0) 0), (.ref 33), (.int (6) 0), (.int (0) 0), (.ref 45), (.int (8) 0), (.int (0) 0), (.ref 57), (.int (10) 0), (.int (0) 0), (.ref 69), (.int (12) 0), (.int (0) 0), (.ref 81), (.int (14) 0), (.int (0) 0), (.ref 93), (.int (16) 0), (.int (0) 0), (.ref 105), (.int (20) 0), (.int (0) 0), (.ref 117), (.int (22) 0), (.int (0) 0), (.ref 124), (.int (24) 0), (.int (0) 0), (.ref 129), (.int (28) 0), (.int (0) 0), (.ref 136), (.int (30) 0), (.int (0) 0), (.ref 143), (.int (32) 0), (.int (0) 0), (.ref 150), (.int (44) 0), (.int (0) 0), (.ref 155), (.int (48) 0), (.int (0) 0), (.ref 160), (.int (52) 0), (.int (0) 0), (.ref 165), (.int (56) 0), (.int (0) 0), (.ref 172), (.int (60) 0), (.int (0) 0), (.ref 179), (.int (62) 0), (.int (0) 0), (.ref 184), (.int (64) 0), (.int (0) 0), (.ref 191), (.int (66) 0), (.int (0) 0), (.ref 198), (.int (68) 0), (.int (0) 0), (.ref 205), (.int (70) 0), (.int (0) 0), (.ref 212), (.int (75) 0), (.int (0) 0), (.ref 217), (.int (81) 0), (.int (0) 0), (.ref 222), (.int (84) 0), (.int (0) 0), (.ref 227), (.int (88) 0), (.int (0) 0), (.ref 234), (.int (90) 0), (.int (0) 0), (.ref 241), (.int (92) 0), (.int (0) 0), (.ref 246), (.int (97) 0), (.int (0) 0), (.ref 253), (.int (102) 0), (.int (0) 0), (.ref 260), (.int (104) 0), (.int (0) 0), (.ref 267), (.int (106) 0), (.int (0) 0), (.ref 274), (.int (108) 0), (.int (0) 0), (.ref 281), (.int (111) 0), (.int (0) 0), (.ref 286), (.int (113) 0), (.int (0) 0), (.ref 293), (.int (115) 0), (.int (0) 0), (.ref 300), (.int (120) 0), (.int (0) 0), (.ref 305), (.int (122) 0), (.int (0) 0), (.ref 310), (.int (124) 0), (.int (0) 0), (.ref 315), (.int (130) 0), (.int (0) 0), (.ref 322), (.int (132) 0), (.int (0) 0), (.ref 329), (.int (134) 0), (.int (0) 0), (.ref 334), (.int (137) 0), (.int (0) 0), (.ref 341), (.int (150) 0), (.int (0) 0), (.ref 346), (.int (152) 0), (.int (0) 0), (.ref 351), (.int (155) 0), (.int (0) 0), (.ref 358), (.int (157) 0), (.int (0) 0), (.ref 365), (.int (159) 0), (.int (0) 0), (.ref 370)]), #[]⟩).set 24 fun _ => o24_1) 100 [⟨(.type "tuple"), none, (.seq #[(.ref 24)] 0), #[]⟩, ⟨(.type "builtin_function_or_method"), none, (.fields #[(.builtin "type.__prepare__"), (.type "type")]), #[]⟩, o102 P, oE, oF, o105, ⟨(.type "frame"), none, .plain, #[(some (.ref 105)), (some (.ref 3)), (some (.ref 102)), none, (some (.str "trueword.errors" 187)), none, (some (.ref 0))]⟩, oE, o108 P, o109, ⟨(.type "super"), none, (.fields #[(.ref 109), (.ref 109), (.ref 109)]), #[]⟩, ⟨(.type "builtin_function_or_method"), none, (.fields #[(.builtin "object.__init_subclass__"), (.ref 109)]), #[]⟩, oE, oF, (ts 326 ["thing"]), oE, (xo 11 "is_whole"), o117, o118, oE, oF, (ts 333 ["thing"]), oE, (xo 12 "is_bounded"), o124, o125, oE, oF, (xo 13 "is_grid_row"), o129, o130, oE, oF, (ts 346 ["grid", "s", "t"]), oE, (xo 14 "turn"), o136, o137, oE, oF, (ts 355 ["grid", "pays", "t", "s"]), oE, (xo 15 "gain"), o143, o144, oE, oF, (ts 365 ["grid", "pays", "t", "s", "more"]), oE, (xo 16 "first_gain"), o150, o151, oE, oF, (xo 22 "is_name"), o155, o156, oE, oF, (xo 23 "are_names"), o160, o161, oE, oF, (xo 24 "are_worths"), o165, o166, oE, oF, (ts 404 ["thing", "width"]), oE, (xo 25 "is_hand"), o172, o173, oE, oF, (ts 412 ["hand"]), oE, (xo 26 "name_of"), o179, o180, oE, oF, (xo 27 "names_of"), o184, o185, oE, oF, (ts 425 ["hand"]), oE, (xo 28 "words_of_hand"), o191, o192, oE, oF, (ts 432 ["hand"]), oE, (xo 29 "worths_of_hand"), o198, o199, oE, oF, (ts 439 ["hand", "word"]), oE, (xo 30 "worths_by"), o205, o206, oE, oF, (ts 447 ["hands", "count", "hand"]), oE, (xo 31 "count_of_rows"), o212, o213, oE, oF, (xo 32 "makes_house"), o217, o218, oE, oF, (xo 33 "kept_hand"), o222, o223, oE, oF, (xo 34 "house_of"), o227, o228, oE, oF, (ts 474 ["house"]), oE, (xo 35 "outcomes_of"), o234, o235, oE, oF, (ts 481 ["house"]), oE, (xo 36 "hands_of"), o241, o242, oE, oF, (xo 37 "with_each"), o246, o247, oE, oF, (ts 494 ["hands", "rows", "hand"]), oE, (xo 38 "rows_over"), o253, o254, oE, oF, (ts 503 ["house"]), oE, (xo 39 "rows_of"), o260, o261, oE, oF, (ts 510 ["things", "k"]), oE, (xo 40 "without"), o267, o268, oE, oF, (ts 518 ["house", "k"]), oE, (xo 41 "others_of"), o274, o275, oE, oF, (ts 526 ["others", "k", "word"]), oE, (xo 42 "row_with"), o281, o282, oE, oF, (xo 44 "are_weights"), o286, o287, oE, oF, (ts 543 ["house", "thing"]), oE, (xo 45 "are_handicaps"), o293, o294, oE, oF, (ts 551 ["house", "weights", "handicaps"]), oE, (xo 46 "refuse_weights"), o300, o301, oE, oF, (xo 47 "part_of"), o305, o306, oE, oF, (xo 48 "parts_of"), o310, o311, oE, oF, (xo 49 "scores"), o315, o316, oE, oF, (ts 578 ["totals"]), oE, (xo 50 "best_place"), o322, o323, oE, oF, (ts 585 ["house", "weights", "handicaps", "row"]), oE, (xo 51 "best_outcome"), o329, o330, oE, oF, (xo 52 "best_table"), o334, o335, oE, oF, (ts 603 ["condition", "row", "kind"]), oE, (xo 54 "holds"), o341, o342, oE, oF, (xo 55 "dealt"), o346, o347, oE, oF, (xo 56 "table_of"), o351, o352, oE, oF, (ts 626 ["walk"]), oE, (xo 58 "total_of"), o358, o359, oE, oF, (ts 633 ["walk"]), oE, (xo 59 "words_of"), o365, o366, oE, oF, (xo 60 "walks_of_one_turn"), o370, o371]
def o3_2 (P : Params) : Obj := ⟨(.type "dict"), none, (.dict #[en P "__name__" 165 (.str "trueword.desk" 925), en P "__doc__" 166 .none, en P "__package__" 167 .none, en P "__loader__" 168 (.builtin "__main__.__loader__#opaque"), en P "__spec__" 169 .none, en P "__annotations__" 170 (.ref 6), en P "__builtins__" 171 (.ref 4), en P "__file__" 173 (.str "/claim/cut.py" 172), en P "__cached__" 174 .none, en P "TrueError" 206 (.ref 24), en P "NoPays" 222 (.ref 37), en P "NoHouse" 238 (.ref 49), en P "NoWeight" 254 (.ref 61), en P "NoRule" 270 (.ref 73), en P "NoRow" 286 (.ref 85), en P "NoStand" 302 (.ref 97), en P "NoWord" 318 (.ref 109), en P "MOST_WORDS" 322 (.int (8) 321), en P "is_whole" 329 (.ref 118), en P "is_bounded" 336 (.ref 125), en P "is_grid_row" 342 (.ref 130), en P "turn" 351 (.ref 137), en P "gain" 361 (.ref 144), en P "first_gain" 372 (.ref 151), en P "MOST_LETTERS" 376 (.int (8) 375), en P "MOST_OUTCOMES" 378 (.int (8) 377), en P "MOST_HANDS" 380 (.int (4) 379), en P "MOST_ROWS" 382 (.int (256) 381), en P "is_name" 388 (.ref 156), en P "are_names" 394 (.ref 161), en P "are_worths" 400 (.ref 166), en P "is_hand" 408 (.ref 173), en P "name_of" 415 (.ref 180), en P "names_of" 421 (.ref 185), en P "words_of_hand" 428 (.ref 192), en P "worths_of_hand" 435 (.ref 199), en P "worths_by" 443 (.ref 206), en P "count_of_rows" 452 (.ref 213), en P "makes_house" 458 (.ref 218), en P "kept_hand" 464 (.ref 223), en P "house_of" 470 (.ref 228), en P "outcomes_of" 477 (.ref 235), en P "hands_of" 484 (.ref 242), en P "with_each" 490 (.ref 247), en P "rows_over" 499 (.ref 254), en P "rows_of" 506 (.ref 261), en P "without" 514 (.ref 268), en P "others_of" 522 (.ref 275), en P "row_with" 531 (.ref 282), en P "are_weights" 539 (.ref 287), en P "are_handicaps" 547 (.ref 294), en P "refuse_weights" 556 (.ref 301), en P "part_of" 562 (.ref 306), en P "parts_of" 568 (.ref 311), en P "scores" 574 (.ref 316), en P "best_place" 581 (.ref 323), en P "best_outcome" 591 (.ref 330), en P "best_table" 597 (.ref 335), en P "holds" 608 (.ref 342), en P "dealt" 614 (.ref 347), en P "table_of" 620 (.ref 352), en P "total_of" 629 (.ref 359), en P "words_of" 636 (.ref 366), en P "walks_of_one_turn" 642 (.ref 371), en P "least_to" 648 (.ref 376), en P "lengthened" 654 (.ref 381), en P "after_a_turn" 660 (.ref 386), en P "has_honest" 666 (.ref 391), en P "closed_below_zero" 675 (.ref 398), en P "ring" 681 (.ref 403), en P "refuse_ring" 690 (.ref 410), en P "lesser" 698 (.ref 417), en P "least_roads" 704 (.ref 422), en P "greatest" 712 (.ref 427), en P "dealt_places" 720 (.ref 432), en P "worths_at" 726 (.ref 437), en P "grid_of" 732 (.ref 442), en P "menu_of" 740 (.ref 447), en P "MOST_CLAUSES" 744 (.int (20) 743), en P "MOST_CLAUSE_WORDS" 746 (.int (40) 745), en P "COUNTS" 751 (.ref 448), en P "condition_of" 758 (.ref 455), en P "place_of" 765 (.ref 462), en P "word_at" 773 (.ref 469), en P "read_says" 784 (.ref 476), en P "read_count" 790 (.ref 481), en P "read_condition" 803 (.ref 488), en P "read_deal" 811 (.ref 495), en P "read_clause" 820 (.ref 502), en P "clauses_in" 826 (.ref 507), en P "read_rule" 832 (.ref 512), en P "MOST_FIGURES" 836 (.int (60) 835), en P "are_figures" 842 (.ref 517), en P "number_of" 850 (.ref 524), en P "numbers_of" 856 (.ref 529), en P "hand_from" 862 (.ref 534), en P "read_house" 868 (.ref 539), en P "read_weights" 876 (.ref 546), en P "grids_of" 884 (.ref 551), en P "paper" 894 (.ref 558), en P "verdict" 907 (.ref 565), en P "asked_of" 918 (.ref 572), en P "asked" 924 (.ref 577), en P "rule_table" 934 (.ref 584), en P "weighted_table" 943 (.ref 591), en P "row_from" 952 (.ref 598), en P "deal_told" 961 (.ref 605), en P "pays_told" 967 (.ref 610), en P "ring_told" 973 (.ref 615), en P "verdict_told" 983 (.ref 622), en P "place_of_hand" 992 (.ref 629), en P "menu_told" 998 (.ref 634)] 112), #[]⟩
def o375 : Obj := (co "least_to" 643 161 3 3 372 true 373 .none .none .none (.ref 374) 646)
def o376 : Obj := (fo 61 "least_to" "trueword.rings" 621 375)
def o380 : Obj := (co "lengthened" 649 164 2 3 377 true 378 .none .none .none (.ref 379) 652)
def o381 : Obj := (fo 62 "lengthened" "trueword.rings" 621 380)
def o385 : Obj := (co "after_a_turn" 655 166 3 3 382 true 383 .none .none .none (.ref 384) 658)
def o386 : Obj := (fo 63 "after_a_turn" "trueword.rings" 621 385)
def o390 : Obj := (co "has_honest" 661 168 1 3 387 true 388 .none .none .none (.ref 389) 664)
def o391 : Obj := (fo 64 "has_honest" "trueword.rings" 621 390)
def o397 : Obj := (co "closed_below_zero" 667 173 1 3 392 true 393 .none (.ref 394) (.ref 395) (.ref 396) 673)
def o398 : Obj := (fo 65 "closed_below_zero" "trueword.rings" 621 397)
def o402 : Obj := (co "ring" 676 178 1 3 399 true 400 .none .none .none (.ref 401) 679)
def o403 : Obj := (fo 66 "ring" "trueword.rings" 621 402)
def o409 : Obj := (co "refuse_ring" 684 189 1 3 404 true 405 .none (.ref 406) (.ref 407) (.ref 408) 688)
def o410 : Obj := (fo 68 "refuse_ring" "trueword.roads" 682 409)
def o416 : Obj := (co "lesser" 691 192 2 3 411 true 412 .none (.ref 413) (.ref 414) (.ref 415) 696)
def o417 : Obj := (fo 69 "lesser" "trueword.roads" 682 416)
def o421 : Obj := (co "least_roads" 699 194 2 3 418 true 419 .none .none .none (.ref 420) 702)
def o422 : Obj := (fo 70 "least_roads" "trueword.roads" 682 421)
def o426 : Obj := (co "greatest" 707 199 1 3 423 true 424 .none .none .none (.ref 425) 710)
def o427 : Obj := (fo 72 "greatest" "trueword.pays" 705 426)
def o431 : Obj := (co "dealt_places" 715 204 4 3 428 true 429 .none .none .none (.ref 430) 718)
def o432 : Obj := (fo 74 "dealt_places" "trueword.tables" 713 431)
def o436 : Obj := (co "worths_at" 721 207 2 3 433 true 434 .none .none .none (.ref 435) 724)
def o437 : Obj := (fo 75 "worths_at" "trueword.tables" 713 436)
def o441 : Obj := (co "grid_of" 727 209 4 3 438 true 439 .none .none .none (.ref 440) 730)
def o442 : Obj := (fo 76 "grid_of" "trueword.tables" 713 441)
def o446 : Obj := (co "menu_of" 735 213 4 3 443 true 444 .none .none .none (.ref 445) 738)
def o447 : Obj := (fo 78 "menu_of" "trueword.menus" 733 446)
def o448 : Obj := (ts 747 ["1", "2", "3", "4"])
def o454 : Obj := (co "condition_of" 752 221 1 3 449 true 450 .none (.ref 451) (.ref 452) (.ref 453) 756)
def o455 : Obj := (fo 83 "condition_of" "trueword.rules" 741 454)
def o461 : Obj := (co "place_of" 759 223 1 3 456 true 457 .none (.ref 458) (.ref 459) (.ref 460) 763)
def o462 : Obj := (fo 84 "place_of" "trueword.rules" 741 461)
def o468 : Obj := (co "word_at" 766 225 2 3 463 true 464 .none (.ref 465) (.ref 466) (.ref 467) 771)
def o469 : Obj := (fo 85 "word_at" "trueword.rules" 741 468)
def o475 : Obj := (co "read_says" 774 229 3 3 470 true 471 .none (.ref 472) (.ref 473) (.ref 474) 782)
def o476 : Obj := (fo 86 "read_says" "trueword.rules" 741 475)
def o480 : Obj := (co "read_count" 785 237 3 3 477 true 478 .none .none .none (.ref 479) 788)
def o481 : Obj := (fo 87 "read_count" "trueword.rules" 741 480)
def o487 : Obj := (co "read_condition" 791 243 3 3 482 true 483 .none (.ref 484) (.ref 485) (.ref 486) 801)
def o488 : Obj := (fo 88 "read_condition" "trueword.rules" 741 487)
def o494 : Obj := (co "read_deal" 804 257 2 3 489 true 490 .none (.ref 491) (.ref 492) (.ref 493) 809)
def o495 : Obj := (fo 89 "read_deal" "trueword.rules" 741 494)
def o501 : Obj := (co "read_clause" 812 261 2 3 496 true 497 .none (.ref 498) (.ref 499) (.ref 500) 818)
def o502 : Obj := (fo 90 "read_clause" "trueword.rules" 741 501)
def o506 : Obj := (co "clauses_in" 821 266 1 3 503 true 504 .none .none .none (.ref 505) 824)
def o507 : Obj := (fo 91 "clauses_in" "trueword.rules" 741 506)
def o511 : Obj := (co "read_rule" 827 271 2 3 508 true 509 .none .none .none (.ref 510) 830)
def o512 : Obj := (fo 92 "read_rule" "trueword.rules" 741 511)
def o516 : Obj := (co "are_figures" 837 279 1 3 513 true 514 .none .none .none (.ref 515) 840)
def o517 : Obj := (fo 95 "are_figures" "trueword.texts" 833 516)
def o523 : Obj := (co "number_of" 843 281 1 3 518 true 519 .none (.ref 520) (.ref 521) (.ref 522) 848)
def o524 : Obj := (fo 96 "number_of" "trueword.texts" 833 523)
def o528 : Obj := (co "numbers_of" 851 286 1 3 525 true 526 .none .none .none (.ref 527) 854)
def o529 : Obj := (fo 97 "numbers_of" "trueword.texts" 833 528)
def o533 : Obj := (co "hand_from" 857 288 1 3 530 true 531 .none .none .none (.ref 532) 860)
def o534 : Obj := (fo 98 "hand_from" "trueword.texts" 833 533)
def o538 : Obj := (co "read_house" 863 292 1 3 535 true 536 .none .none .none (.ref 537) 866)
def o539 : Obj := (fo 99 "read_house" "trueword.texts" 833 538)
def o545 : Obj := (co "read_weights" 869 295 1 3 540 true 541 .none (.ref 542) (.ref 543) (.ref 544) 874)
def o546 : Obj := (fo 100 "read_weights" "trueword.texts" 833 545)
def o550 : Obj := (co "grids_of" 879 301 2 3 547 true 548 .none .none .none (.ref 549) 882)
def o551 : Obj := (fo 102 "grids_of" "trueword.verdicts" 877 550)
def o557 : Obj := (co "paper" 885 306 3 3 552 true 553 .none (.ref 554) (.ref 555) (.ref 556) 892)
def o558 : Obj := (fo 103 "paper" "trueword.verdicts" 877 557)
def o564 : Obj := (co "verdict" 895 309 2 3 559 true 560 .none (.ref 561) (.ref 562) (.ref 563) 905)
def o565 : Obj := (fo 104 "verdict" "trueword.verdicts" 877 564)
def o571 : Obj := (co "asked_of" 908 317 4 3 566 true 567 .none (.ref 568) (.ref 569) (.ref 570) 916)
def o572 : Obj := (fo 105 "asked_of" "trueword.verdicts" 877 571)
def o576 : Obj := (co "asked" 919 320 3 3 573 true 574 .none .none .none (.ref 575) 922)
def o577 : Obj := (fo 106 "asked" "trueword.verdicts" 877 576)
def o583 : Obj := (co "rule_table" 927 325 2 3 578 true 579 .none (.ref 580) (.ref 581) (.ref 582) 932)
def o584 : Obj := (fo 108 "rule_table" "trueword.desk" 925 583)
def o590 : Obj := (co "weighted_table" 935 327 2 3 585 true 586 .none (.ref 587) (.ref 588) (.ref 589) 941)
def o591 : Obj := (fo 109 "weighted_table" "trueword.desk" 925 590)
def o597 : Obj := (co "row_from" 944 330 2 3 592 true 593 .none (.ref 594) (.ref 595) (.ref 596) 950)
def o598 : Obj := (fo 110 "row_from" "trueword.desk" 925 597)
def o604 : Obj := (co "deal_told" 953 335 3 3 599 true 600 .none (.ref 601) (.ref 602) (.ref 603) 959)
def o605 : Obj := (fo 111 "deal_told" "trueword.desk" 925 604)
def o609 : Obj := (co "pays_told" 962 337 3 3 606 true 607 .none .none .none (.ref 608) 965)
def o610 : Obj := (fo 112 "pays_told" "trueword.desk" 925 609)
def o614 : Obj := (co "ring_told" 968 339 3 3 611 true 612 .none .none .none (.ref 613) 971)
def o615 : Obj := (fo 113 "ring_told" "trueword.desk" 925 614)
def o621 : Obj := (co "verdict_told" 974 342 3 3 616 true 617 .none (.ref 618) (.ref 619) (.ref 620) 981)
def o622 : Obj := (fo 114 "verdict_told" "trueword.desk" 925 621)
def o628 : Obj := (co "place_of_hand" 984 347 2 3 623 true 624 .none (.ref 625) (.ref 626) (.ref 627) 990)
def o629 : Obj := (fo 115 "place_of_hand" "trueword.desk" 925 628)
def o633 : Obj := (co "menu_told" 993 352 3 3 630 true 631 .none .none .none (.ref 632) 996)
def o634 : Obj := (fo 116 "menu_told" "trueword.desk" 925 633)
def t3 (P : Params) : BT := ia (((t2 P).set 3 fun _ => o3_2 P).set 12 fun _ => ⟨.none, none, (.fields #[(.int (2) 0), (.int (0) 0), (.ref 20), (.int (4) 0), (.int (0) 0), (.ref 33), (.int (6) 0), (.int (0) 0), (.ref 45), (.int (8) 0), (.int (0) 0), (.ref 57), (.int (10) 0), (.int (0) 0), (.ref 69), (.int (12) 0), (.int (0) 0), (.ref 81), (.int (14) 0), (.int (0) 0), (.ref 93), (.int (16) 0), (.int (0) 0), (.ref 105), (.int (20) 0), (.int (0) 0), (.ref 117), (.int (22) 0), (.int (0) 0), (.ref 124), (.int (24) 0), (.int (0) 0), (.ref 129), (.int (28) 0), (.int (0) 0), (.ref 136), (.int (30) 0), (.int (0) 0), (.ref 143), (.int (32) 0), (.int (0) 0), (.ref 150), (.int (44) 0), (.int (0) 0), (.ref 155), (.int (48) 0), (.int (0) 0), (.ref 160), (.int (52) 0), (.int (0) 0), (.ref 165), (.int (56) 0), (.int (0) 0), (.ref 172), (.int (60) 0), (.int (0) 0), (.ref 179), (.int (62) 0), (.int (0) 0), (.ref 184), (.int (64) 0), (.int (0) 0), (.ref 191), (.int (66) 0), (.int (0) 0), (.ref 198), (.int (68) 0), (.int (0) 0), (.ref 205), (.int (70) 0), (.int (0) 0), (.ref 212), (.int (75) 0), (.int (0) 0), (.ref 217), (.int (81) 0), (.int (0) 0), (.ref 222), (.int (84) 0), (.int (0) 0), (.ref 227), (.int (88) 0), (.int (0) 0), (.ref 234), (.int (90) 0), (.int (0) 0), (.ref 241), (.int (92) 0), (.int (0) 0), (.ref 246), (.int (97) 0), (.int (0) 0), (.ref 253), (.int (102) 0), (.int (0) 0), (.ref 260), (.int (104) 0), (.int (0) 0), (.ref 267), (.int (106) 0), (.int (0) 0), (.ref 274), (.int (108) 0), (.int (0) 0), (.ref 281), (.int (111) 0), (.int (0) 0), (.ref 286), (.int (113) 0), (.int (0) 0), (.ref 293), (.int (115) 0), (.int (0) 0), (.ref 300), (.int (120) 0), (.int (0) 0), (.ref 305), (.int (122) 0), (.int (0) 0), (.ref 310), (.int (124) 0), (.int (0) 0), (.ref 315), (.int (130) 0), (.int (0) 0), (.ref 322), (.int (132) 0), (.int (0) 0), (.ref 329), (.int (134) 0), (.int (0) 0), (.ref 334), (.int (137) 0), (.int (0) 0), (.ref 341), (.int (150) 0), (.int (0) 0), (.ref 346), (.int (152) 0), (.int (0) 0), (.ref 351), (.int (155) 0), (.int (0) 0), (.ref 358), (.int (157) 0), (.int (0) 0), (.ref 365), (.int (159) 0), (.int (0) 0), (.ref 370), (.int (161) 0), (.int (0) 0), (.ref 375), (.int (164) 0), (.int (0) 0), (.ref 380), (.int (166) 0), (.int (0) 0), (.ref 385), (.int (168) 0), (.int (0) 0), (.ref 390), (.int (173) 0), (.int (0) 0), (.ref 397), (.int (178) 0), (.int (0) 0), (.ref 402), (.int (189) 0), (.int (0) 0), (.ref 409), (.int (192) 0), (.int (0) 0), (.ref 416), (.int (194) 0), (.int (0) 0), (.ref 421), (.int (199) 0), (.int (0) 0), (.ref 426), (.int (204) 0), (.int (0) 0), (.ref 431), (.int (207) 0), (.int (0) 0), (.ref 436), (.int (209) 0), (.int (0) 0), (.ref 441), (.int (213) 0), (.int (0) 0), (.ref 446), (.int (221) 0), (.int (0) 0), (.ref 454), (.int (223) 0), (.int (0) 0), (.ref 461), (.int (225) 0), (.int (0) 0), (.ref 468), (.int (229) 0), (.int (0) 0), (.ref 475), (.int (237) 0), (.int (0) 0), (.ref 480), (.int (243) 0), (.int (0) 0), (.ref 487), (.int (257) 0), (.int (0) 0), (.ref 494), (.int (261) 0), (.int (0) 0), (.ref 501), (.int (266) 0), (.int (0) 0), (.ref 506), (.int (271) 0), (.int (0) 0), (.ref 511), (.int (279) 0), (.int (0) 0), (.ref 516), (.int (281) 0), (.int (0) 0), (.ref 523), (.int (286) 0), (.int (0) 0), (.ref 528), (.int (288) 0), (.int (0) 0), (.ref 533), (.int (292) 0), (.int (0) 0), (.ref 538), (.int (295) 0), (.int (0) 0), (.ref 545), (.int (301) 0), (.int (0) 0), (.ref 550), (.int (306) 0), (.int (0) 0), (.ref 557), (.int (309) 0), (.int (0) 0), (.ref 564), (.int (317) 0), (.int (0) 0), (.ref 571), (.int (320) 0), (.int (0) 0), (.ref 576), (.int (325) 0), (.int (0) 0), (.ref 583), (.int (327) 0), (.int (0) 0), (.ref 590), (.int (330) 0), (.int (0) 0), (.ref 597), (.int (335) 0), (.int (0) 0), (.ref 604), (.int (337) 0), (.int (0) 0), (.ref 609), (.int (339) 0), (.int (0) 0), (.ref 614), (.int (342) 0), (.int (0) 0), (.ref 621), (.int (347) 0), (.int (0) 0), (.ref 628), (.int (352) 0), (.int (0) 0), (.ref 633)]), #[]⟩) 372 [oE, oF, (xo 61 "least_to"), o375, o376, oE, oF, (xo 62 "lengthened"), o380, o381, oE, oF, (xo 63 "after_a_turn"), o385, o386, oE, oF, (xo 64 "has_honest"), o390, o391, oE, oF, (ts 670 ["rows", "s", "walks"]), oE, (xo 65 "closed_below_zero"), o397, o398, oE, oF, (xo 66 "ring"), o402, o403, oE, oF, (ts 687 ["grid"]), oE, (xo 68 "refuse_ring"), o409, o410, oE, oF, (ts 694 ["walk", "longer"]), oE, (xo 69 "lesser"), o416, o417, oE, oF, (xo 70 "least_roads"), o421, o422, oE, oF, (xo 72 "greatest"), o426, o427, oE, oF, (xo 74 "dealt_places"), o431, o432, oE, oF, (xo 75 "worths_at"), o436, o437, oE, oF, (xo 76 "grid_of"), o441, o442, oE, oF, (xo 78 "menu_of"), o446, o447, o448, oE, oF, (ts 755 ["told"]), oE, (xo 83 "condition_of"), o454, o455, oE, oF, (ts 762 ["told"]), oE, (xo 84 "place_of"), o461, o462, oE, oF, (ts 769 ["words", "place"]), oE, (xo 85 "word_at"), o468, o469, oE, oF, (ts 777 ["house", "name", "word", "names", "k"]), oE, (xo 86 "read_says"), o475, o476, oE, oF, (xo 87 "read_count"), o480, o481, oE, oF, (ts 794 ["house", "words", "place", "kind", "told", "one", "other"]), oE, (xo 88 "read_condition"), o487, o488, oE, oF, (ts 807 ["house", "words"]), oE, (xo 89 "read_deal"), o494, o495, oE, oF, (ts 815 ["house", "words", "told"]), oE, (xo 90 "read_clause"), o501, o502, oE, oF, (xo 91 "clauses_in"), o506, o507, oE, oF, (xo 92 "read_rule"), o511, o512, oE, oF, (xo 95 "are_figures"), o516, o517, oE, oF, (ts 846 ["text", "figures"]), oE, (xo 96 "number_of"), o523, o524, oE, oF, (xo 97 "numbers_of"), o528, o529, oE, oF, (xo 98 "hand_from"), o533, o534, oE, oF, (xo 99 "read_house"), o538, o539, oE, oF, (ts 872 ["text", "parts"]), oE, (xo 100 "read_weights"), o545, o546, oE, oF, (xo 102 "grids_of"), o550, o551, oE, oF, (ts 888 ["k", "others", "grid", "told"]), oE, (xo 103 "paper"), o557, o558, oE, oF, (ts 898 ["house", "table", "papers", "k", "others", "grid", "found"]), oE, (xo 104 "verdict"), o564, o565, oE, oF, (ts 911 ["house", "table", "k", "row", "pays"]), oE, (xo 105 "asked_of"), o571, o572, oE, oF, (xo 106 "asked"), o576, o577, oE, oF, (ts 930 ["house", "rest"]), oE, (xo 108 "rule_table"), o583, o584, oE, oF, (ts 938 ["house", "rest", "told"]), oE, (xo 109 "weighted_table"), o590, o591, oE, oF, (ts 947 ["table", "rest", "row"]), oE, (xo 110 "row_from"), o597, o598, oE, oF, (ts 956 ["house", "table", "rest"]), oE, (xo 111 "deal_told"), o604, o605, oE, oF, (xo 112 "pays_told"), o609, o610, oE, oF, (xo 113 "ring_told"), o614, o615, oE, oF, (ts 977 ["house", "table", "rest", "told"]), oE, (xo 114 "verdict_told"), o621, o622, oE, oF, (ts 987 ["house", "name", "names"]), oE, (xo 115 "place_of_hand"), o628, o629, oE, oF, (xo 116 "menu_told"), o633, o634]
def o3_3 (P : Params) : Obj := ⟨(.type "dict"), none, (.dict #[en P "__name__" 165 (.str "trueword.desk" 925), en P "__doc__" 166 .none, en P "__package__" 167 .none, en P "__loader__" 168 (.builtin "__main__.__loader__#opaque"), en P "__spec__" 169 .none, en P "__annotations__" 170 (.ref 6), en P "__builtins__" 171 (.ref 4), en P "__file__" 173 (.str "/claim/cut.py" 172), en P "__cached__" 174 .none, en P "TrueError" 206 (.ref 24), en P "NoPays" 222 (.ref 37), en P "NoHouse" 238 (.ref 49), en P "NoWeight" 254 (.ref 61), en P "NoRule" 270 (.ref 73), en P "NoRow" 286 (.ref 85), en P "NoStand" 302 (.ref 97), en P "NoWord" 318 (.ref 109), en P "MOST_WORDS" 322 (.int (8) 321), en P "is_whole" 329 (.ref 118), en P "is_bounded" 336 (.ref 125), en P "is_grid_row" 342 (.ref 130), en P "turn" 351 (.ref 137), en P "gain" 361 (.ref 144), en P "first_gain" 372 (.ref 151), en P "MOST_LETTERS" 376 (.int (8) 375), en P "MOST_OUTCOMES" 378 (.int (8) 377), en P "MOST_HANDS" 380 (.int (4) 379), en P "MOST_ROWS" 382 (.int (256) 381), en P "is_name" 388 (.ref 156), en P "are_names" 394 (.ref 161), en P "are_worths" 400 (.ref 166), en P "is_hand" 408 (.ref 173), en P "name_of" 415 (.ref 180), en P "names_of" 421 (.ref 185), en P "words_of_hand" 428 (.ref 192), en P "worths_of_hand" 435 (.ref 199), en P "worths_by" 443 (.ref 206), en P "count_of_rows" 452 (.ref 213), en P "makes_house" 458 (.ref 218), en P "kept_hand" 464 (.ref 223), en P "house_of" 470 (.ref 228), en P "outcomes_of" 477 (.ref 235), en P "hands_of" 484 (.ref 242), en P "with_each" 490 (.ref 247), en P "rows_over" 499 (.ref 254), en P "rows_of" 506 (.ref 261), en P "without" 514 (.ref 268), en P "others_of" 522 (.ref 275), en P "row_with" 531 (.ref 282), en P "are_weights" 539 (.ref 287), en P "are_handicaps" 547 (.ref 294), en P "refuse_weights" 556 (.ref 301), en P "part_of" 562 (.ref 306), en P "parts_of" 568 (.ref 311), en P "scores" 574 (.ref 316), en P "best_place" 581 (.ref 323), en P "best_outcome" 591 (.ref 330), en P "best_table" 597 (.ref 335), en P "holds" 608 (.ref 342), en P "dealt" 614 (.ref 347), en P "table_of" 620 (.ref 352), en P "total_of" 629 (.ref 359), en P "words_of" 636 (.ref 366), en P "walks_of_one_turn" 642 (.ref 371), en P "least_to" 648 (.ref 376), en P "lengthened" 654 (.ref 381), en P "after_a_turn" 660 (.ref 386), en P "has_honest" 666 (.ref 391), en P "closed_below_zero" 675 (.ref 398), en P "ring" 681 (.ref 403), en P "refuse_ring" 690 (.ref 410), en P "lesser" 698 (.ref 417), en P "least_roads" 704 (.ref 422), en P "greatest" 712 (.ref 427), en P "dealt_places" 720 (.ref 432), en P "worths_at" 726 (.ref 437), en P "grid_of" 732 (.ref 442), en P "menu_of" 740 (.ref 447), en P "MOST_CLAUSES" 744 (.int (20) 743), en P "MOST_CLAUSE_WORDS" 746 (.int (40) 745), en P "COUNTS" 751 (.ref 448), en P "condition_of" 758 (.ref 455), en P "place_of" 765 (.ref 462), en P "word_at" 773 (.ref 469), en P "read_says" 784 (.ref 476), en P "read_count" 790 (.ref 481), en P "read_condition" 803 (.ref 488), en P "read_deal" 811 (.ref 495), en P "read_clause" 820 (.ref 502), en P "clauses_in" 826 (.ref 507), en P "read_rule" 832 (.ref 512), en P "MOST_FIGURES" 836 (.int (60) 835), en P "are_figures" 842 (.ref 517), en P "number_of" 850 (.ref 524), en P "numbers_of" 856 (.ref 529), en P "hand_from" 862 (.ref 534), en P "read_house" 868 (.ref 539), en P "read_weights" 876 (.ref 546), en P "grids_of" 884 (.ref 551), en P "paper" 894 (.ref 558), en P "verdict" 907 (.ref 565), en P "asked_of" 918 (.ref 572), en P "asked" 924 (.ref 577), en P "rule_table" 934 (.ref 584), en P "weighted_table" 943 (.ref 591), en P "row_from" 952 (.ref 598), en P "deal_told" 961 (.ref 605), en P "pays_told" 967 (.ref 610), en P "ring_told" 973 (.ref 615), en P "verdict_told" 983 (.ref 622), en P "place_of_hand" 992 (.ref 629), en P "menu_told" 998 (.ref 634), en P "MAKERS" 1003 (.ref 635), en P "ANSWERS" 1012 (.ref 636)] 114), #[]⟩
def o635 (P : Params) : Obj := ⟨(.type "dict"), none, (.dict #[en P "rule" 999 (.ref 584), en P "best" 1000 (.ref 591)] 2), #[]⟩
def o636 (P : Params) : Obj := ⟨(.type "dict"), none, (.dict #[en P "deal" 1004 (.ref 605), en P "pays" 1005 (.ref 610), en P "verdict" 1006 (.ref 622), en P "menu" 1007 (.ref 634)] 4), #[]⟩
def t4 (P : Params) : BT := ia ((t3 P).set 3 fun _ => o3_3 P) 635 [o635 P, o636 P]
def o3_4 (P : Params) : Obj := ⟨(.type "dict"), none, (.dict #[en P "__name__" 165 (.str "law_trueword_k73_rules_said" 1061), en P "__doc__" 166 .none, en P "__package__" 167 .none, en P "__loader__" 168 (.builtin "__main__.__loader__#opaque"), en P "__spec__" 169 .none, en P "__annotations__" 170 (.ref 6), en P "__builtins__" 171 (.ref 4), en P "__file__" 173 (.str "/claim/cut.py" 172), en P "__cached__" 174 .none, en P "TrueError" 206 (.ref 24), en P "NoPays" 222 (.ref 37), en P "NoHouse" 238 (.ref 49), en P "NoWeight" 254 (.ref 61), en P "NoRule" 270 (.ref 73), en P "NoRow" 286 (.ref 85), en P "NoStand" 302 (.ref 97), en P "NoWord" 318 (.ref 109), en P "MOST_WORDS" 322 (.int (8) 321), en P "is_whole" 329 (.ref 118), en P "is_bounded" 336 (.ref 125), en P "is_grid_row" 342 (.ref 130), en P "turn" 351 (.ref 137), en P "gain" 361 (.ref 144), en P "first_gain" 372 (.ref 151), en P "MOST_LETTERS" 376 (.int (8) 375), en P "MOST_OUTCOMES" 378 (.int (8) 377), en P "MOST_HANDS" 380 (.int (4) 379), en P "MOST_ROWS" 382 (.int (256) 381), en P "is_name" 388 (.ref 156), en P "are_names" 394 (.ref 161), en P "are_worths" 400 (.ref 166), en P "is_hand" 408 (.ref 173), en P "name_of" 415 (.ref 180), en P "names_of" 421 (.ref 185), en P "words_of_hand" 428 (.ref 192), en P "worths_of_hand" 435 (.ref 199), en P "worths_by" 443 (.ref 206), en P "count_of_rows" 452 (.ref 213), en P "makes_house" 458 (.ref 218), en P "kept_hand" 464 (.ref 223), en P "house_of" 470 (.ref 228), en P "outcomes_of" 477 (.ref 235), en P "hands_of" 484 (.ref 242), en P "with_each" 490 (.ref 247), en P "rows_over" 499 (.ref 254), en P "rows_of" 506 (.ref 261), en P "without" 514 (.ref 268), en P "others_of" 522 (.ref 275), en P "row_with" 531 (.ref 282), en P "are_weights" 539 (.ref 287), en P "are_handicaps" 547 (.ref 294), en P "refuse_weights" 556 (.ref 301), en P "part_of" 562 (.ref 306), en P "parts_of" 568 (.ref 311), en P "scores" 574 (.ref 316), en P "best_place" 581 (.ref 323), en P "best_outcome" 591 (.ref 330), en P "best_table" 597 (.ref 335), en P "holds" 608 (.ref 342), en P "dealt" 614 (.ref 347), en P "table_of" 620 (.ref 352), en P "total_of" 629 (.ref 359), en P "words_of" 636 (.ref 366), en P "walks_of_one_turn" 642 (.ref 371), en P "least_to" 648 (.ref 376), en P "lengthened" 654 (.ref 381), en P "after_a_turn" 660 (.ref 386), en P "has_honest" 666 (.ref 391), en P "closed_below_zero" 675 (.ref 398), en P "ring" 681 (.ref 403), en P "refuse_ring" 690 (.ref 410), en P "lesser" 698 (.ref 417), en P "least_roads" 704 (.ref 422), en P "greatest" 712 (.ref 427), en P "dealt_places" 720 (.ref 432), en P "worths_at" 726 (.ref 437), en P "grid_of" 732 (.ref 442), en P "menu_of" 740 (.ref 447), en P "MOST_CLAUSES" 744 (.int (20) 743), en P "MOST_CLAUSE_WORDS" 746 (.int (40) 745), en P "COUNTS" 751 (.ref 448), en P "condition_of" 758 (.ref 455), en P "place_of" 765 (.ref 462), en P "word_at" 773 (.ref 469), en P "read_says" 784 (.ref 476), en P "read_count" 790 (.ref 481), en P "read_condition" 803 (.ref 488), en P "read_deal" 811 (.ref 495), en P "read_clause" 820 (.ref 502), en P "clauses_in" 826 (.ref 507), en P "read_rule" 832 (.ref 512), en P "MOST_FIGURES" 836 (.int (60) 835), en P "are_figures" 842 (.ref 517), en P "number_of" 850 (.ref 524), en P "numbers_of" 856 (.ref 529), en P "hand_from" 862 (.ref 534), en P "read_house" 868 (.ref 539), en P "read_weights" 876 (.ref 546), en P "grids_of" 884 (.ref 551), en P "paper" 894 (.ref 558), en P "verdict" 907 (.ref 565), en P "asked_of" 918 (.ref 572), en P "asked" 924 (.ref 577), en P "rule_table" 934 (.ref 584), en P "weighted_table" 943 (.ref 591), en P "row_from" 952 (.ref 598), en P "deal_told" 961 (.ref 605), en P "pays_told" 967 (.ref 610), en P "ring_told" 973 (.ref 615), en P "verdict_told" 983 (.ref 622), en P "place_of_hand" 992 (.ref 629), en P "menu_told" 998 (.ref 634), en P "MAKERS" 1003 (.ref 635), en P "ANSWERS" 1012 (.ref 636), en P "refuse_row" 1020 (.ref 643), en P "Desk" 1060 (.ref 667), en P "_law_cell" 1070 (.ref 678), en P "_law_number" 1078 (.ref 685), en P "_law_names" 1084 (.ref 690), en P "_law_hands" 1090 (.ref 695), en P "_law_rows" 1102 (.ref 702), en P "_law_worths" 1110 (.ref 709), en P "_law_weights" 1116 (.ref 714), en P "_law_handicaps" 1122 (.ref 719), en P "_law_scores" 1136 (.ref 726), en P "_law_house_row" 1142 (.ref 731), en P "_law_best_row" 1148 (.ref 736), en P "_law_condition" 1160 (.ref 743), en P "_law_condition_text" 1171 (.ref 750), en P "_law_condition_holds" 1181 (.ref 757), en P "_law_clauses" 1193 (.ref 764), en P "_law_rule_row" 1199 (.ref 769), en P "_law_dealt" 1210 (.ref 776), en P "law" 1225 (.ref 783)] 134), #[]⟩
def o642 : Obj := (co "refuse_row" 1013 361 1 3 637 true 638 .none (.ref 639) (.ref 640) (.ref 641) 1018)
def o643 : Obj := (fo 119 "refuse_row" "trueword.desk" 925 642)
def o646 (P : Params) : Obj := ⟨(.type "dict"), none, (.dict #[en P "__module__" 1028 (.str "trueword.desk" 925), en P "__qualname__" 1030 (.str "Desk" 1029), en P "__firstlineno__" 1032 (.int (369) 1031), en P "__init__" 1039 (.ref 657), en P "say" 1050 (.ref 664), en P "__static_attributes__" 1053 (.ref 665)] 6), #[]⟩
def o649 : Obj := (co "Desk" 1023 369 0 0 647 false 648 .none .none .none .none 1026)
def o656 : Obj := ⟨(.type "code"), none, (.fields #[(.str "__init__" 1033), (.str "Desk.__init__" 1034), (.str "/claim/cut.py" 1035), (.int (371) 0), (.int (1) 0), (.int (0) 0), (.int (0) 0), (.int (3) 0), (.ref 651), (.bool true), (.int (181) 0), (.ref 652), .none, (.ref 653), (.ref 654), (.ref 655), (.int (1037) 0), (.int (371) 0), (.str "/claim/cut.py" 1038)]), #[]⟩
def o657 : Obj := ⟨(.type "function"), none, (.func (fn 1120 "__init__" "Desk.__init__" .none .none .none (.str "trueword.desk" 925) none (.ref 656) .none)), #[]⟩
def o663 : Obj := ⟨(.type "code"), none, (.fields #[(.str "say" 1040), (.str "Desk.say" 1041), (.str "/claim/cut.py" 1042), (.int (375) 0), (.int (2) 0), (.int (0) 0), (.int (0) 0), (.int (3) 0), (.ref 658), (.bool true), (.int (181) 0), (.ref 659), .none, (.ref 660), (.ref 661), (.ref 662), (.int (1048) 0), (.int (375) 0), (.str "/claim/cut.py" 1049)]), #[]⟩
def o664 : Obj := ⟨(.type "function"), none, (.func (fn 2120 "say" "Desk.say" .none .none .none (.str "trueword.desk" 925) none (.ref 663) .none)), #[]⟩
def o666 (P : Params) : Obj := ⟨(.type "dict"), none, (.dict #[en P "__module__" 1028 (.str "trueword.desk" 925), en P "__firstlineno__" 1032 (.int (369) 1031), en P "__init__" 1039 (.ref 657), en P "say" 1050 (.ref 664), en P "__static_attributes__" 1053 (.ref 665), en P "__dict__" 1055 (.ref 668), en P "__weakref__" 1057 (.ref 669), en P "__doc__" 1058 .none] 4), #[]⟩
def o667 : Obj := ⟨(.type "type"), none, (.cls ⟨"Desk", [(.type "object")], [(.ref 667), (.type "object")], 666, "Desk", true, [], [], false, none, false⟩), #[none, none, (some (.str "Desk" 1021)), (some (.str "Desk" 1029)), (some (.builtin "object.__new__")), (some (.bool true))]⟩
def o677 : Obj := (co "_law_cell" 1063 393 2 3 672 true 673 .none (.ref 674) (.ref 675) (.ref 676) 1068)
def o678 : Obj := (fo 122 "_law_cell" "law_trueword_k73_rules_said" 1061 677)
def o684 : Obj := (co "_law_number" 1071 397 2 3 679 true 680 .none (.ref 681) (.ref 682) (.ref 683) 1076)
def o685 : Obj := (fo 123 "_law_number" "law_trueword_k73_rules_said" 1061 684)
def o689 : Obj := (co "_law_names" 1079 405 2 3 686 true 687 .none .none .none (.ref 688) 1082)
def o690 : Obj := (fo 124 "_law_names" "law_trueword_k73_rules_said" 1061 689)
def o694 : Obj := (co "_law_hands" 1085 420 3 3 691 true 692 .none .none .none (.ref 693) 1088)
def o695 : Obj := (fo 125 "_law_hands" "law_trueword_k73_rules_said" 1061 694)
def o701 : Obj := (co "_law_rows" 1091 433 1 3 696 true 697 .none (.ref 698) (.ref 699) (.ref 700) 1100)
def o702 : Obj := (fo 126 "_law_rows" "law_trueword_k73_rules_said" 1061 701)
def o708 : Obj := (co "_law_worths" 1103 442 2 3 703 true 704 .none (.ref 705) (.ref 706) (.ref 707) 1108)
def o709 : Obj := (fo 127 "_law_worths" "law_trueword_k73_rules_said" 1061 708)
def o713 : Obj := (co "_law_weights" 1111 444 2 3 710 true 711 .none .none .none (.ref 712) 1114)
def o714 : Obj := (fo 128 "_law_weights" "law_trueword_k73_rules_said" 1061 713)
def o718 : Obj := (co "_law_handicaps" 1117 446 2 3 715 true 716 .none .none .none (.ref 717) 1120)
def o719 : Obj := (fo 129 "_law_handicaps" "law_trueword_k73_rules_said" 1061 718)
def o725 : Obj := (co "_law_scores" 1123 448 4 3 720 true 721 .none (.ref 722) (.ref 723) (.ref 724) 1134)
def o726 : Obj := (fo 130 "_law_scores" "law_trueword_k73_rules_said" 1061 725)
def o730 : Obj := (co "_law_house_row" 1137 455 2 3 727 true 728 .none .none .none (.ref 729) 1140)
def o731 : Obj := (fo 131 "_law_house_row" "law_trueword_k73_rules_said" 1061 730)
def o735 : Obj := (co "_law_best_row" 1143 463 2 3 732 true 733 .none .none .none (.ref 734) 1146)
def o736 : Obj := (fo 132 "_law_best_row" "law_trueword_k73_rules_said" 1061 735)
def o742 : Obj := (co "_law_condition" 1149 465 2 3 737 true 738 .none (.ref 739) (.ref 740) (.ref 741) 1158)
def o743 : Obj := (fo 133 "_law_condition" "law_trueword_k73_rules_said" 1061 742)
def o749 : Obj := (co "_law_condition_text" 1161 471 2 3 744 true 745 .none (.ref 746) (.ref 747) (.ref 748) 1169)
def o750 : Obj := (fo 134 "_law_condition_text" "law_trueword_k73_rules_said" 1061 749)
def o756 : Obj := (co "_law_condition_holds" 1172 476 2 3 751 true 752 .none (.ref 753) (.ref 754) (.ref 755) 1179)
def o757 : Obj := (fo 135 "_law_condition_holds" "law_trueword_k73_rules_said" 1061 756)
def o763 : Obj := (co "_law_clauses" 1182 480 3 3 758 true 759 .none (.ref 760) (.ref 761) (.ref 762) 1191)
def o764 : Obj := (fo 136 "_law_clauses" "law_trueword_k73_rules_said" 1061 763)
def o768 : Obj := (co "_law_rule_row" 1194 486 3 3 765 true 766 .none .none .none (.ref 767) 1197)
def o769 : Obj := (fo 137 "_law_rule_row" "law_trueword_k73_rules_said" 1061 768)
def o775 : Obj := (co "_law_dealt" 1200 489 3 3 770 true 771 .none (.ref 772) (.ref 773) (.ref 774) 1208)
def o776 : Obj := (fo 138 "_law_dealt" "law_trueword_k73_rules_said" 1061 775)
def o782 : Obj := (co "law" 1211 494 1 3 777 true 778 .none (.ref 779) (.ref 780) (.ref 781) 1223)
def o783 : Obj := (fo 139 "law" "law_trueword_k73_rules_said" 1061 782)
def t5 (P : Params) : BT := ia (((t4 P).set 3 fun _ => o3_4 P).set 12 fun _ => ⟨.none, none, (.fields #[(.int (2) 0), (.int (0) 0), (.ref 20), (.int (4) 0), (.int (0) 0), (.ref 33), (.int (6) 0), (.int (0) 0), (.ref 45), (.int (8) 0), (.int (0) 0), (.ref 57), (.int (10) 0), (.int (0) 0), (.ref 69), (.int (12) 0), (.int (0) 0), (.ref 81), (.int (14) 0), (.int (0) 0), (.ref 93), (.int (16) 0), (.int (0) 0), (.ref 105), (.int (20) 0), (.int (0) 0), (.ref 117), (.int (22) 0), (.int (0) 0), (.ref 124), (.int (24) 0), (.int (0) 0), (.ref 129), (.int (28) 0), (.int (0) 0), (.ref 136), (.int (30) 0), (.int (0) 0), (.ref 143), (.int (32) 0), (.int (0) 0), (.ref 150), (.int (44) 0), (.int (0) 0), (.ref 155), (.int (48) 0), (.int (0) 0), (.ref 160), (.int (52) 0), (.int (0) 0), (.ref 165), (.int (56) 0), (.int (0) 0), (.ref 172), (.int (60) 0), (.int (0) 0), (.ref 179), (.int (62) 0), (.int (0) 0), (.ref 184), (.int (64) 0), (.int (0) 0), (.ref 191), (.int (66) 0), (.int (0) 0), (.ref 198), (.int (68) 0), (.int (0) 0), (.ref 205), (.int (70) 0), (.int (0) 0), (.ref 212), (.int (75) 0), (.int (0) 0), (.ref 217), (.int (81) 0), (.int (0) 0), (.ref 222), (.int (84) 0), (.int (0) 0), (.ref 227), (.int (88) 0), (.int (0) 0), (.ref 234), (.int (90) 0), (.int (0) 0), (.ref 241), (.int (92) 0), (.int (0) 0), (.ref 246), (.int (97) 0), (.int (0) 0), (.ref 253), (.int (102) 0), (.int (0) 0), (.ref 260), (.int (104) 0), (.int (0) 0), (.ref 267), (.int (106) 0), (.int (0) 0), (.ref 274), (.int (108) 0), (.int (0) 0), (.ref 281), (.int (111) 0), (.int (0) 0), (.ref 286), (.int (113) 0), (.int (0) 0), (.ref 293), (.int (115) 0), (.int (0) 0), (.ref 300), (.int (120) 0), (.int (0) 0), (.ref 305), (.int (122) 0), (.int (0) 0), (.ref 310), (.int (124) 0), (.int (0) 0), (.ref 315), (.int (130) 0), (.int (0) 0), (.ref 322), (.int (132) 0), (.int (0) 0), (.ref 329), (.int (134) 0), (.int (0) 0), (.ref 334), (.int (137) 0), (.int (0) 0), (.ref 341), (.int (150) 0), (.int (0) 0), (.ref 346), (.int (152) 0), (.int (0) 0), (.ref 351), (.int (155) 0), (.int (0) 0), (.ref 358), (.int (157) 0), (.int (0) 0), (.ref 365), (.int (159) 0), (.int (0) 0), (.ref 370), (.int (161) 0), (.int (0) 0), (.ref 375), (.int (164) 0), (.int (0) 0), (.ref 380), (.int (166) 0), (.int (0) 0), (.ref 385), (.int (168) 0), (.int (0) 0), (.ref 390), (.int (173) 0), (.int (0) 0), (.ref 397), (.int (178) 0), (.int (0) 0), (.ref 402), (.int (189) 0), (.int (0) 0), (.ref 409), (.int (192) 0), (.int (0) 0), (.ref 416), (.int (194) 0), (.int (0) 0), (.ref 421), (.int (199) 0), (.int (0) 0), (.ref 426), (.int (204) 0), (.int (0) 0), (.ref 431), (.int (207) 0), (.int (0) 0), (.ref 436), (.int (209) 0), (.int (0) 0), (.ref 441), (.int (213) 0), (.int (0) 0), (.ref 446), (.int (221) 0), (.int (0) 0), (.ref 454), (.int (223) 0), (.int (0) 0), (.ref 461), (.int (225) 0), (.int (0) 0), (.ref 468), (.int (229) 0), (.int (0) 0), (.ref 475), (.int (237) 0), (.int (0) 0), (.ref 480), (.int (243) 0), (.int (0) 0), (.ref 487), (.int (257) 0), (.int (0) 0), (.ref 494), (.int (261) 0), (.int (0) 0), (.ref 501), (.int (266) 0), (.int (0) 0), (.ref 506), (.int (271) 0), (.int (0) 0), (.ref 511), (.int (279) 0), (.int (0) 0), (.ref 516), (.int (281) 0), (.int (0) 0), (.ref 523), (.int (286) 0), (.int (0) 0), (.ref 528), (.int (288) 0), (.int (0) 0), (.ref 533), (.int (292) 0), (.int (0) 0), (.ref 538), (.int (295) 0), (.int (0) 0), (.ref 545), (.int (301) 0), (.int (0) 0), (.ref 550), (.int (306) 0), (.int (0) 0), (.ref 557), (.int (309) 0), (.int (0) 0), (.ref 564), (.int (317) 0), (.int (0) 0), (.ref 571), (.int (320) 0), (.int (0) 0), (.ref 576), (.int (325) 0), (.int (0) 0), (.ref 583), (.int (327) 0), (.int (0) 0), (.ref 590), (.int (330) 0), (.int (0) 0), (.ref 597), (.int (335) 0), (.int (0) 0), (.ref 604), (.int (337) 0), (.int (0) 0), (.ref 609), (.int (339) 0), (.int (0) 0), (.ref 614), (.int (342) 0), (.int (0) 0), (.ref 621), (.int (347) 0), (.int (0) 0), (.ref 628), (.int (352) 0), (.int (0) 0), (.ref 633), (.int (361) 0), (.int (0) 0), (.ref 642), (.int (369) 0), (.int (0) 0), (.ref 649), (.int (393) 0), (.int (0) 0), (.ref 677), (.int (397) 0), (.int (0) 0), (.ref 684), (.int (405) 0), (.int (0) 0), (.ref 689), (.int (420) 0), (.int (0) 0), (.ref 694), (.int (433) 0), (.int (0) 0), (.ref 701), (.int (442) 0), (.int (0) 0), (.ref 708), (.int (444) 0), (.int (0) 0), (.ref 713), (.int (446) 0), (.int (0) 0), (.ref 718), (.int (448) 0), (.int (0) 0), (.ref 725), (.int (455) 0), (.int (0) 0), (.ref 730), (.int (463) 0), (.int (0) 0), (.ref 735), (.int (465) 0), (.int (0) 0), (.ref 742), (.int (471) 0), (.int (0) 0), (.ref 749), (.int (476) 0), (.int (0) 0), (.ref 756), (.int (480) 0), (.int (0) 0), (.ref 763), (.int (486) 0), (.int (0) 0), (.ref 768), (.int (489) 0), (.int (0) 0), (.ref 775), (.int (494) 0), (.int (0) 0), (.ref 782)]), #[]⟩) 637 [oE, oF, (ts 1016 ["row", "first"]), oE, (xo 119 "refuse_row"), o642, o643, oE, ⟨(.type "builtin_function_or_method"), none, (.fields #[(.builtin "type.__prepare__"), (.type "type")]), #[]⟩, o646 P, oE, ⟨.none, none, (.fields #[(.int (371) 0), (.int (4) 0), (.ref 656), (.int (375) 0), (.int (4) 0), (.ref 663)]), #[]⟩, o649, ⟨(.type "frame"), none, .plain, #[(some (.ref 649)), (some (.ref 3)), (some (.ref 646)), none, (some (.str "trueword.desk" 925)), none, (some (.ref 0))]⟩, oE, oF, (ts 1036 ["self"]), oE, ⟨.none, none, (.func (fx 1120 "__init__" "Desk.__init__" 0 .none .none .none .none none .none .none 0)), #[]⟩, o656, o657, oE, oF, (ts 1043 ["self", "row", "parts", "first", "rest"]), oE, ⟨.none, none, (.func (fx 2120 "say" "Desk.say" 0 .none .none .none .none none .none .none 0)), #[]⟩, o663, o664, (ts 1051 ["house", "table"]), o666 P, o667, ⟨(.type "getset_descriptor"), none, (.fields #[(.str "__dict__" 1054), (.ref 667), (.builtin "function.__dict__"), (.builtin "function.__dict__#set")]), #[]⟩, ⟨(.type "getset_descriptor"), none, (.fields #[(.str "__weakref__" 1056), (.ref 667), (.builtin "ExceptionGroup.__weakref__"), .none]), #[]⟩, ⟨(.type "super"), none, (.fields #[(.ref 667), (.ref 667), (.ref 667)]), #[]⟩, ⟨(.type "builtin_function_or_method"), none, (.fields #[(.builtin "object.__init_subclass__"), (.ref 667)]), #[]⟩, oE, oF, (ts 1066 ["script", "k"]), oE, (xo 122 "_law_cell"), o677, o678, oE, oF, (ts 1074 ["cell", "top"]), oE, (xo 123 "_law_number"), o684, o685, oE, oF, (xo 124 "_law_names"), o689, o690, oE, oF, (xo 125 "_law_hands"), o694, o695, oE, oF, (ts 1094 ["hands", "rows", "hand", "longer_ones", "row", "word"]), oE, (xo 126 "_law_rows"), o701, o702, oE, oF, (ts 1106 ["hand", "word"]), oE, (xo 127 "_law_worths"), o708, o709, oE, oF, (xo 128 "_law_weights"), o713, o714, oE, oF, (xo 129 "_law_handicaps"), o718, o719, oE, oF, (ts 1126 ["hands", "weights", "handicaps", "row", "found", "k", "worths", "j"]), oE, (xo 130 "_law_scores"), o725, o726, oE, oF, (xo 131 "_law_house_row"), o730, o731, oE, oF, (xo 132 "_law_best_row"), o735, o736, oE, oF, (ts 1152 ["cell", "hands", "k", "j", "one", "other"]), oE, (xo 133 "_law_condition"), o742, o743, oE, oF, (ts 1164 ["told", "hands", "one", "other", "some"]), oE, (xo 134 "_law_condition_text"), o749, o750, oE, oF, (ts 1175 ["told", "row", "one", "other"]), oE, (xo 135 "_law_condition_holds"), o756, o757, oE, oF, (ts 1185 ["script", "hands", "outcomes", "clauses", "k", "cell"]), oE, (xo 136 "_law_clauses"), o763, o764, oE, oF, (xo 137 "_law_rule_row"), o768, o769, oE, oF, (ts 1203 ["clauses", "row", "last", "told", "outcome"]), oE, (xo 138 "_law_dealt"), o775, o776, oE, oF, (ts 1214 ["script", "places", "hands", "outcomes", "desk", "last", "clauses", "row", "found"]), oE, (xo 139 "law"), o782, o783]
def hf (P : Params) : Heap := absHeap (t5 P) 784 (lf P)
def s0 (w : World) (os : OsState) : SharedT := ⟨t0 w.params, 15, lf w.params, Array.mk [], boot_drawn, 187, os⟩
def s1 (w : World) (os : OsState) : SharedT := ⟨t1 w.params, 100, lf w.params, Array.mk [], boot_drawn, 303, os⟩
def s2 (w : World) (os : OsState) : SharedT := ⟨t2 w.params, 372, lf w.params, Array.mk [], boot_drawn, 643, os⟩
def s3 (w : World) (os : OsState) : SharedT := ⟨t3 w.params, 635, lf w.params, Array.mk [], boot_drawn, 999, os⟩
def s4 (w : World) (os : OsState) : SharedT := ⟨t4 w.params, 637, lf w.params, Array.mk [], boot_drawn, 1013, os⟩
def s5 (w : World) (os : OsState) : SharedT := ⟨t5 w.params, 784, lf w.params, Array.mk [], boot_drawn, 1226, os⟩
def l0 : List Stmt := (pr.main.body.drop 0).take 8
def l1 : List Stmt := (pr.main.body.drop 8).take 53
def l2 : List Stmt := (pr.main.body.drop 61).take 56
def l3 : List Stmt := (pr.main.body.drop 117).take 2
def l4 : List Stmt := (pr.main.body.drop 119).take 21
theorem bs : behindTheImports pr = l0 ++ (l1 ++ (l2 ++ (l3 ++ (l4 ++ ([]))))) := by kernel_rfl
theorem r_pre (w : World) (os : OsState) : topGo treeTable pr w 11 (some (.ref 6)) 12 ⟨boot_heap w.params, Array.mk [], boot_drawn, boot_toks, os⟩ (topStub pr) = some (⟨ha w.params, Array.mk [], boot_drawn, 187, os⟩, ⟨denote treeTable cd, cd, ⟨0, 0, 0, 0⟩, [topFrame qp]⟩) := by kernel_rfl
theorem zgg (w : World) (os : OsState) : segRun treeTable pr w 11 (some (.ref 6)) 1 1 ⟨ha w.params, Array.mk [], boot_drawn, 187, os⟩ (blockOf (behindTheImports pr) env cd ⟨0, 0, 0, 0⟩ [topFrame qp]) = some (.next, (s0 w os).abs, cd, ⟨0, 0, 0, 0⟩) := by kernel_rfl
theorem r0 (w : World) (os : OsState) : segRunT treeTable pr w 11 (some (.ref 6)) 1 1474 (s0 w os) (piecesOf l0 env cd ⟨0, 0, 0, 0⟩ [topFrame qp]) = some (.next, s1 w os, cd, ⟨14, 0, 15, 8⟩) := by
  rw [PySem.W.Fast.te10110043849684766642, PySem.W.Fast.te14364793385576792824]; kernel_rfl
theorem r1 (w : World) (os : OsState) : segRunT treeTable pr w 11 (some (.ref 6)) 1 1498 (s1 w os) (piecesOf l1 env cd ⟨14, 0, 15, 8⟩ [topFrame qp]) = some (.next, s2 w os, cd, ⟨159, 0, 160, 65⟩) := by
  rw [PySem.W.Fast.te10110043849684766642, PySem.W.Fast.te14364793385576792824]; kernel_rfl
theorem r2 (w : World) (os : OsState) : segRunT treeTable pr w 11 (some (.ref 6)) 1 1365 (s2 w os) (piecesOf l2 env cd ⟨159, 0, 160, 65⟩ [topFrame qp]) = some (.next, s3 w os, cd, ⟨352, 0, 358, 106⟩) := by
  rw [PySem.W.Fast.te10110043849684766642, PySem.W.Fast.te14364793385576792824]; kernel_rfl
theorem r3 (w : World) (os : OsState) : segRunT treeTable pr w 11 (some (.ref 6)) 1 117 (s3 w os) (piecesOf l3 env cd ⟨352, 0, 358, 106⟩ [topFrame qp]) = some (.next, s4 w os, cd, ⟨360, 0, 360, 7⟩) :=
  byRow2 "special-get-raises" (P := fun w => ∀ os : OsState, segRunT treeTable pr w 11 (some (.ref 6)) 1 117 (s3 w os) (piecesOf l3 env cd ⟨352, 0, 358, 106⟩ [topFrame qp]) = some (.next, s4 w os, cd, ⟨360, 0, 360, 7⟩)) (fun w os => by
    show segRunT treeTable pr (w.withFollow "special-get-raises" false) 11 (some (.ref 6)) 1 117 (s3 (w.withFollow "special-get-raises" false) os) (piecesOf l3 env cd ⟨352, 0, 358, 106⟩ [topFrame qp]) = some (.next, s4 (w.withFollow "special-get-raises" false) os, cd, ⟨360, 0, 360, 7⟩)
    rw [PySem.W.Fast.te10110043849684766642, PySem.W.Fast.te14364793385576792824]; kernel_rfl) (fun w os => by
    show segRunT treeTable pr (w.withFollow "special-get-raises" true) 11 (some (.ref 6)) 1 117 (s3 (w.withFollow "special-get-raises" true) os) (piecesOf l3 env cd ⟨352, 0, 358, 106⟩ [topFrame qp]) = some (.next, s4 (w.withFollow "special-get-raises" true) os, cd, ⟨360, 0, 360, 7⟩)
    rw [PySem.W.Fast.te10110043849684766642, PySem.W.Fast.te14364793385576792824]; kernel_rfl) w os
theorem r4 (w : World) (os : OsState) : segRunT treeTable pr w 11 (some (.ref 6)) 1 842 (s4 w os) (piecesOf l4 env cd ⟨360, 0, 360, 7⟩ [topFrame qp]) = some (.next, s5 w os, cd, ⟨494, 0, 510, 15⟩) := by
  rw [PySem.W.Fast.te10110043849684766642, PySem.W.Fast.te14364793385576792824]; kernel_rfl
theorem r_fin (w : World) (os : OsState) : topRun treeTable pr w 11 (some (.ref 6)) 2 (s5 w os).abs ⟨doneF .next, cd, ⟨494, 0, 510, 15⟩, [topFrame qp]⟩ = some ⟨hf w.params, Array.mk [], boot_drawn, 1226, os⟩ := by kernel_rfl
theorem r_rest (w : World) (os : OsState) : topRun treeTable pr w 11 (some (.ref 6)) (1474 + (1498 + (1365 + (117 + (842 + (2)))))) (s0 w os).abs (restOf (behindTheImports pr) env cd ⟨0, 0, 0, 0⟩ [topFrame qp]) = some ⟨hf w.params, Array.mk [], boot_drawn, 1226, os⟩ := by
  have k := piece_app (segRun_of (r0 w os)) (piece_app (segRun_of (r1 w os)) (piece_app (segRun_of (r2 w os)) (piece_app (segRun_of (r3 w os)) (piece_app (segRun_of (r4 w os)) (piece_nil (r_fin w os))))));exact (congrArg (fun b => topRun treeTable pr w 11 (some (.ref 6)) (1474 + (1498 + (1365 + (117 + (842 + (2)))))) (s0 w os).abs (restOf b env cd ⟨0, 0, 0, 0⟩ [topFrame qp])) bs).trans k
theorem r_all (w : World) (os : OsState) : topRun treeTable pr w 11 (some (.ref 6)) (12 + (1 + (1474 + (1498 + (1365 + (117 + (842 + (2)))))))) ⟨boot_heap w.params, Array.mk [], boot_drawn, boot_toks, os⟩ (topStub pr) = some ⟨hf w.params, Array.mk [], boot_drawn, 1226, os⟩ := go_top (r_pre w os) (piece_block (zgg w os) (r_rest w os))
def ks : List Addr := [3, 13, 17, 20, 23, 24, 30, 33, 36, 37, 42, 45, 48, 49, 54, 57, 60, 61, 66, 69, 72, 73, 78, 81, 84, 85, 90, 93, 96, 97, 102, 105, 108, 109, 117, 118, 124, 125, 129, 130, 136, 137, 143, 144, 150, 151, 155, 156, 160, 161, 165, 166, 172, 173, 179, 180, 184, 185, 191, 192, 198, 199, 205, 206, 212, 213, 217, 218, 222, 223, 227, 228, 234, 235, 241, 242, 246, 247, 253, 254, 260, 261, 267, 268, 274, 275, 281, 282, 286, 287, 293, 294, 300, 301, 305, 306, 310, 311, 315, 316, 322, 323, 329, 330, 334, 335, 341, 342, 346, 347, 351, 352, 358, 359, 365, 366, 370, 371, 375, 376, 380, 381, 385, 386, 390, 391, 397, 398, 402, 403, 409, 410, 416, 417, 421, 422, 426, 427, 431, 432, 436, 437, 441, 442, 446, 447, 448, 454, 455, 461, 462, 468, 469, 475, 476, 480, 481, 487, 488, 494, 495, 501, 502, 506, 507, 511, 512, 516, 517, 523, 524, 528, 529, 533, 534, 538, 539, 545, 546, 550, 551, 557, 558, 564, 565, 571, 572, 576, 577, 583, 584, 590, 591, 597, 598, 604, 605, 609, 610, 614, 615, 621, 622, 628, 629, 633, 634, 635, 636, 642, 643, 646, 649, 656, 657, 663, 664, 666, 667, 677, 678, 684, 685, 689, 690, 694, 695, 701, 702, 708, 709, 713, 714, 718, 719, 725, 726, 730, 731, 735, 736, 742, 743, 749, 750, 756, 757, 763, 764, 768, 769, 775, 776, 782, 783]
def K : Params -> Frag := fun P => (nat_lit 3, o3_4 P) :: (nat_lit 13, o13) :: (nat_lit 17, o17 P) :: (nat_lit 20, o20) :: (nat_lit 23, o23 P) :: (nat_lit 24, o24_1) :: (nat_lit 30, o30 P) :: (nat_lit 33, o33) :: (nat_lit 36, o36 P) :: (nat_lit 37, o37) :: (nat_lit 42, o42 P) :: (nat_lit 45, o45) :: (nat_lit 48, o48 P) :: (nat_lit 49, o49) :: (nat_lit 54, o54 P) :: (nat_lit 57, o57) :: (nat_lit 60, o60 P) :: (nat_lit 61, o61) :: (nat_lit 66, o66 P) :: (nat_lit 69, o69) :: (nat_lit 72, o72 P) :: (nat_lit 73, o73) :: (nat_lit 78, o78 P) :: (nat_lit 81, o81) :: (nat_lit 84, o84 P) :: (nat_lit 85, o85) :: (nat_lit 90, o90 P) :: (nat_lit 93, o93) :: (nat_lit 96, o96 P) :: (nat_lit 97, o97) :: (nat_lit 102, o102 P) :: (nat_lit 105, o105) :: (nat_lit 108, o108 P) :: (nat_lit 109, o109) :: (nat_lit 117, o117) :: (nat_lit 118, o118) :: (nat_lit 124, o124) :: (nat_lit 125, o125) :: (nat_lit 129, o129) :: (nat_lit 130, o130) :: (nat_lit 136, o136) :: (nat_lit 137, o137) :: (nat_lit 143, o143) :: (nat_lit 144, o144) :: (nat_lit 150, o150) :: (nat_lit 151, o151) :: (nat_lit 155, o155) :: (nat_lit 156, o156) :: (nat_lit 160, o160) :: (nat_lit 161, o161) :: (nat_lit 165, o165) :: (nat_lit 166, o166) :: (nat_lit 172, o172) :: (nat_lit 173, o173) :: (nat_lit 179, o179) :: (nat_lit 180, o180) :: (nat_lit 184, o184) :: (nat_lit 185, o185) :: (nat_lit 191, o191) :: (nat_lit 192, o192) :: (nat_lit 198, o198) :: (nat_lit 199, o199) :: (nat_lit 205, o205) :: (nat_lit 206, o206) :: (nat_lit 212, o212) :: (nat_lit 213, o213) :: (nat_lit 217, o217) :: (nat_lit 218, o218) :: (nat_lit 222, o222) :: (nat_lit 223, o223) :: (nat_lit 227, o227) :: (nat_lit 228, o228) :: (nat_lit 234, o234) :: (nat_lit 235, o235) :: (nat_lit 241, o241) :: (nat_lit 242, o242) :: (nat_lit 246, o246) :: (nat_lit 247, o247) :: (nat_lit 253, o253) :: (nat_lit 254, o254) :: (nat_lit 260, o260) :: (nat_lit 261, o261) :: (nat_lit 267, o267) :: (nat_lit 268, o268) :: (nat_lit 274, o274) :: (nat_lit 275, o275) :: (nat_lit 281, o281) :: (nat_lit 282, o282) :: (nat_lit 286, o286) :: (nat_lit 287, o287) :: (nat_lit 293, o293) :: (nat_lit 294, o294) :: (nat_lit 300, o300) :: (nat_lit 301, o301) :: (nat_lit 305, o305) :: (nat_lit 306, o306) :: (nat_lit 310, o310) :: (nat_lit 311, o311) :: (nat_lit 315, o315) :: (nat_lit 316, o316) :: (nat_lit 322, o322) :: (nat_lit 323, o323) :: (nat_lit 329, o329) :: (nat_lit 330, o330) :: (nat_lit 334, o334) :: (nat_lit 335, o335) :: (nat_lit 341, o341) :: (nat_lit 342, o342) :: (nat_lit 346, o346) :: (nat_lit 347, o347) :: (nat_lit 351, o351) :: (nat_lit 352, o352) :: (nat_lit 358, o358) :: (nat_lit 359, o359) :: (nat_lit 365, o365) :: (nat_lit 366, o366) :: (nat_lit 370, o370) :: (nat_lit 371, o371) :: (nat_lit 375, o375) :: (nat_lit 376, o376) :: (nat_lit 380, o380) :: (nat_lit 381, o381) :: (nat_lit 385, o385) :: (nat_lit 386, o386) :: (nat_lit 390, o390) :: (nat_lit 391, o391) :: (nat_lit 397, o397) :: (nat_lit 398, o398) :: (nat_lit 402, o402) :: (nat_lit 403, o403) :: (nat_lit 409, o409) :: (nat_lit 410, o410) :: (nat_lit 416, o416) :: (nat_lit 417, o417) :: (nat_lit 421, o421) :: (nat_lit 422, o422) :: (nat_lit 426, o426) :: (nat_lit 427, o427) :: (nat_lit 431, o431) :: (nat_lit 432, o432) :: (nat_lit 436, o436) :: (nat_lit 437, o437) :: (nat_lit 441, o441) :: (nat_lit 442, o442) :: (nat_lit 446, o446) :: (nat_lit 447, o447) :: (nat_lit 448, o448) :: (nat_lit 454, o454) :: (nat_lit 455, o455) :: (nat_lit 461, o461) :: (nat_lit 462, o462) :: (nat_lit 468, o468) :: (nat_lit 469, o469) :: (nat_lit 475, o475) :: (nat_lit 476, o476) :: (nat_lit 480, o480) :: (nat_lit 481, o481) :: (nat_lit 487, o487) :: (nat_lit 488, o488) :: (nat_lit 494, o494) :: (nat_lit 495, o495) :: (nat_lit 501, o501) :: (nat_lit 502, o502) :: (nat_lit 506, o506) :: (nat_lit 507, o507) :: (nat_lit 511, o511) :: (nat_lit 512, o512) :: (nat_lit 516, o516) :: (nat_lit 517, o517) :: (nat_lit 523, o523) :: (nat_lit 524, o524) :: (nat_lit 528, o528) :: (nat_lit 529, o529) :: (nat_lit 533, o533) :: (nat_lit 534, o534) :: (nat_lit 538, o538) :: (nat_lit 539, o539) :: (nat_lit 545, o545) :: (nat_lit 546, o546) :: (nat_lit 550, o550) :: (nat_lit 551, o551) :: (nat_lit 557, o557) :: (nat_lit 558, o558) :: (nat_lit 564, o564) :: (nat_lit 565, o565) :: (nat_lit 571, o571) :: (nat_lit 572, o572) :: (nat_lit 576, o576) :: (nat_lit 577, o577) :: (nat_lit 583, o583) :: (nat_lit 584, o584) :: (nat_lit 590, o590) :: (nat_lit 591, o591) :: (nat_lit 597, o597) :: (nat_lit 598, o598) :: (nat_lit 604, o604) :: (nat_lit 605, o605) :: (nat_lit 609, o609) :: (nat_lit 610, o610) :: (nat_lit 614, o614) :: (nat_lit 615, o615) :: (nat_lit 621, o621) :: (nat_lit 622, o622) :: (nat_lit 628, o628) :: (nat_lit 629, o629) :: (nat_lit 633, o633) :: (nat_lit 634, o634) :: (nat_lit 635, o635 P) :: (nat_lit 636, o636 P) :: (nat_lit 642, o642) :: (nat_lit 643, o643) :: (nat_lit 646, o646 P) :: (nat_lit 649, o649) :: (nat_lit 656, o656) :: (nat_lit 657, o657) :: (nat_lit 663, o663) :: (nat_lit 664, o664) :: (nat_lit 666, o666 P) :: (nat_lit 667, o667) :: (nat_lit 677, o677) :: (nat_lit 678, o678) :: (nat_lit 684, o684) :: (nat_lit 685, o685) :: (nat_lit 689, o689) :: (nat_lit 690, o690) :: (nat_lit 694, o694) :: (nat_lit 695, o695) :: (nat_lit 701, o701) :: (nat_lit 702, o702) :: (nat_lit 708, o708) :: (nat_lit 709, o709) :: (nat_lit 713, o713) :: (nat_lit 714, o714) :: (nat_lit 718, o718) :: (nat_lit 719, o719) :: (nat_lit 725, o725) :: (nat_lit 726, o726) :: (nat_lit 730, o730) :: (nat_lit 731, o731) :: (nat_lit 735, o735) :: (nat_lit 736, o736) :: (nat_lit 742, o742) :: (nat_lit 743, o743) :: (nat_lit 749, o749) :: (nat_lit 750, o750) :: (nat_lit 756, o756) :: (nat_lit 757, o757) :: (nat_lit 763, o763) :: (nat_lit 764, o764) :: (nat_lit 768, o768) :: (nat_lit 769, o769) :: (nat_lit 775, o775) :: (nat_lit 776, o776) :: (nat_lit 782, o782) :: (nat_lit 783, o783) :: []
theorem ke (P : Params) : ks = (K P).map (·.1) := by kernel_rfl
def lo : List Str := pr.main.scope.names.map (·.1)
def vw : Program := { pr with main := { pr.main with body := [Mine.jp] } }
def fs (w : World) (os : OsState) : Shared := ⟨hf w.params, Array.mk [], boot_drawn, 1226, os⟩
theorem z_size (w : World) : ((boot_heap w.params).isNs mainGlobals && (Array.mk [] : Array GenState).size == 0, (boot_heap w.params).objs.size, (boot_heap w.params).nsMap mainGlobals "__annotations__") = (true, 11, (some (.ref 6))) := by kernel_rfl
theorem z_one (w : World) (os : OsState) : (staticsOk (importedModules pr.main.body) (boot_heap w.params) (hf w.params) && namesBound pr (hf w.params) && gensDone (fs w os) && laidKept (boot_heap w.params) (hf w.params)) = true := by kernel_rfl
theorem z_two (w : World) (os : OsState) : openSeen vw lo (importedModules pr.main.body) (fun _ => true) true (fs w os) = openGood vw lo := by
  rw [PySem.W.Fast.te4187177175401517315]; kernel_rfl
theorem zgq (w : World) (os : OsState) : (kHook K ks ke).obs (fs w os) = (kHook K ks ke).val w := by kernel_rfl
theorem z_open : opening pr = plainProg pr.main.scope.names := by kernel_rfl
theorem zha (s : Shared) : fenceModules? pr s = some s := by kernel_rfl
theorem left : LeftO pr vw lo (fun _ => true) (kHook K ks ke).obs (kHook K ks ke).val 1000000 :=
  LeftO.of_pieces (boot_open z_open rfl zha) z_size r_all rfl fun w => funext fun os => looks_pair (z_one w os) (looks_pair (z_two w os) (zgq w os))
end
theorem aok {a b : Bool} (h1 : a = true) (h2 : b = true) : (a && b) = true := by rw [h1, h2]; rfl
set_option maxRecDepth 100000 in
set_option maxHeartbeats 0 in
theorem ws : PySem.Challenge.rw_trueword_k73_rules_said.wellSaid = true := by
  rw [PySem.W.Fast.te9446332074065402090];unfold PySem.W.Fast.tw9446332074065402090 PySem.W.Fast.tw17960256430627541270 PySem.W.Fast.tw2436336058641802641 PySem.W.Fast.tw12908688711261696721
  repeat' (with_reducible apply aok)
  all_goals (as_aux_lemma => kernel_rfl)
end Tp
open PySem PySem.W PyProof.Rows
set_option maxRecDepth 100000 in
set_option maxHeartbeats 0 in
theorem PySem.Challenge.cw_trueword_k73_rules_said_holds : PySem.Challenge.rw_trueword_k73_rules_said.Holds := by
  refine holds_law Tp.ws fun said => ?_
  refine holds_open (q := Tp.vw) (loose := Tp.lo) (Xt := fun _ => true) (XP := fun _ _ => True) (Yf := (kHook Tp.K Tp.ks Tp.ke).obs) (Ya := (kHook Tp.K Tp.ks Tp.ke).val) (YP := (kHook Tp.K Tp.ks Tp.ke).says) (N := 1000000) Tp.left (kHook Tp.K Tp.ks Tp.ke).of (kHook Tp.K Tp.ks Tp.ke).keeps (fun _ _ => trivial) (fun _ _ _ _ _ => trivial) (by rfl) (by rfl) (by rfl) (fun _ _ => recFacts_nil rfl) (by rfl) said (by decide +kernel) ⟨rfl, rfl, rfl, rfl, rfl, by decide +kernel⟩ ?hw ?hc
  case hw => w_witness2
  k_fill
  refine L2.zfq (l := PySem.Challenge.rw_trueword_k73_rules_said) (n := 63) (k := 50) (x := "script") (CX := L2.CX0) (sp := Mine.zcv) rfl (by decide) rfl ⟨rfl, by decide, by decide⟩ (fun w h Y => PySem.W.kIn_of Y) ?F ?S ?C
  case F =>
    intro w mg fa h KX G hmg
    have N : mg "abs" = none /\ mg "all" = none /\ mg "any" = none /\ mg "bool" = none /\ mg "dict" = none /\ mg "int" = none /\ mg "isinstance" = none /\ mg "len" = none /\ mg "list" = none /\ mg "max" = none /\ mg "range" = none /\ mg "set" = none /\ mg "str" = none /\ mg "tuple" = none /\ True := by
      refine ⟨?_, ?_, ?_, ?_, ?_, ?_, ?_, ?_, ?_, ?_, ?_, ?_, ?_, ?_, trivial⟩ <;> (refine' PySem.W.mg_none_of KX G ?a; (case a => k_is))
    obtain ⟨n_abs, n_all, n_any, n_bool, n_dict, n_int, n_isinstance, n_len, n_list, n_max, n_range, n_set, n_str, n_tuple, -⟩ := N;have k0_MOST_WORDS := PySem.W.mg_of (n := "MOST_WORDS") KX G (by k_is);have k_MOST_WORDS : ∃ t, mg "MOST_WORDS" = some (Value.int 8 t) := ⟨_, k0_MOST_WORDS⟩;have k0_MOST_LETTERS := PySem.W.mg_of (n := "MOST_LETTERS") KX G (by k_is);have k_MOST_LETTERS : ∃ t, mg "MOST_LETTERS" = some (Value.int 8 t) := ⟨_, k0_MOST_LETTERS⟩;have k0_MOST_OUTCOMES := PySem.W.mg_of (n := "MOST_OUTCOMES") KX G (by k_is);have k_MOST_OUTCOMES : ∃ t, mg "MOST_OUTCOMES" = some (Value.int 8 t) := ⟨_, k0_MOST_OUTCOMES⟩;have k0_MOST_HANDS := PySem.W.mg_of (n := "MOST_HANDS") KX G (by k_is);have k_MOST_HANDS : ∃ t, mg "MOST_HANDS" = some (Value.int 4 t) := ⟨_, k0_MOST_HANDS⟩;have k0_MOST_ROWS := PySem.W.mg_of (n := "MOST_ROWS") KX G (by k_is);have k_MOST_ROWS : ∃ t, mg "MOST_ROWS" = some (Value.int 256 t) := ⟨_, k0_MOST_ROWS⟩;have k0_MOST_CLAUSES := PySem.W.mg_of (n := "MOST_CLAUSES") KX G (by k_is);have k_MOST_CLAUSES : ∃ t, mg "MOST_CLAUSES" = some (Value.int 20 t) := ⟨_, k0_MOST_CLAUSES⟩;have k0_MOST_CLAUSE_WORDS := PySem.W.mg_of (n := "MOST_CLAUSE_WORDS") KX G (by k_is);have k_MOST_CLAUSE_WORDS : ∃ t, mg "MOST_CLAUSE_WORDS" = some (Value.int 40 t) := ⟨_, k0_MOST_CLAUSE_WORDS⟩;have k0_MOST_FIGURES := PySem.W.mg_of (n := "MOST_FIGURES") KX G (by k_is);have k_MOST_FIGURES : ∃ t, mg "MOST_FIGURES" = some (Value.int 60 t) := ⟨_, k0_MOST_FIGURES⟩;have B : Mine.Bt mg := ⟨n_abs, n_all, n_any, n_bool, n_dict, n_int, n_isinstance, n_len, n_list, n_max, n_range, n_set, n_str, n_tuple, k_MOST_WORDS, k_MOST_LETTERS, k_MOST_OUTCOMES, k_MOST_HANDS, k_MOST_ROWS, k_MOST_CLAUSES, k_MOST_CLAUSE_WORDS, k_MOST_FIGURES⟩;have z_NoHouse := L2.kd (name := "NoHouse") KX G (by k_is) (by k_exc) (by k_is) (by k_is) (by k_is);have z_NoRule := L2.kd (name := "NoRule") KX G (by k_is) (by k_exc) (by k_is) (by k_is) (by k_is);have z_NoWord := L2.kd (name := "NoWord") KX G (by k_is) (by k_exc) (by k_is) (by k_is) (by k_is);have z_NoRow := L2.kd (name := "NoRow") KX G (by k_is) (by k_exc) (by k_is) (by k_is) (by k_is);have z_Desk := PySem.W.mg_of (n := "Desk") KX G (by k_is);have z_NoStand := L2.kd (name := "NoStand") KX G (by k_is) (by k_exc) (by k_is) (by k_is) (by k_is);have t_COUNTS := L2.tup_mk (name := "COUNTS") (xs := [.str (Str.ofString "1"), .str (Str.ofString "2"), .str (Str.ofString "3"), .str (Str.ofString "4")]) KX G (by k_is) (by k_is) (by decide) (.cons ⟨_, rfl⟩ (.cons ⟨_, rfl⟩ (.cons ⟨_, rfl⟩ (.cons ⟨_, rfl⟩ (.nil)))));have C := Mine.Ct.mk (mg := mg) (a := ⟨_, _, _, _, _, _⟩) (z_NoHouse.1) (z_NoHouse.2) (z_NoRule.1) (z_NoRule.2) (z_NoWord.1) (z_NoWord.2) (z_NoRow.1) (z_NoRow.2) (z_Desk) (z_NoStand.1) (z_NoStand.2) (t_COUNTS) (by k_is) (L2.zfi)
    have D : L2.zg (L2.KOf KX) mg "is_whole" Mine.pb ["thing"] /\ L2.zg (L2.KOf KX) mg "is_bounded" Mine.tm ["thing"] /\ L2.zg (L2.KOf KX) mg "is_grid_row" Mine.ub ["thing", "width"] /\ L2.zg (L2.KOf KX) mg "is_name" Mine.o9 ["thing"] /\ L2.zg (L2.KOf KX) mg "are_names" Mine.rm ["thing", "most"] /\ L2.zg (L2.KOf KX) mg "are_worths" Mine.tu ["thing", "height", "width"] /\ L2.zg (L2.KOf KX) mg "is_hand" Mine.oz ["thing", "width"] /\ L2.zg (L2.KOf KX) mg "name_of" Mine.qi ["hand"] /\ L2.zg (L2.KOf KX) mg "names_of" Mine.uq ["hands"] /\ L2.zg (L2.KOf KX) mg "words_of_hand" Mine.wf ["hand"] /\ L2.zg (L2.KOf KX) mg "worths_of_hand" Mine.wu ["hand"] /\ L2.zg (L2.KOf KX) mg "count_of_rows" Mine.va ["hands"] /\ L2.zg (L2.KOf KX) mg "makes_house" Mine.vy ["outcomes", "hands"] /\ L2.zg (L2.KOf KX) mg "kept_hand" Mine.vp ["hand"] /\ L2.zg (L2.KOf KX) mg "house_of" Mine.t9 ["outcomes", "hands"] /\ L2.zg (L2.KOf KX) mg "outcomes_of" Mine.vv ["house"] /\ L2.zg (L2.KOf KX) mg "hands_of" Mine.ph ["house"] /\ L2.zg (L2.KOf KX) mg "with_each" Mine.qc ["rows", "words"] /\ L2.zg (L2.KOf KX) mg "rows_over" Mine.rk ["hands"] /\ L2.zg (L2.KOf KX) mg "rows_of" Mine.o5 ["house"] /\ L2.zg (L2.KOf KX) mg "holds" Mine.jo ["condition", "row"] /\ L2.zg (L2.KOf KX) mg "dealt" Mine.jn ["rule", "row"] /\ L2.zg (L2.KOf KX) mg "table_of" Mine.qx ["house", "rule"] /\ L2.zg (L2.KOf KX) mg "condition_of" Mine.vj ["told"] /\ L2.zg (L2.KOf KX) mg "place_of" Mine.pj ["told"] /\ L2.zg (L2.KOf KX) mg "word_at" Mine.ox ["words", "place"] /\ L2.zg (L2.KOf KX) mg "read_says" Mine.r9 ["house", "name", "word"] /\ L2.zg (L2.KOf KX) mg "read_count" Mine.tq ["house", "figure", "word"] /\ L2.zg (L2.KOf KX) mg "read_condition" Mine.wq ["house", "words", "place"] /\ L2.zg (L2.KOf KX) mg "read_deal" Mine.rg ["house", "words"] /\ L2.zg (L2.KOf KX) mg "read_clause" Mine.v5 ["house", "words"] /\ L2.zg (L2.KOf KX) mg "clauses_in" Mine.si ["text"] /\ L2.zg (L2.KOf KX) mg "read_rule" Mine.qd ["house", "text"] /\ L2.zg (L2.KOf KX) mg "are_figures" Mine.ua ["text"] /\ L2.zg (L2.KOf KX) mg "number_of" Mine.rq ["text"] /\ L2.zg (L2.KOf KX) mg "numbers_of" Mine.sm ["words"] /\ L2.zg (L2.KOf KX) mg "hand_from" Mine.qa ["text"] /\ L2.zg (L2.KOf KX) mg "read_house" Mine.ur ["text"] /\ L2.zg (L2.KOf KX) mg "rule_table" Mine.tw ["house", "rest"] /\ L2.zg (L2.KOf KX) mg "row_from" Mine.qu ["table", "rest"] /\ L2.zg (L2.KOf KX) mg "deal_told" Mine.rh ["house", "table", "rest"] /\ L2.zg (L2.KOf KX) mg "refuse_row" Mine.sg ["row"] /\ L2.zg (L2.KOf KX) mg "_law_cell" Mine.q8 ["script", "k"] /\ L2.zg (L2.KOf KX) mg "_law_number" Mine.ux ["cell", "top"] /\ L2.zg (L2.KOf KX) mg "_law_names" Mine.zt ["cell", "many"] /\ L2.zg (L2.KOf KX) mg "_law_hands" Mine.ri ["script", "places", "top"] /\ L2.zg (L2.KOf KX) mg "_law_rows" Mine.qw ["hands"] /\ L2.zg (L2.KOf KX) mg "_law_house_row" Mine.vc ["outcomes", "hands"] /\ L2.zg (L2.KOf KX) mg "_law_condition" Mine.vb ["cell", "hands"] /\ L2.zg (L2.KOf KX) mg "_law_condition_text" Mine.xw ["told", "hands"] /\ L2.zg (L2.KOf KX) mg "_law_condition_holds" Mine.xr ["told", "row"] /\ L2.zg (L2.KOf KX) mg "_law_clauses" Mine.v0 ["script", "hands", "outcomes"] /\ L2.zg (L2.KOf KX) mg "_law_rule_row" Mine.vg ["clauses", "hands", "last"] /\ L2.zg (L2.KOf KX) mg "_law_dealt" Mine.re ["clauses", "row", "last"] /\ L2.zg (L2.KOf KX) mg "law" Mine.jp ["script"] /\ True := by
      refine ⟨?_, ?_, ?_, ?_, ?_, ?_, ?_, ?_, ?_, ?_, ?_, ?_, ?_, ?_, ?_, ?_, ?_, ?_, ?_, ?_, ?_, ?_, ?_, ?_, ?_, ?_, ?_, ?_, ?_, ?_, ?_, ?_, ?_, ?_, ?_, ?_, ?_, ?_, ?_, ?_, ?_, ?_, ?_, ?_, ?_, ?_, ?_, ?_, ?_, ?_, ?_, ?_, ?_, ?_, ?_, trivial⟩ <;> (dsimp only [L2.KOf]; refine' L2.def_mk KX G ?a ?l ?c ?k ?h; (case a => k_is); (case l => k_is); (case c => k_is); (case k => k_is); (case h => first | exact (fun _ _ _ _ _ _ us hl => match us, hl with | [_], _ => rfl) | exact (fun _ _ _ _ _ _ us hl => match us, hl with | [_, _], _ => rfl) | exact (fun _ _ _ _ _ _ us hl => match us, hl with | [_, _, _], _ => rfl)))
    obtain ⟨d_is_whole, d_is_bounded, d_is_grid_row, d_is_name, d_are_names, d_are_worths, d_is_hand, d_name_of, d_names_of, d_words_of_hand, d_worths_of_hand, d_count_of_rows, d_makes_house, d_kept_hand, d_house_of, d_outcomes_of, d_hands_of, d_with_each, d_rows_over, d_rows_of, d_holds, d_dealt, d_table_of, d_condition_of, d_place_of, d_word_at, d_read_says, d_read_count, d_read_condition, d_read_deal, d_read_clause, d_clauses_in, d_read_rule, d_are_figures, d_number_of, d_numbers_of, d_hand_from, d_read_house, d_rule_table, d_row_from, d_deal_told, d_refuse_row, d_law_cell, d_law_number, d_law_names, d_law_hands, d_law_rows, d_law_house_row, d_law_condition, d_law_condition_text, d_law_condition_holds, d_law_clauses, d_law_rule_row, d_law_dealt, d_law, -⟩ := D
    have c_Desk := L2.own_mk (name := "Desk") (C := 667) (qual := "Desk.__init__") (st := Mine.xu) (ps := ["self"]) (fs := ["house", "table"]) KX G (by k_is) (by k_is) (by k_is) (by k_is) (by k_is) (by k_is) (by k_is) (by k_is) (fun _ _ _ _ _ _ us hl => match us, hl with | [_], _ => rfl) (by k_is) (by k_is) (by k_is) (by k_is) (fun f hf => by
      simp only [ZK, Zx, or_false] at hf
      rcases hf with rfl | rfl <;> k_is)
    have m_Desk_say := L2.mt_mk KX (C := 667) (m := "say") (qual := "Desk.say") (st := Mine.qz) (ps := ["self", "row"]) (by k_is) (by k_is) (by k_is) (by k_is) (by k_is) (fun _ _ _ _ _ _ us hl => match us, hl with | [_, _], _ => rfl);have y_rule_table := PySem.W.mg_of (n := "rule_table") KX G (by k_is);have y_weighted_table := PySem.W.mg_of (n := "weighted_table") KX G (by k_is);have g_MAKERS := L2.zet (P := PySem.Challenge.pw_trueword_k73_rules_said) (w := w) (name := "MAKERS") (ks := [("rule", _, _), ("best", _, _)]) (ns := [("rule", "rule_table"), ("best", "weighted_table")]) KX G (by k_is) (by k_is) (by rfl) (by decide) rfl (by decide) (by simp only [ZM, Yq, y_rule_table, y_weighted_table]);have y_deal_told := PySem.W.mg_of (n := "deal_told") KX G (by k_is);have y_pays_told := PySem.W.mg_of (n := "pays_told") KX G (by k_is);have y_verdict_told := PySem.W.mg_of (n := "verdict_told") KX G (by k_is);have y_menu_told := PySem.W.mg_of (n := "menu_told") KX G (by k_is);have g_ANSWERS := L2.zet (P := PySem.Challenge.pw_trueword_k73_rules_said) (w := w) (name := "ANSWERS") (ks := [("deal", _, _), ("pays", _, _), ("verdict", _, _), ("menu", _, _)]) (ns := [("deal", "deal_told"), ("pays", "pays_told"), ("verdict", "verdict_told"), ("menu", "menu_told")]) KX G (by k_is) (by k_is) (by rfl) (by decide) rfl (by decide) (by simp only [ZM, Yq, y_deal_told, y_pays_told, y_verdict_told, y_menu_told]);obtain ⟨f, fd, e1, F1, b1⟩ := d_law.ex;have e2 := hmg.symm.trans e1;cases e2;refine ⟨fd, fun s u => ?_, fun base kb nb => ?_⟩
    . exact Mine.zde F1 s u
    . exact Mine.law_ok B C d_is_whole d_is_bounded d_is_grid_row d_is_name d_are_names d_are_worths d_is_hand d_name_of d_names_of d_words_of_hand d_worths_of_hand d_count_of_rows d_makes_house d_kept_hand d_house_of d_outcomes_of d_hands_of d_with_each d_rows_over d_rows_of d_holds d_dealt d_table_of d_condition_of d_place_of d_word_at d_read_says d_read_count d_read_condition d_read_deal d_read_clause d_clauses_in d_read_rule d_are_figures d_number_of d_numbers_of d_hand_from d_read_house d_rule_table d_row_from d_deal_told d_refuse_row d_law_cell d_law_number d_law_names d_law_hands d_law_rows d_law_house_row d_law_condition d_law_condition_text d_law_condition_holds d_law_clauses d_law_rule_row d_law_dealt c_Desk m_Desk_say g_MAKERS g_ANSWERS base F1
  case S => exact fun K H a ns hl hO hS => ⟨a, ns, rfl, hS, hl, fun _ => rfl⟩
  case C => exact fun _ _ _ _ z => z
#print axioms PySem.Challenge.cw_trueword_k73_rules_said_holds

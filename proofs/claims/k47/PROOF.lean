import PyProof.Rows.All
import Wide.All
import OpenK.AllK
import Wide.FinOn
import Lean
import PyProof.EqAt
import PyProof.EqKinds
import PyProof.TupleCall
import PySem.Challenge.RW_trueword_k47_no_menus
abbrev Fg := PySem.W.Frag
abbrev Za := @List.length_map
abbrev Zb := @List.getElem?_eq_getElem
abbrev Zc := @List.getElem?_eq_some_iff
abbrev Zd := @Nat.le_trans
abbrev Ze := @List.getElem?_map
abbrev Zf := @List.getElem?_append_right
abbrev Zg := @List.getElem?_append_left
abbrev Zh := @Nat.lt_of_lt_of_le
abbrev Zi := @List.mem_of_getElem?
abbrev Zj := @List.length_take
abbrev Zk := @List.getD_eq_getElem?_getD
abbrev Zl := @List.getElem_mem
abbrev Zm := @Nat.le_refl
abbrev Zn := @List.map_append
abbrev Zo := @List.length_append
abbrev Zp := @List.mem_map
abbrev Zq := @List.take_add_one
abbrev Zr := @List.size_toArray
abbrev Zs := @Nat.ne_of_lt
abbrev Zt := @List.take_length
abbrev Zu := @List.mem_append_right
abbrev Zv := @List.mem_cons_of_mem
abbrev Zw := @Int.toNat_natCast
abbrev Zx := @List.not_mem_nil
abbrev Zy := @List.getElem_of_mem
abbrev Zz := @List.idxOf_lt_length_iff
abbrev ZA := @List.mem_cons_self
abbrev ZB := @Nat.min_le_right
abbrev ZC := @List.mem_singleton
abbrev ZD := @Nat.not_lt
abbrev ZE := @Nat.zero_le
abbrev ZF := @List.lookup_cons
abbrev ZG := @List.take_of_length_le
abbrev ZH := @List.mem_append
abbrev ZI := @List.length_replicate
abbrev ZJ := @Nat.lt_irrefl
abbrev ZK := @List.mem_cons
abbrev ZL := @List.map_cons
abbrev ZM := @List.length_eraseIdx_of_lt
abbrev ZN := @List.mem_of_mem_eraseIdx
abbrev ZO := @List.nodup_cons
abbrev ZP := @List.length_cons
abbrev ZQ := @List.getElem?_eq_none
abbrev ZR := @Nat.lt_of_le_of_lt
abbrev ZS := @List.all_eq_true
abbrev ZT := @List.length_drop
abbrev ZU := @Int.emod_lt_of_pos
abbrev ZV := @List.getElem?_of_mem
abbrev ZW := @Option.map_some
abbrev ZX := @List.mem_range
abbrev ZY := @List.eraseIdx_eq_take_drop_succ
abbrev ZZ := @Int.emod_nonneg
abbrev Yb := @List.getElem?_set_self
abbrev Yc := @Option.map_eq_some_iff
abbrev Yd := @List.getElem?_eraseIdx
abbrev Ye := @List.append_nil
abbrev Yg := @List.pairwise_map
abbrev Yh := @List.length_range
abbrev Yi := @List.mem_append_left
abbrev Yj := @List.getElem?_set_ne
abbrev Yk := @List.pairwise_iff_getElem
abbrev Yl := @Nat.ne_of_gt
abbrev Ym := @List.getElem?_take_of_lt
abbrev Yn := @Int.toNat_of_nonneg
abbrev Yo := @List.length_eq_zero_iff
abbrev Yp := @List.mem_filterMap
abbrev Yq := @List.find?_cons
abbrev Yr := @List.range_succ
abbrev Ys := @Array.getElem?_toList
abbrev Yt := @Nat.lt_succ_self
abbrev Yu := @List.filterMap_cons
abbrev Yv := @List.length_nil
abbrev Yw := @List.mem_of_find?_eq_some
abbrev Yx := @Int.natCast_add
abbrev Yy := @Option.isSome_iff_exists
abbrev Yz := @List.map_map
abbrev YA := @List.eq_of_mem_replicate
abbrev YB := @List.nodup_nil
abbrev YC := @List.getElem?_replicate
abbrev YD := @List.eraseIdx_cons_succ
abbrev YE := @List.filter_cons_of_neg
abbrev YF := @List.filter_cons_of_pos
abbrev YG := @List.reverse_cons
abbrev YH := @Nat.lt_succ_of_lt
abbrev YI := @List.nodup_append
abbrev YJ := @List.any_cons
abbrev YK := @List.getElem_inj
abbrev YL := @List.filter_cons
abbrev YM := @List.any_eq_true
abbrev YN := @List.mem_flatten
abbrev YO := @List.length_singleton
abbrev YQ := @Nat.le_of_lt
abbrev YR := @List.forIn_cons
abbrev YS := @Array.length_toList
abbrev YT := @List.replicate_succ
abbrev YU := @List.map_congr_left
abbrev YV := @Nat.mul_le_mul
abbrev YW := @Nat.le_succ
abbrev YX := @List.filterMap_map
abbrev YY := @List.getElem?_drop
abbrev YZ := @List.contains_cons
abbrev Xa := @List.all_cons
abbrev Xb := @List.ext_getElem?
abbrev Xc := @List.map_nil
abbrev Xd := @Option.getD_some
abbrev Xe := @Nat.succ_le_succ
abbrev Xf := @Int.natCast_emod
abbrev Xg := @List.mem_filter
abbrev Xh := @List.of_mem_zip
abbrev Xi := @List.foldl_cons
abbrev Xj := @Int.natCast_mul
abbrev Xk := @Nat.not_lt_zero
abbrev Xl := @List.length_set
abbrev Xm := @List.find?_some
-- CHANGE: your row's module here, as the last of these rows
set_option Elab.async false
set_option maxHeartbeats 8000000
set_option linter.all false
set_option maxRecDepth 100000
namespace L2
open PySem PySem.Spec PyProof.Rows
abbrev Key := Sum Int Str
def pz : Key -> Value -> Bool
  | .inl k, v => Value.isInt k v
  | .inr x, v => Value.isStrOf x v
def keyH (w : World) : Key -> Int
  | .inl k => hashInt k
  | .inr x => hashStr w x
theorem ym : ∀ {k : Key} {v : Value}, pz k v = true -> (∃ i t, k = Sum.inl i /\ v = Value.int i t) \/ (∃ x t, k = Sum.inr x /\ v = Value.str x t)
  | .inl i, v, h => by
    obtain ⟨t, e⟩ := Value.isInt_shape (k := i) (v := v) h;exact .inl ⟨i, t, rfl, e⟩
  | .inr x, v, h => by
    obtain ⟨t, e⟩ := Value.isStrOf_shape (x := x) (v := v) h;exact .inr ⟨x, t, rfl, e⟩
theorem zfj (i : Int) (t : Tok) : pz (.inl i) (.int i t) = true := by simp [pz, Value.isInt]
theorem zdj (x : Str) (t : Tok) : pz (.inr x) (.str x t) = true := by simp [pz, Value.isStrOf]
theorem key_ll (a b : Int) : decide ((Sum.inl a : Key) = Sum.inl b) = (a == b) := by
  by_cases e : a = b
  . subst e; simp
  . have h : ¬ (Sum.inl a : Key) = Sum.inl b := fun q => e (Sum.inl.inj q)
    rw [decide_eq_false h];exact (beq_eq_false_iff_ne.mpr e).symm
theorem key_rr (a b : Str) : decide ((Sum.inr a : Key) = Sum.inr b) = decide (a = b) := by
  by_cases e : a = b
  . subst e; simp
  . have h : ¬ (Sum.inr a : Key) = Sum.inr b := fun q => e (Sum.inr.inj q)
    rw [decide_eq_false h, decide_eq_false e]
theorem key_lr (a : Int) (b : Str) : decide ((Sum.inl a : Key) = Sum.inr b) = false := decide_eq_false (fun q => nomatch q)
theorem key_rl (a : Str) (b : Int) : decide ((Sum.inr a : Key) = Sum.inl b) = false := decide_eq_false (fun q => nomatch q)
def z7 (prog : Program) (w : World) : PySem.KeyKind prog w Key where
  is := pz
  hash := keyH w
  inj := fun v a b ha hb => by
    rcases ym ha with ⟨i, t, rfl, rfl⟩ | ⟨x, t, rfl, rfl⟩
    . rcases ym hb with ⟨j, u, rfl, e⟩ | ⟨y, u, rfl, e⟩
      . injection e with e1 _; rw [e1]
      . exact nomatch e
    . rcases ym hb with ⟨j, u, rfl, e⟩ | ⟨y, u, rfl, e⟩
      . exact nomatch e
      . injection e with e1 _; rw [e1]
  byValue := fun k v h => by
    rcases ym h with ⟨i, t, rfl, rfl⟩ | ⟨x, t, rfl, rfl⟩ <;> rfl
  pyHash := fun hv h => by
    rcases ym hv with ⟨i, t, rfl, rfl⟩ | ⟨x, t, rfl, rfl⟩
    . exact wpAny_pyHash_int h
    . exact wpAny_pyHash_str h
  eqBool := fun hu hv h => by
    rcases ym hu with ⟨i, t, rfl, rfl⟩ | ⟨x, t, rfl, rfl⟩
    . rcases ym hv with ⟨j, u, rfl, rfl⟩ | ⟨y, u, rfl, rfl⟩
      . rw [key_ll] at h; exact wpAny_eqBool_int h
      . rw [key_lr] at h; exact SeqAt.EqAt.int_str i t y u _ _ _ _ h
    . rcases ym hv with ⟨j, u, rfl, rfl⟩ | ⟨y, u, rfl, rfl⟩
      . rw [key_rl] at h; exact SeqAt.EqAt.str_int x t j u _ _ _ _ h
      . rw [key_rr] at h; exact wpAny_eqBool_str h
  «strs» := fun k x t v h => by
    rcases ym h with ⟨i, u, rfl, e⟩ | ⟨y, u, rfl, e⟩
    . exact nomatch e
    . injection e with e1 _
      subst e1;cases v <;> rfl
theorem zcw (prog : Program) (w : World) (k : Key) (v : Value) : (z7 prog w).is k v = pz k v := rfl
theorem zaf (prog : Program) (w : World) (i : Int) (t : Tok) : (z7 prog w).is (.inl i) (.int i t) = true := zfj i t
theorem zat (prog : Program) (w : World) (x : Str) (t : Tok) : (z7 prog w).is (.inr x) (.str x t) = true := zdj x t
end L2
namespace L2
open PySem PySem.Spec PyProof.Rows
inductive V where
  | non | bl (b : Bool) | int (i : Int) | str (x : Str) | byt (b : Array UInt8) | flt (b : UInt64) | ref (a : Addr) | ty (n : String)
  deriving DecidableEq
def RelV : V -> Value -> Prop
  | .non, u => u = Value.none
  | .bl b, u => u = Value.bool b
  | .int i, u => ∃ t, u = Value.int i t
  | .str x, u => ∃ t, u = Value.str x t
  | .byt b, u => ∃ t, u = Value.bytes b t
  | .flt b, u => ∃ t, u = Value.float b t
  | .ref a, u => u = Value.ref a
  | .ty n, u => u = Value.type n
abbrev Vals : List V -> List Value -> Prop := Paired RelV
theorem Vals.length {xs : List V} {us : List Value} (r : Vals xs us) : xs.length = us.length := Paired.length r
theorem Vals.get : ∀ {xs : List V} {us : List Value} {i : Nat} {x : V}, Vals xs us -> xs[i]? = some x -> ∃ u, us[i]? = some u /\ RelV x u
  | _, _, _, _, .nil, e => by simp at e
  | _, _, 0, _, .cons r _, e => by simp at e; subst e; exact ⟨_, rfl, r⟩
  | _, _, i + 1, x, .cons _ t, e => by
    obtain ⟨u, h1, h2⟩ := Vals.get (i := i) (x := x) t (by simpa using e);exact ⟨u, by simpa using h1, h2⟩
theorem Vals.set {x : V} {u : Value} (r : RelV x u) : ∀ {xs : List V} {us : List Value} (i : Nat), Vals xs us -> Vals (xs.set i x) (us.set i u)
  | _, _, _, .nil => .nil
  | _, _, 0, .cons _ t => .cons r t
  | _, _, i + 1, .cons q t => .cons q (Vals.set r i t)
theorem Vals.append : ∀ {xs ys : List V} {us ws : List Value}, Vals xs us -> Vals ys ws -> Vals (xs ++ ys) (us ++ ws)
  | _, _, _, _, .nil, s => s
  | _, _, _, _, .cons r t, s => .cons r (Vals.append t s)
theorem Vals.take : ∀ {xs : List V} {us : List Value} (n : Nat), Vals xs us -> Vals (xs.take n) (us.take n)
  | _, _, 0, _ => .nil
  | _, _, _ + 1, .nil => .nil
  | _, _, n + 1, .cons r t => .cons r (Vals.take n t)
theorem Vals.drop : ∀ {xs : List V} {us : List Value} (n : Nat), Vals xs us -> Vals (xs.drop n) (us.drop n)
  | _, _, 0, r => r
  | _, _, _ + 1, .nil => .nil
  | _, _, n + 1, .cons _ t => Vals.drop n t
def RelO : Option V -> Option Value -> Prop
  | some v, some u => RelV v u
  | none, none => True
  | _, _ => False
def KV {κ : Type} : List (κ × V) -> List (κ × Value) -> Prop := Paired fun (p : κ × V) (q : κ × Value) => p.1 = q.1 /\ RelV p.2 q.2
def kV : Key -> V
  | .inl i => .int i
  | .inr x => .str x
inductive HO where
    | lst (xs : List V)
    | tup (xs : List V)
    | dK (kvs : List (Key × V)) | dT (kvs : List (List Key × V))
    | set (S : Int -> Bool) (n : Nat)
    | ins (C dx : Addr) (fs : List (Str × V))
    | own (x : Addr)
    | xd (fs : List (Str × V))
    | met (f x : Addr)
    | rng (lo hi : Int)
    | frz (o : Obj) (u : HO)
    | tbl (ps : Array Value)
    | ext (φ : Heap -> Prop)
abbrev Hp := Addr -> Option HO
def upd (H : Hp) (a : Addr) (o : HO) : Hp := fun b => if b = a then some o else H b
theorem zd {H : Hp} {a : Addr} {o : HO} : upd H a o a = some o := by unfold upd; rw [if_pos rfl]
theorem zn {H : Hp} {a b : Addr} {o : HO} (h : b ≠ a) : upd H a o b = H b := by unfold upd; rw [if_neg h]
theorem ne_of {H : Hp} {a b : Addr} {o u : HO} (h : H a = some o) (h' : H b = some u) (d : o ≠ u) : a ≠ b := by
  intro e; subst e; rw [h] at h'; exact d (Option.some.inj h')
theorem y0 {H : Hp} {a b : Addr} {o : HO} (h : H a = some o) (h' : H b = none) : a ≠ b := by
  intro e; subst e; rw [h] at h'; cases h'
def IsTupD (h : Heap) (a : Addr) (items : Array Value) : Prop := ∃ o, h.get? a = some o /\ o.cls = .type "tuple" /\ ∃ n, o.data = .seq items n /\ o.dict = none
theorem IsTupD.tup {h : Heap} {a : Addr} {items : Array Value} (q : IsTupD h a items) : IsTup h a items := by
  obtain ⟨o, e, c, n, d, _⟩ := q;exact ⟨o, e, c, n, d⟩
theorem IsTupD.new (h : Heap) (items : Array Value) : IsTupD (h.push { cls := .type "tuple", data := .seq items }) h.objs.size items := ⟨_, Heap.get?_push_size _ rfl, rfl, _, rfl, rfl⟩
section
variable (P : Program) (w : World)
def ObjOk (H : Hp) (h : Heap) (a : Addr) : HO -> Prop
  | .lst xs => xs.length <= sizeLine /\ ∃ (its : List Value) (n : Nat), Vals xs its /\ h.get? a = some { cls := .type "list", data := .seq its.toArray n }
  | .tup xs => xs.length <= sizeLine /\ ∃ its : List Value, Vals xs its /\ IsTupD h a its.toArray
  | .dK kvs => kvs.length <= sizeLine /\ (a == sysModules) = false /\ ∃ vs, KV kvs vs /\ h.DictOf (z7 P w) a vs
  | .dT kvs => kvs.length <= sizeLine /\ (a == sysModules) = false /\ ∃ xs : List (List Key × Addr × Value),
      Paired (fun (p : List Key × V) (q : List Key × Addr × Value) => p.1 = q.1 /\ H q.2.1 = some (.tup (p.1.map kV)) /\ RelV p.2 q.2.2) kvs xs /\
      ∃ o es ep, h.get? a = some o /\ o.ExactDict /\ o.data = .dict es ep /\ es.toList = xs.map (entryOfKey (tupleKind (z7 P w))) /\ (xs.map (·.1)).Nodup
  | .set S n => h.SetOf (intKind P w) a S n
  | .ins C dx fs => H dx = some (.own a) /\ fs.length <= 1000 /\ dx ≠ a /\ h.get? a = some (PySem.W.instObj C dx) /\
      ∃ mA, h.Ns1 dx mA /\ (∀ f, RelO (fs.lookup f) (mA f)) /\ PySem.Within mA (fs.map (·.1))
  | .own _ => ∃ o, h.get? a = some o
  | .xd fs => ∃ mA, h.Ns1 a mA /\ ∀ f, RelO (fs.lookup f) (mA f)
  | .rng lo hi => ∃ t u v, h.get? a = some { cls := .type "range", data := .fields #[.int lo t, .int hi u, .int 1 v] }
  | .frz o u => h.get? a = some o /\ ObjOk H h a u
  | .tbl ps => h.get? a = some { cls := .none, data := .fields ps }
  | .met f x => h.get? a = some (PySem.W.methodObj (.ref f) (.ref x))
  | .ext φ => φ h /\ (∃ o, h.get? a = some o) /\ ∀ h1 h2 : Heap, φ h1 -> (∀ o, h1.get? a = some o -> h2.get? a = some o) -> φ h2
def HOk (H : Hp) (h : Heap) : Prop := ∀ a o, H a = some o -> ObjOk P w H h a o
end
section
variable {P : Program} {w : World} {H H' : Hp} {h h' : Heap} {a : Addr} {o : HO}
theorem ObjOk.lt (x : ObjOk P w H h a o) : a < h.objs.size := by
  cases o with
  | lst xs => obtain ⟨_, _, _, _, e⟩ := x; exact Heap.lt_size e
  | tup xs => obtain ⟨_, _, _, p⟩ := x; exact p.tup.lt
  | dK kvs => obtain ⟨_, _, _, _, o, _, _, e, _⟩ := x; exact Heap.lt_size e
  | dT kvs => obtain ⟨_, _, _, _, o, _, _, e, _⟩ := x; exact Heap.lt_size e
  | set S n => obtain ⟨o, _, _, _, e, _⟩ := x; exact Heap.lt_size e
  | ins C dx fs => obtain ⟨_, _, _, e, _⟩ := x; exact Heap.lt_size e
  | own y => obtain ⟨_, e⟩ := x; exact Heap.lt_size e
  | xd fs => obtain ⟨_, ⟨_, _, _, e, _⟩, _⟩ := x; exact Heap.lt_size e
  | rng lo hi => obtain ⟨_, _, _, e⟩ := x; exact Heap.lt_size e
  | frz ob u => obtain ⟨e, _⟩ := x; exact Heap.lt_size e
  | tbl ps => exact Heap.lt_size (show h.get? a = some _ from x)
  | met f y => exact Heap.lt_size (show h.get? a = some _ from x)
  | ext φ => obtain ⟨_, ⟨_, e⟩, _⟩ := x; exact Heap.lt_size e
theorem Paired.mapP {α β : Type} {F G : α -> β -> Prop} : ∀ {l₁ : List α} {l₂ : List β}, Paired F l₁ l₂ -> (∀ a b, F a b -> G a b) -> Paired G l₁ l₂
  | _, _, .nil, _ => .nil
  | _, _, .cons r t, f => .cons (f _ _ r) (Paired.mapP t f)
theorem ObjOk.stay (x : ObjOk P w H h a o) (k : ∀ b u, (b = a \/ H b = some (.own a)) -> h.get? b = some u -> h'.get? b = some u)
    (ho : ∀ b, H b = some (.own a) -> H' b = some (.own a)) (ht : ∀ b xs, H b = some (.tup xs) -> H' b = some (.tup xs)) : ObjOk P w H' h' a o := by
  induction o with
  | lst xs => obtain ⟨z, its, n, r, e⟩ := x; exact ⟨z, its, n, r, k _ _ (.inl rfl) e⟩
  | tup xs => obtain ⟨z, its, r, ob, e, c⟩ := x; exact ⟨z, its, r, ob, k _ _ (.inl rfl) e, c⟩
  | dK kvs => obtain ⟨z, y, vs, r, ob, es, ep, e, c⟩ := x; exact ⟨z, y, vs, r, ob, es, ep, k _ _ (.inl rfl) e, c⟩
  | dT kvs =>
    obtain ⟨z, y, xs, r, ob, es, ep, e, c⟩ := x;exact ⟨z, y, xs, Paired.mapP r fun p q z => ⟨z.1, ht _ _ z.2.1, z.2.2⟩, ob, es, ep, k _ _ (.inl rfl) e, c⟩
  | set S n => obtain ⟨ob, es, ep, t, e, c⟩ := x; exact ⟨ob, es, ep, t, k _ _ (.inl rfl) e, c⟩
  | ins C dx fs =>
    obtain ⟨d, z, ne, e, mA, ⟨od, es, ep, e2, c⟩, r⟩ := x;exact ⟨ho _ d, z, ne, k _ _ (.inl rfl) e, mA, ⟨od, es, ep, k _ _ (.inr d) e2, c⟩, r⟩
  | own y => obtain ⟨ob, e⟩ := x; exact ⟨ob, k _ _ (.inl rfl) e⟩
  | xd fs => obtain ⟨mA, ⟨od, es, ep, e, c⟩, r⟩ := x; exact ⟨mA, ⟨od, es, ep, k _ _ (.inl rfl) e, c⟩, r⟩
  | rng lo hi => obtain ⟨t, u, v, e⟩ := x; exact ⟨t, u, v, k _ _ (.inl rfl) e⟩
  | frz ob u ih => obtain ⟨e, q⟩ := x; exact ⟨k _ _ (.inl rfl) e, ih q⟩
  | tbl ps =>
    have e : h.get? a = some { cls := .none, data := .fields ps } := x
    show h'.get? a = some { cls := .none, data := .fields ps }
    exact k a _ (.inl rfl) e
  | met f y =>
    have e : h.get? a = some (PySem.W.methodObj (.ref f) (.ref y)) := x
    show h'.get? a = some (PySem.W.methodObj (.ref f) (.ref y))
    exact k a _ (.inl rfl) e
  | ext φ => obtain ⟨p, ⟨o, e⟩, st⟩ := x; exact ⟨st _ _ p fun o q => k _ _ (.inl rfl) q, ⟨o, k _ _ (.inl rfl) e⟩, st⟩
theorem HOk.lt (x : HOk P w H h) (e : H a = some o) : a < h.objs.size := (x a o e).lt
theorem HOk.fresh (x : HOk P w H h) (e : h.objs.size <= a) : H a = none := by
  cases q : H a with
  | none => rfl
  | some u => exact absurd (Zh (x.lt q) e) (ZJ _)
theorem HOk.kept (x : HOk P w H h) (k : ∀ b u, h.get? b = some u -> h'.get? b = some u) : HOk P w H h' := fun a o e =>
  (x a o e).stay (fun b u _ q => k b u q) (fun _ q => q) fun _ _ q => q
theorem HOk.laid (x : HOk P w H h) (k : ∀ b u, h.get? b = some u -> h'.get? b = some u) (hp : h.objs.size <= a) (new : ObjOk P w (upd H a o) h' a o) : HOk P w (upd H a o) h' := fun b u e => by
  have hn := x.fresh hp
  by_cases hb : b = a
  . subst hb; rw [zd] at e; cases e; exact new
  . rw [zn hb] at e
    exact (x b u e).stay (fun c v _ q => k c v q) (fun c q => by rw [zn (y0 q hn)]; exact q) fun c xs q => by rw [zn (y0 q hn)]; exact q
end
def Rd (H : Hp) (a : Addr) (u : HO) : Prop := H a = some u \/ ∃ o, H a = some (.frz o u)
theorem Rd.of {H : Hp} {a : Addr} {u : HO} (h : H a = some u) : Rd H a u := .inl h
theorem Rd.ok {P : Program} {w : World} {H : Hp} {h : Heap} {a : Addr} {u : HO} (r : Rd H a u) (x : HOk P w H h) : ObjOk P w H h a u := by
  rcases r with r | ⟨o, r⟩
  . exact x a u r
  . obtain ⟨_, q⟩ := x a _ r
    exact q
def Mut : Option HO -> Prop
  | some (.lst _) => True
  | some (.dK _) => True
  | some (.dT _) => True
  | some (.set _ _) => True
  | some (.ins _ _ _) => True
  | some (.ext _) => True
  | _ => False
section
variable {P : Program} {w : World} {H : Hp} {h h' : Heap} {x e : Addr} {o' : HO}
theorem HOk.write (ok : HOk P w H h) (mu : Mut (H x)) (he : e = x \/ H e = some (.own x)) (k : ∀ b u, b ≠ e -> h.get? b = some u -> h'.get? b = some u) (heo : ∃ u, h'.get? e = some u)
    (new : ObjOk P w (upd H x o') h' x o') : HOk P w (upd H x o') h' := fun b u q => by
  have nown : ∀ c y, H c = some (.own y) -> c ≠ x := fun c y r z => by subst z; rw [r] at mu; exact mu
  have ntup : ∀ c xs, H c = some (.tup xs) -> c ≠ x := fun c xs r z => by subst z; rw [r] at mu; exact mu
  by_cases hb : b = x
  . subst hb; rw [zd] at q; cases q; exact new
  . rw [zn hb] at q
    by_cases hbe : b = e
    . have q' : H b = some (.own x) := by
        rcases he with z | z
        . exact absurd (hbe.trans z) hb
        . rw [hbe]; exact z
      rw [q] at q'; cases q';obtain ⟨v, hv⟩ := heo;exact ⟨v, by rw [hbe]; exact hv⟩
    . refine (ok b u q).stay (fun c v hc r => k c v ?_ r) (fun c r => by rw [zn (nown c b r)]; exact r) fun c xs r => by rw [zn (ntup c xs r)]; exact r
      rcases hc with rfl | hc
      . exact hbe
      . rintro rfl
        rcases he with z | z
        . exact nown c b hc z
        . rw [hc] at z; cases z; exact hb rfl
end
structure Un (fs ex : List Addr) (H H' : Hp) (h h' : Heap) : Prop where
  keep : ∀ b o, h.get? b = some o -> H b = none -> b ∉ fs -> b ∉ ex -> h'.get? b = some o
  slot : ∀ b o, h.get? b = some o -> H b = none -> b ∈ fs -> b ∉ ex -> ∃ sl, h'.get? b = some { o with slots := sl }
  free : ∀ b o, h.get? b = some o -> H b = none -> b ∉ ex -> H' b = none
  there : ∀ b o, h.get? b = some o -> b ∉ ex -> ∃ o', h'.get? b = some o'
  tups : ∀ b xs, H b = some (.tup xs) -> H' b = some (.tup xs)
  frzs : ∀ b o u, H b = some (.frz o u) -> H' b = some (.frz o u)
  tbls : ∀ b ps, H b = some (.tbl ps) -> ∃ more, H' b = some (.tbl (ps ++ more))
section
variable {fs fs' ex ex' : List Addr} {H H1 H2 : Hp} {h h1 h2 h' : Heap} {a x e : Addr} {o : HO}
theorem Un.any (u : Un fs ex H H1 h h1) {b : Addr} {ob : Obj} (q : h.get? b = some ob) (n : H b = none) (hx : b ∉ ex) : ∃ sl, h1.get? b = some { ob with slots := sl } := by
  by_cases hb : b ∈ fs
  . exact u.slot b ob q n hb hx
  . exact ⟨ob.slots, u.keep b ob q n hb hx⟩
theorem Un.trans (a : Un fs ex H H1 h h1) (b : Un fs ex H1 H2 h1 h2) : Un fs ex H H2 h h2 where
  keep := fun c ob q n hc hx => b.keep c ob (a.keep c ob q n hc hx) (a.free c ob q n hx) hc hx
  slot := fun c ob q n hc hx => by
    obtain ⟨sl, e1⟩ := a.slot c ob q n hc hx;obtain ⟨sl', e2⟩ := b.slot c _ e1 (a.free c ob q n hx) hc hx;exact ⟨sl', e2⟩
  free := fun c ob q n hx => by
    obtain ⟨o', e1⟩ := a.there c ob q hx;exact b.free c o' e1 (a.free c ob q n hx) hx
  there := fun c ob q hx => by
    obtain ⟨o', e1⟩ := a.there c ob q hx;exact b.there c o' e1 hx
  tups := fun c xs q => b.tups c xs (a.tups c xs q)
  frzs := fun c ob xs q => b.frzs c ob xs (a.frzs c ob xs q)
  tbls := fun c ps q => by
    obtain ⟨m1, e1⟩ := a.tbls c ps q;obtain ⟨m2, e2⟩ := b.tbls c _ e1;exact ⟨m1 ++ m2, by rw [e2, Array.append_assoc]⟩
theorem Un.kept (k : ∀ b u, h.get? b = some u -> h'.get? b = some u) : Un fs ex H H h h' :=
  ⟨fun b ob q _ _ _ => k b ob q, fun b ob q _ _ _ => ⟨ob.slots, k b ob q⟩, fun _ _ _ n _ => n, fun b ob q _ => ⟨ob, k b ob q⟩, fun _ _ q => q, fun _ _ _ q => q, fun _ ps q => ⟨#[], by rw [q]; simp⟩⟩
theorem Un.refl : Un fs ex H H h h := Un.kept fun _ _ q => q
theorem Un.laid (k : ∀ b u, h.get? b = some u -> h'.get? b = some u) (hp : h.objs.size <= a) (hn : H a = none) : Un fs ex H (upd H a o) h h' where
  keep := fun b u q _ _ _ => k b u q
  slot := fun b u q _ _ _ => ⟨u.slots, k b u q⟩
  free := fun b u q n _ => by rw [zn (Zs (Zh (Heap.lt_size q) hp))]; exact n
  there := fun b u q _ => ⟨u, k b u q⟩
  tups := fun b xs q => by rw [zn (y0 q hn)]; exact q
  frzs := fun b u xs q => by rw [zn (y0 q hn)]; exact q
  tbls := fun b ps q => ⟨#[], by rw [zn (y0 q hn), q]; simp⟩
theorem Un.write (mu : Mut (H x)) (he : e = x \/ H e = some (.own x)) (k : ∀ b u, b ≠ e -> h.get? b = some u -> h'.get? b = some u) (heo : ∃ u, h'.get? e = some u) : Un fs ex H (upd H x o) h h' := by
  have hx : ∀ b, H b = none -> b ≠ x := fun b n z => by subst z; rw [n] at mu; exact mu
  have hb : ∀ b, H b = none -> b ≠ e := fun b n z => by
    subst z
    rcases he with r | r
    . exact hx b n r
    . rw [n] at r; cases r
  have hm : ∀ b u, H b = some u -> ¬ Mut (some u) -> b ≠ x := fun b u q nm z => by subst z; rw [q] at mu; exact nm mu
  refine ⟨fun b u q n _ _ => k b u (hb b n) q, fun b u q n _ _ => ⟨u.slots, k b u (hb b n) q⟩, fun b u q n _ => by rw [zn (hx b n)]; exact n, fun b u q _ => ?_,
    fun b xs q => by rw [zn (hm b _ q fun z => z)]; exact q, fun b u xs q => by rw [zn (hm b _ q fun z => z)]; exact q, fun b ps q => ⟨#[], by rw [zn (hm b _ q fun z => z), q]; simp⟩⟩
  by_cases hbe : b = e
  . subst hbe; exact heo
  . exact ⟨u, k b u hbe q⟩
theorem Un.mono (u : Un fs ex H H1 h h1) (hs : ∀ b ∈ fs, b ∈ fs') (hx : ∀ b ∈ ex, b ∈ ex') : Un fs' ex' H H1 h h1 :=
  ⟨fun b ob q n hb he => u.keep b ob q n (fun z => hb (hs b z)) fun z => he (hx b z), fun _ _ q n _ he => u.any q n fun z => he (hx _ z), fun b ob q n he => u.free b ob q n fun z => he (hx b z), fun b ob q he => u.there b ob q fun z => he (hx b z), u.tups, u.frzs, u.tbls⟩
end
def trk (h : Heap) (H : Hp) : List Addr := (List.range h.objs.size).filter fun a => (H a).isSome
def hidT (h : Heap) (H : Hp) : Heap := PySem.W.hideAll h (trk h H)
theorem zd5 (h : Heap) (H : Hp) : (hidT h H).objs.size = h.objs.size := PySem.W.hideAll_size _ _
theorem zgb {h : Heap} {H : Hp} {b : Addr} {o : Obj} (e : h.get? b = some o) (n : H b = none) : (hidT h H).get? b = some o :=
  PySem.W.hideAll_get _ e fun hm => by
    have q : (H b).isSome = true := (Xg.mp hm).2;rw [n] at q; simp at q
theorem zh6 {h : Heap} {H : Hp} {b : Addr} {o : Obj} (e : (hidT h H).get? b = some o) : h.get? b = some o /\ H b = none := by
  have e' : h.get? b = some o := PySem.W.of_hideAll (trk h H) e;refine ⟨e', ?_⟩
  cases q : H b with
  | none => rfl
  | some x =>
    have hm : b ∈ trk h H := Xg.mpr ⟨ZX.mpr (Heap.lt_size e'), by simp [q]⟩;have z : (hidT h H).get? b = none := PySem.W.hideAll_none (trk h H) hm;rw [z] at e; cases e
def zhh (g h : Heap) (L : Addr) : List (Addr × Obj) := (List.range h.objs.size).filterMap fun a => if a = L \/ (g.get? a).isSome = true then none else (h.get? a).map fun o => (a, o)
def rest (g h : Heap) (L d : Addr) : List (Addr × Obj) := (zhh g h L).filter fun p => decide (p.1 ≠ d)
end L2
namespace L2
open PySem PySem.Spec PyProof.Rows
structure Mod (K : Fg) (mg : Str -> Option Value) (base : Heap) : Prop where
  kin : K.In base
  glob : base.Ns mainGlobals mg
  blt : ∃ mb, base.Ns builtinsNs mb /\ ∀ x : Str, x ≠ "__name__" -> mb x = bootBuiltins x
  nolimit : base.NoLimit
structure Cx where
  prog : Program
  w : World
  K : Fg
  mg : Str -> Option Value
  base : Heap
  A : Around
  N : List Str
  s₀ : Shared
  H₀ : Hp
  env : Env
  outer : List Env
  stack : List Env
  ex : List Addr
  fn : Str -> Bool
  calm : Bool
  pn : List (Addr × Obj)
  xe : Value -> Shared -> Prop
def frs (l : List Env) : List Addr := l.filterMap (·.frame)
abbrev Cx.fs (X : Cx) : List Addr := frs X.outer
def Vis (sc : Scope) (x : Str) : Prop := sc.names.lookup x = some .local \/ sc.names.lookup x = some .cell \/ sc.names.lookup x = some .free
def Loc (sc : Scope) (x : Str) : Prop := sc.names.lookup x = some .local \/ sc.names.lookup x = some .cell
def Look (env : Env) (h : Heap) (m : Str -> Option Value) (x : Str) (u : Value) : Prop :=
  (env.kindOf x = some .local /\ m x = some u) \/ ((env.kindOf x = some .cell \/ env.kindOf x = some .free) /\ ∃ c, env.cells.lookup x = some c /\ h.IsCell c (some u))
structure Cx.Ok (X : Cx) : Prop where
  mod : Mod X.K X.mg X.base
  kind : X.env.scope.kind = .function
  glob : X.env.globals = mainGlobals
  blt : X.env.builtins = builtinsNs
  above : X.s₀.heap.objs.size <= X.env.locals
  inj : ∀ x y c, X.env.cells.lookup x = some c -> X.env.cells.lookup y = some c -> x = y
  has : ∀ x, (X.env.kindOf x = some .cell \/ X.env.kindOf x = some .free) -> ∃ c, X.env.cells.lookup x = some c
  cab : ∀ x c, X.fn x = true -> X.env.cells.lookup x = some c -> X.s₀.heap.objs.size <= c
  hd : X.calm = true -> X.A.handled = none
  frames : X.A.frames = some X.stack
  stk : X.stack = X.outer \/ (X.stack = X.env :: X.outer /\ X.env.frame = some X.env.locals)
  exf : ∀ b ∈ X.ex, b ≠ X.env.locals /\ ∀ x c, X.env.cells.lookup x = some c -> c ≠ b
  bs : ∀ b o, X.base.get? b = some o -> X.s₀.heap.get? b = some o /\ X.H₀ b = none
  bsz : X.base.objs.size <= X.s₀.heap.objs.size
  noex : ∀ b o, X.base.get? b = some o -> b ∉ X.ex
  exfs : ∀ b ∈ X.ex, b ∉ X.fs
  funs : X.s₀.heap.FunFrames X.base X.outer
  frf : ∀ b ∈ X.fs, X.H₀ b = none
structure Inv (X : Cx) (pins : List (Addr × Obj)) (σ : List (Option V)) (H : Hp) (s : Shared) : Prop where
  ok : X.Ok
  os : s.os = X.s₀.os
  bare : AllBare s.gens
  base : Un X.fs X.ex X.H₀ H X.s₀.heap s.heap
  loc : ∃ m, s.heap.Ns X.env.locals m /\ ∀ (i : Nat) (x : Str) (v : V), X.N[i]? = some x -> σ[i]? = some (some v) -> Vis X.env.scope x -> ∃ u, RelV v u /\ Look X.env s.heap m x u
  cell : ∀ x c, X.env.cells.lookup x = some c -> ∃ v, s.heap.IsCell c v
  free : H X.env.locals = none
  freeC : ∀ x c, X.env.cells.lookup x = some c -> H c = none
  pin : ∀ p ∈ X.pn ++ pins, s.heap.get? p.1 = some p.2 /\ H p.1 = none /\ p.1 ≠ X.env.locals /\ p.1 ∉ X.fs /\ ∀ v, p.2.data ≠ .cell v
  hok : HOk X.prog X.w H s.heap
  len : σ.length = X.N.length
section
variable {X : Cx} {pins : List (Addr × Obj)} {σ : List (Option V)} {H H' : Hp} {s : Shared} {h' : Heap}
theorem Cx.Ok.nofr (ok : X.Ok) {b : Addr} {o : Obj} (e : X.base.get? b = some o) : b ∉ X.fs := fun hb => by
  have := (ok.funs.mem hb).1;rw [e] at this; cases this
theorem Inv.bs (I : Inv X pins σ H s) : ∀ b o, X.base.get? b = some o -> s.heap.get? b = some o /\ H b = none := fun b o e =>
  ⟨I.base.keep b o (I.ok.bs b o e).1 (I.ok.bs b o e).2 (I.ok.nofr e) (I.ok.noex b o e), I.base.free b o (I.ok.bs b o e).1 (I.ok.bs b o e).2 (I.ok.noex b o e)⟩
theorem Inv.bk (I : Inv X pins σ H s) : ∀ b o, X.base.get? b = some o -> s.heap.get? b = some o := fun b o e => (I.bs b o e).1
theorem Inv.mod (I : Inv X pins σ H s) : Mod X.K X.mg X.base := I.ok.mod
theorem Inv.kIn (I : Inv X pins σ H s) : X.K.In s.heap := I.ok.mod.kin.keeps I.bk
theorem Inv.nolimit (I : Inv X pins σ H s) : s.heap.NoLimit := I.ok.mod.nolimit.keeps I.bk
theorem Inv.lt (I : Inv X pins σ H s) : X.env.locals < s.heap.objs.size := let ⟨_, hn, _⟩ := I.loc; hn.lt
theorem Inv.sz (I : Inv X pins σ H s) : X.s₀.heap.objs.size <= s.heap.objs.size := Zd I.ok.above (YQ I.lt)
theorem Inv.nofs (I : Inv X pins σ H s) {a : Addr} (h : s.heap.objs.size <= a) : a ∉ X.fs := fun hb => by
  obtain ⟨_, o, ho, _⟩ := I.ok.funs.mem hb;exact absurd (Zh (Heap.lt_size ho) (Zd I.sz h)) (ZJ _)
theorem Inv.cne (I : Inv X pins σ H s) : ∀ x c, X.env.cells.lookup x = some c -> c ≠ X.env.locals := fun x c e z => by
  obtain ⟨v, o, ho, hd⟩ := I.cell x c e;obtain ⟨m, ⟨o', es, ep, ho', hd', _⟩, _⟩ := I.loc;rw [z, ho'] at ho; cases ho; rw [hd'] at hd; cases hd
theorem Inv.funs (I : Inv X pins σ H s) : s.heap.FunFrames X.base X.outer := by
  have all : ∀ (l : List Env), (∀ b ∈ frs l, b ∈ X.fs) -> X.s₀.heap.FunFrames X.base l -> s.heap.FunFrames X.base l := by
    intro l
    induction l with
    | nil => intro _ _; trivial
    | cons env r ih =>
      intro hs hl;obtain ⟨hk, ⟨L, o, hf, hn, ho, hd⟩, hr⟩ := hl;have hL : L ∈ X.fs := hs L (by unfold frs; rw [Yu, hf]; exact ZA);obtain ⟨sl, e⟩ := I.base.slot L o ho (I.ok.frf L hL) hL fun z => I.ok.exfs L z hL
      exact ⟨hk, ⟨L, _, hf, hn, e, hd⟩, ih (fun b hb => hs b (by unfold frs; rw [Yu, hf]; exact Zv _ hb)) hr⟩
  exact all X.outer (fun _ hb => hb) I.ok.funs
theorem Inv.stack (I : Inv X pins σ H s) : s.heap.FunFrames X.base X.stack := by
  rcases I.ok.stk with e | ⟨e, hf⟩
  . rw [e]; exact I.funs
  . rw [e]
    obtain ⟨m, hn, _⟩ := I.loc;refine .cons (by rw [I.ok.kind]; decide) hf hn ?_ I.funs;exact Heap.get?_none_of_le (Zd I.ok.bsz I.ok.above)
theorem Inv.stkSub (I : Inv X pins σ H s) : ∀ b ∈ frs X.stack, b ∈ X.env.locals :: X.fs := fun b hb => by
  rcases I.ok.stk with e | ⟨e, hf⟩
  . rw [e] at hb; exact Zv _ hb
  . rw [e] at hb
    unfold frs at hb;rw [Yu, hf] at hb;exact hb
theorem Inv.stkFree (I : Inv X pins σ H s) : ∀ b ∈ frs X.stack, H b = none := fun b hb => by
  rcases ZK.mp (I.stkSub b hb) with e | hb
  . rw [e]; exact I.free
  . obtain ⟨_, o, ho, _⟩ := I.ok.funs.mem hb
    exact I.base.free b o ho (I.ok.frf b hb) fun z => I.ok.exfs b z hb
theorem Inv.step {g' : Array GenState} {t' : Nat} {d' : Drawn} {ch : List Addr} (I : Inv X pins σ H s)
    (hch : ∀ b ∈ ch, (b ∈ X.ex \/ X.s₀.heap.objs.size <= b) /\ b ≠ X.env.locals /\ (∀ x c, X.env.cells.lookup x = some c -> c ≠ b) /\ ∀ p ∈ X.pn ++ pins, p.1 ≠ b)
    (keep : ∀ b o, b ≠ X.env.locals -> b ∉ X.fs -> b ∉ ch -> s.heap.get? b = some o -> H b = none -> h'.get? b = some o)
    (slot : ∀ b o, b ≠ X.env.locals -> b ∈ X.fs -> b ∉ ch -> s.heap.get? b = some o -> H b = none -> ∃ sl, h'.get? b = some { o with slots := sl }) (free : ∀ b o, b ∉ ch -> s.heap.get? b = some o -> H b = none -> H' b = none)
    (there : ∀ b o, b ∉ ch -> s.heap.get? b = some o -> ∃ o', h'.get? b = some o')
    (tups : ∀ b xs, H b = some (.tup xs) -> H' b = some (.tup xs)) (frzs : ∀ b o u, H b = some (.frz o u) -> H' b = some (.frz o u)) (tbls : ∀ b ps, H b = some (.tbl ps) -> ∃ more, H' b = some (.tbl (ps ++ more)))
    (ns : ∀ m, s.heap.Ns X.env.locals m -> h'.Ns X.env.locals m) (hok : HOk X.prog X.w H' h') (hg : AllBare g') :
    Inv X pins σ H' { s with heap := h', gens := g', drawn := d', toks := t' } := by
  have neL : ∀ b o, X.s₀.heap.get? b = some o -> b ≠ X.env.locals := fun b o e => Zs (Zh (Heap.lt_size e) I.ok.above)
  have neC : ∀ b o, X.s₀.heap.get? b = some o -> b ∉ X.ex -> b ∉ ch := fun b o e hx hb => by
    rcases (hch b hb).1 with z | z
    . exact hx z
    . exact absurd (Zh (Heap.lt_size e) z) (ZJ _)
  have cellK : ∀ x c, X.env.cells.lookup x = some c -> ∀ v, s.heap.IsCell c v -> h'.IsCell c v := fun x c e v ⟨o, ho, hd⟩ => by
    have nch : c ∉ ch := fun z => (hch c z).2.2.1 x c e rfl
    by_cases hc : c ∈ X.fs
    . obtain ⟨sl, q⟩ := slot c o (I.cne x c e) hc nch ho (I.freeC x c e)
      exact ⟨_, q, hd⟩
    . exact ⟨o, keep c o (I.cne x c e) hc nch ho (I.freeC x c e), hd⟩
  refine ⟨I.ok, I.os, hg, ⟨fun b o e n hb hx => ?_, fun b o e n hb hx => ?_, fun b o e n hx => ?_, fun b o e hx => ?_, fun b xs e => tups b xs (I.base.tups b xs e), fun b o xs e => frzs b o xs (I.base.frzs b o xs e), fun b ps e => ?_⟩, ?_, fun x c e => ?_, ?_, fun x c e => ?_, fun p hp => ?_, hok, I.len⟩
  . exact keep b o (neL b o e) hb (neC b o e hx) (I.base.keep b o e n hb hx) (I.base.free b o e n hx)
  . obtain ⟨sl, e1⟩ := I.base.slot b o e n hb hx
    obtain ⟨sl', e2⟩ := slot b _ (neL b o e) hb (neC b o e hx) e1 (I.base.free b o e n hx);exact ⟨sl', e2⟩
  . obtain ⟨o', e1⟩ := I.base.there b o e hx
    exact free b o' (neC b o e hx) e1 (I.base.free b o e n hx)
  . obtain ⟨o', e1⟩ := I.base.there b o e hx
    exact there b o' (neC b o e hx) e1
  . obtain ⟨m1, e1⟩ := I.base.tbls b ps e
    obtain ⟨m2, e2⟩ := tbls b _ e1;exact ⟨m1 ++ m2, by rw [e2, Array.append_assoc]⟩
  . obtain ⟨m, hn, hl⟩ := I.loc
    refine ⟨m, ns m hn, fun i x v e1 e2 e3 => ?_⟩;obtain ⟨u, r, l⟩ := hl i x v e1 e2 e3;refine ⟨u, r, ?_⟩
    rcases l with l | ⟨k, c, e, z⟩
    . exact .inl l
    . exact .inr ⟨k, c, e, cellK x c e _ z⟩
  . obtain ⟨v, z⟩ := I.cell x c e
    exact ⟨v, cellK x c e v z⟩
  . obtain ⟨m, ⟨o, _, _, ho, _⟩, _⟩ := I.loc
    exact free _ o (fun z => (hch _ z).2.1 rfl) ho I.free
  . obtain ⟨v, o, ho, hd⟩ := I.cell x c e
    exact free c o (fun z => (hch c z).2.2.1 x c e rfl) ho (I.freeC x c e)
  . obtain ⟨e, n, ne, nf, d⟩ := I.pin p hp
    have nch : p.1 ∉ ch := fun z => (hch p.1 z).2.2.2 p hp rfl
    exact ⟨keep p.1 p.2 ne nf nch e n, free p.1 p.2 nch e n, ne, nf, d⟩
theorem Inv.un {t' : Nat} (I : Inv X pins σ H s) (u : Un X.fs [] H H' s.heap h') (hok : HOk X.prog X.w H' h') : Inv X pins σ H' { s with heap := h', toks := t' } := by
  obtain ⟨m, ⟨o, es, ep, ho, r⟩, _⟩ := id I.loc;obtain ⟨sl, hL⟩ := u.any ho I.free (by simp)
  exact I.step (g' := s.gens) (d' := s.drawn) (ch := []) (fun _ z => nomatch z) (fun b o _ hb _ e n => u.keep b o e n hb (by simp)) (fun b o _ hb _ e n => u.slot b o e n hb (by simp)) (fun b o _ e n => u.free b o e n (by simp)) (fun b o _ e => u.there b o e (by simp)) u.tups u.frzs u.tbls (fun m' hm => by
    obtain ⟨o', es', ep', ho', r'⟩ := hm;rw [ho] at ho'; cases ho'
    exact ⟨_, es', ep', hL, r'⟩) hok I.bare
theorem Inv.call {g' : Array GenState} {t' : Nat} {d' : Drawn} {ch : List Addr} (I : Inv X pins σ H s) (u : Un (frs X.stack) ch H H' s.heap h') (hok : HOk X.prog X.w H' h') (hg : AllBare g')
    (hch : ∀ b ∈ ch, (b ∈ X.ex \/ X.s₀.heap.objs.size <= b) /\ b ≠ X.env.locals /\ (∀ x c, X.env.cells.lookup x = some c -> c ≠ b) /\ ∀ p ∈ X.pn ++ pins, p.1 ≠ b) :
    Inv X pins σ H' { s with heap := h', gens := g', drawn := d', toks := t' } := by
  obtain ⟨m, ⟨o, es, ep, ho, r⟩, _⟩ := id I.loc;obtain ⟨sl, hL⟩ := u.any ho I.free fun z => (hch _ z).2.1 rfl
  exact I.step (ch := ch) hch (fun b o hL hb hc e n => u.keep b o e n (fun z => (ZK.mp (I.stkSub b z)).elim hL hb) hc) (fun b o _ _ hc e n => u.any e n hc) (fun b o hc e n => u.free b o e n hc) (fun b o hc e => u.there b o e hc) u.tups u.frzs u.tbls (fun m' hm => by
    obtain ⟨o', es', ep', ho', r'⟩ := hm;rw [ho] at ho'; cases ho'
    exact ⟨_, es', ep', hL, r'⟩) hok hg
theorem Inv.turned {t' : Nat} {it : Addr} (I : Inv X pins σ H s) (k : ∀ b o, b ≠ it -> s.heap.get? b = some o -> h'.get? b = some o) (hn : H it = none) (hL : it ≠ X.env.locals)
    (h1 : it ∈ X.ex \/ X.s₀.heap.objs.size <= it) (h2 : ∀ x c, X.env.cells.lookup x = some c -> c ≠ it) (h3 : ∀ p ∈ X.pn ++ pins, p.1 ≠ it) : Inv X pins σ H { s with heap := h', toks := t' } := by
  have nit : ∀ b u, H b = some u -> b ≠ it := fun b u e z => by rw [z, hn] at e; cases e
  refine I.step (g' := s.gens) (d' := s.drawn) (ch := [it]) (fun b hb => ?_) (fun b o _ _ hc e _ => k b o (fun z => hc (by simp [z])) e) (fun b o _ _ hc e _ => ⟨o.slots, k b o (fun z => hc (by simp [z])) e⟩) (fun _ _ _ _ n => n)
    (fun b o hc e => ⟨o, k b o (fun z => hc (by simp [z])) e⟩) (fun _ _ e => e) (fun _ _ _ e => e) (fun b ps e => ⟨#[], by rw [e]; simp⟩) (fun m hm => ?_) (fun b u e => ?_) I.bare
  . have e : b = it := by simpa using hb
    subst e;exact ⟨h1, hL, h2, h3⟩
  . obtain ⟨o, es, ep, ho, r⟩ := hm
    exact ⟨o, es, ep, k _ o (Ne.symm hL) ho, r⟩
  . refine (I.hok b u e).stay (fun c v hc q => k c v ?_ q) (fun _ q => q) fun _ _ q => q
    rcases hc with z | z
    . rw [z]; exact nit b u e
    . exact nit c _ z
theorem Inv.tok (I : Inv X pins σ H s) (t : Nat) : Inv X pins σ H { s with toks := t } := I.un (h' := s.heap) (t' := t) Un.refl I.hok
theorem Inv.kept {t' : Nat} (I : Inv X pins σ H s) (k : ∀ b u, s.heap.get? b = some u -> h'.get? b = some u) : Inv X pins σ H { s with heap := h', toks := t' } := I.un (Un.kept k) (I.hok.kept k)
theorem Inv.laid {a : Addr} {o : HO} {t' : Nat} (I : Inv X pins σ H s) (k : ∀ b u, s.heap.get? b = some u -> h'.get? b = some u) (hp : s.heap.objs.size <= a) (new : ObjOk X.prog X.w (upd H a o) h' a o) :
    Inv X pins σ (upd H a o) { s with heap := h', toks := t' } := I.un (Un.laid k hp (I.hok.fresh hp)) (I.hok.laid k hp new)
theorem Inv.write {x e : Addr} {o : HO} {t' : Nat} (I : Inv X pins σ H s) (mu : Mut (H x)) (he : e = x \/ H e = some (.own x)) (k : ∀ b u, b ≠ e -> s.heap.get? b = some u -> h'.get? b = some u) (heo : ∃ u, h'.get? e = some u)
    (new : ObjOk X.prog X.w (upd H x o) h' x o) : Inv X pins σ (upd H x o) { s with heap := h', toks := t' } := I.un (Un.write mu he k heo) (I.hok.write mu he k heo new)
theorem Inv.weak {σ' : List (Option V)} (I : Inv X pins σ H s) (hl : σ'.length = σ.length) (w : ∀ (i : Nat) v, σ'[i]? = some (some v) -> σ[i]? = some (some v)) : Inv X pins σ' H s :=
  ⟨I.ok, I.os, I.bare, I.base, let ⟨m, hn, hl'⟩ := I.loc; ⟨m, hn, fun i x v e1 e2 e3 => hl' i x v e1 (w i v e2) e3⟩, I.cell, I.free, I.freeC, I.pin, I.hok, hl.trans I.len⟩
theorem Inv.pins_of {pins' : List (Addr × Obj)} (I : Inv X pins σ H s) (h : ∀ p ∈ pins', s.heap.get? p.1 = some p.2 /\ H p.1 = none /\ p.1 ≠ X.env.locals /\ p.1 ∉ X.fs /\ ∀ v, p.2.data ≠ .cell v) : Inv X pins' σ H s :=
  ⟨I.ok, I.os, I.bare, I.base, I.loc, I.cell, I.free, I.freeC, fun p hp => (ZH.mp hp).elim (fun z => I.pin p (Yi _ z)) (h p), I.hok, I.len⟩
theorem j5 {N : List Str} (hN : N.Nodup) {i j : Nat} {x : Str} (a : N[i]? = some x) (b : N[j]? = some x) : i = j := by
  obtain ⟨h1, e1⟩ := Zc.mp a;obtain ⟨h2, e2⟩ := Zc.mp b;exact (YK hN).mp (e1.trans e2.symm)
theorem da {M : Model} {A : Around} {E : Value -> Shared -> Prop} {i : Nat} {x : Str} {v : V} {u : Value} {Q : Unit -> Shared -> Prop} (I : Inv X pins σ H s) (hN : X.N.Nodup) (hi : X.N[i]? = some x) (hx : Loc X.env.scope x) (r : RelV v u)
    (h : ∀ s', Inv X pins (σ.set i (some v)) H s' -> (∃ a, Heap.SameBut a s.heap s'.heap /\ (a = X.env.locals \/ X.env.cells.lookup x = some a)) -> Q () s') (hf : X.fn x = true \/ X.env.scope.names.lookup x = some .local := by first | exact .inl rfl | exact .inr rfl | assumption) : wpAny M A (storeName X.env x u) Q E s := by
  obtain ⟨m, hn, hl⟩ := id I.loc;have hcls : (X.env.scope.kind == .class || (X.env.scope.kind == .module && X.env.locals != X.env.globals)) = false := by rw [I.ok.kind]; rfl
  have hiσ : i < σ.length := by rw [I.len]; exact (Zc.mp hi).1
  have cne := I.cne
  have tracked : ∀ {a : Addr} {h' : Heap}, (∃ o, s.heap.get? a = some o /\ H a = none) -> Heap.SameBut a s.heap h' -> HOk X.prog X.w H h' := fun {a h'} ha hs b ob e => by
    obtain ⟨_, _, hfree⟩ := ha;refine (I.hok b ob e).stay (fun c w' hc q => (hs.2 c ?_).trans q) (fun _ q => q) fun _ _ q => q
    rintro rfl
    rcases hc with rfl | hc
    . rw [hfree] at e; cases e
    . rw [hfree] at hc; cases hc
  rcases hx with hk | hk
  . refine wpAny_storeName_local hk hn (fun h' hn' hs => ?_) hcls
    obtain ⟨oL, _, _, hoL, _⟩ := id hn;refine h _ ⟨I.ok, I.os, I.bare, ⟨fun b o e n hb hx => ?_, fun b o e n hb hx => ?_, I.base.free, fun b o e hx => ?_, I.base.tups, I.base.frzs, I.base.tbls⟩, ⟨_, hn', fun j y v' e1 e2 e3 => ?_⟩, fun y c e => ?_, I.free, I.freeC, fun p hp => ?_, tracked ⟨oL, hoL, I.free⟩ hs, by simpa using I.len⟩ ⟨_, hs, .inl rfl⟩
    . exact (hs.2 b (Zs (Zh (Heap.lt_size e) I.ok.above))).trans (I.base.keep b o e n hb hx)
    . obtain ⟨sl, e1⟩ := I.base.slot b o e n hb hx
      exact ⟨sl, (hs.2 b (Zs (Zh (Heap.lt_size e) I.ok.above))).trans e1⟩
    . obtain ⟨o', e1⟩ := I.base.there b o e hx
      exact ⟨o', (hs.2 b (Zs (Zh (Heap.lt_size e) I.ok.above))).trans e1⟩
    . by_cases hj : j = i
      . subst hj
        rw [hi] at e1; cases e1;rw [Yb hiσ] at e2;cases e2;exact ⟨u, r, .inl ⟨hk, by simp⟩⟩
      . rw [Yj (Ne.symm hj)] at e2
        obtain ⟨u', r', q⟩ := hl j y v' e1 e2 e3;refine ⟨u', r', ?_⟩
        rcases q with ⟨k, e⟩ | ⟨k, c, e, z⟩
        . refine .inl ⟨k, ?_⟩
          have : y ≠ x := fun e => hj (j5 hN e1 (e ▸ hi))
          simp [this, e]
        . exact .inr ⟨k, c, e, z.sameBut hs (cne y c e)⟩
    . obtain ⟨w', z⟩ := I.cell y c e
      exact ⟨w', z.sameBut hs (cne y c e)⟩
    . obtain ⟨e, n, ne, nf, d⟩ := I.pin p hp
      exact ⟨(hs.2 p.1 ne).trans e, n, ne, nf, d⟩
  . have hfn : X.fn x = true := by
      rcases hf with z | z
      . exact z
      . rw [z] at hk; cases hk
    obtain ⟨c, hc⟩ := I.ok.has x (.inl hk);obtain ⟨w', z⟩ := I.cell x c hc;refine wpAny_storeName_cell I.ok.kind hk hc z (fun h' hc' hs => ?_);obtain ⟨oc, hoc, hocd⟩ := id z;refine h { s with heap := h' } ⟨I.ok, I.os, I.bare, ⟨fun b o e n hb hx => ?_, fun b o e n hb hx => ?_, I.base.free, fun b o e hx => ?_, I.base.tups, I.base.frzs, I.base.tbls⟩, ⟨m, hn.sameBut hs (Ne.symm (cne x c hc)), fun j y v' e1 e2 e3 => ?_⟩, fun y c' e => ?_, I.free, I.freeC, fun p hp => ?_, tracked ⟨oc, hoc, I.freeC x c hc⟩ hs, by simpa using I.len⟩ ⟨c, hs, .inr hc⟩
    . exact (hs.2 b (Zs (Zh (Heap.lt_size e) (I.ok.cab x c hfn hc)))).trans (I.base.keep b o e n hb hx)
    . obtain ⟨sl, e1⟩ := I.base.slot b o e n hb hx
      exact ⟨sl, (hs.2 b (Zs (Zh (Heap.lt_size e) (I.ok.cab x c hfn hc)))).trans e1⟩
    . obtain ⟨o', e1⟩ := I.base.there b o e hx
      exact ⟨o', (hs.2 b (Zs (Zh (Heap.lt_size e) (I.ok.cab x c hfn hc)))).trans e1⟩
    . by_cases hj : j = i
      . subst hj
        rw [hi] at e1; cases e1;rw [Yb hiσ] at e2;cases e2;exact ⟨u, r, .inr ⟨.inl hk, c, hc, hc'⟩⟩
      . rw [Yj (Ne.symm hj)] at e2
        obtain ⟨u', r', q⟩ := hl j y v' e1 e2 e3;refine ⟨u', r', ?_⟩
        rcases q with q | ⟨k, c', e, z'⟩
        . exact .inl q
        . refine .inr ⟨k, c', e, z'.sameBut hs ?_⟩
          rintro rfl
          exact hj (j5 hN e1 (I.ok.inj _ _ _ e hc ▸ hi))
    . by_cases hcc : c' = c
      . subst hcc; exact ⟨_, hc'⟩
      . obtain ⟨w2, z2⟩ := I.cell y c' e
        exact ⟨w2, z2.sameBut hs hcc⟩
    . obtain ⟨e, n, ne, nf, d⟩ := I.pin p hp
      refine ⟨(hs.2 p.1 ?_).trans e, n, ne, nf, d⟩;intro q;rw [q, hoc] at e;have q' : oc = p.2 := Option.some.inj e;exact d w' (by rw [<- q']; exact hocd)
theorem mz {M : Model} {A : Around} {E : Value -> Shared -> Prop} {i : Nat} {x : Str} {v : V} {u : Value} {Q : Unit -> Shared -> Prop} (I : Inv X pins σ H s) (hN : X.N.Nodup) (hi : X.N[i]? = some x) (hx : Loc X.env.scope x) (r : RelV v u)
    (h : ∀ s', Inv X pins (σ.set i (some v)) H s' -> Q () s') (hf : X.fn x = true \/ X.env.scope.names.lookup x = some .local := by first | exact .inl rfl | exact .inr rfl | assumption) : wpAny M A (storeName X.env x u) Q E s :=
  da I hN hi hx r (fun s' I' _ => h s' I') hf
theorem Inv.call' {s' : Shared} {ch : List Addr} (I : Inv X pins σ H s) (ho : s'.os = s.os) (u : Un (frs X.stack) ch H H' s.heap s'.heap) (hok : HOk X.prog X.w H' s'.heap) (hg : AllBare s'.gens)
    (hch : ∀ b ∈ ch, (b ∈ X.ex \/ X.s₀.heap.objs.size <= b) /\ b ≠ X.env.locals /\ (∀ x c, X.env.cells.lookup x = some c -> c ≠ b) /\ ∀ p ∈ X.pn ++ pins, p.1 ≠ b) : Inv X pins σ H' s' := by
  obtain ⟨h', g', d', t', o'⟩ := s';have e : o' = s.os := ho;subst e;exact I.call (g' := g') (t' := t') (d' := d') u hok hg hch
end
abbrev XK := Value -> Option Addr -> Hp -> Prop
abbrev St := List (Option V)
abbrev VK := V -> Hp -> Prop
abbrev TE := St -> Hp -> VK -> Prop
abbrev TT := St -> Hp -> (Bool -> Hp -> Prop) -> Prop
abbrev TA := St -> Hp -> (List V -> Hp -> Prop) -> Prop
structure Ends where
  nx : St -> Hp -> Prop
  rt : VK
  bk : St -> Hp -> Prop := fun _ _ => False
  ct : St -> Hp -> Prop := fun _ _ => False
abbrev TS := Ends -> St -> Hp -> Prop
def EP (X : Cx) (pins : List (Addr × Obj)) (σ : St) (Q : VK) (u : Value) (s' : Shared) : Prop := ∃ v H', Inv X pins σ H' s' /\ RelV v u /\ Q v H'
def TP (X : Cx) (pins : List (Addr × Obj)) (σ : St) (Q : Bool -> Hp -> Prop) (b : Bool) (s' : Shared) : Prop := ∃ H', Inv X pins σ H' s' /\ Q b H'
def AP (X : Cx) (pins : List (Addr × Obj)) (σ : St) (Q : List V -> Hp -> Prop) (us : List Value) (s' : Shared) : Prop := ∃ vs H', Inv X pins σ H' s' /\ Vals vs us /\ Q vs H'
def SP (X : Cx) (pins : List (Addr × Obj)) (D : Ends) (f : Flow) (s' : Shared) : Prop :=
  match f with
  | .next => ∃ σ' H', Inv X pins σ' H' s' /\ D.nx σ' H'
  | .brk => ∃ σ' H', Inv X pins σ' H' s' /\ D.bk σ' H'
  | .cont => ∃ σ' H', Inv X pins σ' H' s' /\ D.ct σ' H'
  | .ret u => ∃ v σ' H', Inv X pins σ' H' s' /\ RelV v u /\ D.rt v H'
def PE (X : Cx) (e : Expr) (t : TE) : Prop :=
  ∀ (pins : List (Addr × Obj)) (s : Shared) (σ : St) (H : Hp) (Q : VK), Inv X pins σ H s -> t σ H Q -> wpAny (model X.prog X.w) X.A (eval e X.env) (EP X pins σ Q) X.xe s
def PT (X : Cx) (e : Expr) (t : TT) : Prop :=
  ∀ (pins : List (Addr × Obj)) (s : Shared) (σ : St) (H : Hp) (Q : Bool -> Hp -> Prop), Inv X pins σ H s -> t σ H Q -> wpAny (model X.prog X.w) X.A (isTrue e X.env (eval e X.env)) (TP X pins σ Q) X.xe s
def PW (X : Cx) (e : Expr) (t : TT) : Prop :=
  ∀ (whole : Sem Value) (pins : List (Addr × Obj)) (s : Shared) (σ : St) (H : Hp) (Q : Bool -> Hp -> Prop), Inv X pins σ H s -> t σ H Q -> wpAny (model X.prog X.w) X.A (isTrue e X.env whole) (TP X pins σ Q) X.xe s
theorem PW.pt {X : Cx} {e : Expr} {t : TT} (h : PW X e t) : PT X e t := h _
def PA (X : Cx) (es : List Expr) (t : TA) : Prop :=
  ∀ (pos : Pos) (pins : List (Addr × Obj)) (s : Shared) (σ : St) (H : Hp) (Q : List V -> Hp -> Prop), Inv X pins σ H s -> t σ H Q -> wpAny (model X.prog X.w) X.A (spliced (backTo pos (starEach es X.env))) (AP X pins σ Q) X.xe s
def PS (X : Cx) (st : Stmt) (t : TS) : Prop :=
  ∀ (pins : List (Addr × Obj)) (s : Shared) (σ : St) (H : Hp) (D : Ends), Inv X pins σ H s -> t D σ H -> wpAny (model X.prog X.w) X.A (exec st X.env) (SP X pins D) X.xe s
def PSs (X : Cx) (st : List Stmt) (t : TS) : Prop :=
  ∀ (pins : List (Addr × Obj)) (s : Shared) (σ : St) (H : Hp) (D : Ends), Inv X pins σ H s -> t D σ H -> wpAny (model X.prog X.w) X.A (execs st X.env) (SP X pins D) X.xe s
theorem thn {α : Type} {t : Sem α} {Q Q' : α -> Shared -> Prop} {M : Model} {A : Around} {E : Value -> Shared -> Prop} {s : Shared} (h : wpAny M A t Q E s) (hQ : ∀ a s, Q a s -> Q' a s) : wpAny M A t Q' E s := wpAny_mono h hQ fun _ _ x => x
end L2
namespace L2
open PySem PySem.Spec PyProof.Rows
section
variable {X : Cx}
def tVar (i : Nat) : TE := fun σ H Q => ∃ v, σ[i]? = some (some v) /\ Q v H
def tC (v : V) : TE := fun _ H Q => Q v H
theorem pe_var {i : Nat} {x : Str} {pos : Pos} (hN : X.N[i]? = some x) (hv : Vis X.env.scope x) (hd : (x == ("__debug__" : Str)) = false := by decide) (hcd : (x == ("__classdict__" : Str)) = false := by decide) : PE X (.Name x pos) (tVar i) := by
  intro pins s σ H Q I h;obtain ⟨v, e, h⟩ := h;obtain ⟨m, hn, hl⟩ := I.loc;obtain ⟨u, r, l⟩ := hl i x v hN e hv;have fin : EP X pins σ Q u s := ⟨v, H, I, r, h⟩
  rcases l with ⟨hk, hm⟩ | ⟨hk, c, hc, hcell⟩
  . exact wpAny_Name (wpAny_loadName_local I.ok.kind hk hn hm fin) hd
  . rcases hk with hk | hk
    . exact wpAny_Name (wpAny_loadName_cell I.ok.kind hk hc hcell fin) hd
    . exact wpAny_Name (wpAny_loadName_free I.ok.kind hk hc hcell fin hcd) hd
theorem zc {i j pos} : PE X (.Constant (.int i) j pos) (tC (.int i)) := fun _ _ _ H _ I h => wpAny_Constant_int ⟨.int i, H, I.tok _, ⟨_, rfl⟩, h⟩
theorem wa {b j pos} : PE X (.Constant (.bool b) j pos) (tC (.bl b)) := fun _ _ _ H _ I h => Constant_bool ⟨.bl b, H, I, rfl, h⟩
theorem qz {j pos} : PE X (.Constant .none j pos) (tC .non) := fun _ _ _ H _ I h => Constant_none ⟨.non, H, I, rfl, h⟩
theorem wm {x j pos} : PE X (.Constant (.str x) j pos) (tC (.str x)) := fun _ _ _ H _ I h => Calls.Constant_str ⟨.str x, H, I.tok _, ⟨_, rfl⟩, h⟩
def Gl (X : Cx) (x : Str) : Prop := X.env.kindOf x = some .globalImplicit
theorem nw {E : Value -> Shared -> Prop} {pins : List (Addr × Obj)} {s : Shared} {σ : St} {H : Hp} {x : Str} {u : Value} {pos : Pos} {Q : Value -> Shared -> Prop} (I : Inv X pins σ H s) (hg : Gl X x) (hm : X.mg x = some u) (h : Q u s)
    (hd : (x == ("__debug__" : Str)) = false := by decide) : wpAny (model X.prog X.w) X.A (eval (.Name x pos) X.env) Q E s :=
  Calls.Name_function_global I.ok.kind hg (Calls.loadGlobal_global (by rw [I.ok.glob]; exact I.mod.glob.keeps I.bk) hm h) hd
theorem r6 {E : Value -> Shared -> Prop} {pins : List (Addr × Obj)} {s : Shared} {σ : St} {H : Hp} {x : Str} {u : Value} {pos : Pos} {Q : Value -> Shared -> Prop} (I : Inv X pins σ H s) (hg : Gl X x) (hm : X.mg x = none) (hv : bootBuiltins x = some u) (h : Q u s)
    (hn : x ≠ "__name__" := by decide) (hd : (x == ("__debug__" : Str)) = false := by decide) : wpAny (model X.prog X.w) X.A (eval (.Name x pos) X.env) Q E s := by
  obtain ⟨mb, h1, h2⟩ := I.mod.blt;exact Calls.Name_function_global I.ok.kind hg (Calls.loadGlobal_builtin (by rw [I.ok.glob]; exact I.mod.glob.keeps I.bk) hm (by rw [I.ok.blt]; exact h1.keeps I.bk) ((h2 x hn).trans hv) h) hd
theorem wv {x : Str} {v : V} {u : Value} {pos : Pos} (hg : Gl X x) (hm : X.mg x = some u) (r : RelV v u) (hd : (x == ("__debug__" : Str)) = false := by decide) : PE X (.Name x pos) (tC v) :=
  fun _ _ _ H _ I h => nw I hg hm ⟨v, H, I, r, h⟩ hd
theorem zg7 {x : Str} {v : V} {u : Value} {pos : Pos} (hg : Gl X x) (hm : X.mg x = none) (hv : bootBuiltins x = some u) (r : RelV v u) (hn : x ≠ "__name__" := by decide) (hd : (x == ("__debug__" : Str)) = false := by decide) : PE X (.Name x pos) (tC v) :=
  fun _ _ _ H _ I h => r6 I hg hm hv ⟨v, H, I, r, h⟩ hn hd
variable {a b : Expr} {ta tb : TE} {pos : Pos}
def tB (t : TE) : TT := fun σ H Q => t σ H fun x H1 => ∃ c, x = .bl c /\ Q c H1
theorem wf {e : Expr} {t : TE} (h : PE X e t) (he : ∀ whole, isTrue e X.env whole = (do let v <- whole; standAt e.pos; holding [v] (truthy v)) := by intro _; rfl) : PT X e (tB t) := by
  intro pins s σ H Q I hw;refine isTrue_plain (thn (h pins s σ H _ I hw) fun v s1 ⟨x, H1, I1, r1, q1⟩ => ?_) (he _);obtain ⟨d, rfl, q⟩ := q1;cases r1;exact wpAny_truthy_bool ⟨H1, I1, q⟩
variable {tA tB' : TT} {rest : List Expr}
def tAnd (t u : TT) : TT := fun σ H Q => t σ H fun c H1 => if c = true then u σ H1 Q else Q false H1
def tOr (t u : TT) : TT := fun σ H Q => t σ H fun c H1 => if c = true then Q true H1 else u σ H1 Q
def tNot (t : TT) : TT := fun σ H Q => t σ H fun c H1 => Q (!c) H1
theorem zhk (ha : PT X a tA) : PW X (.BoolOp .And [a] pos) tA := by
  intro wh pins s σ H Q I h;refine isTrue_and (thn (ha pins s σ H Q I h) fun c s1 e => ?_)
  cases c with
  | true => exact isTrue_and_nil e
  | false => exact e
theorem u5 (ha : PT X a tA) : PW X (.BoolOp .Or [a] pos) tA := by
  intro wh pins s σ H Q I h;refine isTrue_or (thn (ha pins s σ H Q I h) fun c s1 e => ?_)
  cases c with
  | false => exact isTrue_or_nil e
  | true => exact e
theorem pw_and (ha : PT X a tA) (hb : PW X (.BoolOp .And (b :: rest) pos) tB') : PW X (.BoolOp .And (a :: b :: rest) pos) (tAnd tA tB') := by
  intro wh pins s σ H Q I h;refine isTrue_and (thn (ha pins s σ H _ I h) fun c s1 ⟨H1, I1, q1⟩ => ?_)
  cases c with
  | true => exact hb wh pins s1 σ H1 Q I1 q1
  | false => exact ⟨H1, I1, q1⟩
theorem qh (ha : PT X a tA) (hb : PW X (.BoolOp .Or (b :: rest) pos) tB') : PW X (.BoolOp .Or (a :: b :: rest) pos) (tOr tA tB') := by
  intro wh pins s σ H Q I h;refine isTrue_or (thn (ha pins s σ H _ I h) fun c s1 ⟨H1, I1, q1⟩ => ?_)
  cases c with
  | true => exact ⟨H1, I1, q1⟩
  | false => exact hb wh pins s1 σ H1 Q I1 q1
theorem xv (ha : PT X a tA) : PT X (.UnaryOp .Not a pos) (tNot tA) := by
  intro pins s σ H Q I h;exact isTrue_not (ha pins s σ H (fun c H1 => Q (!c) H1) I h)
def tAndV (ta tb : TE) : TE := fun σ H Q => ta σ H fun x H1 => ∃ c, x = .bl c /\ if c = true then tb σ H1 Q else Q (.bl false) H1
def tOrV (ta tb : TE) : TE := fun σ H Q => ta σ H fun x H1 => ∃ c, x = .bl c /\ if c = true then Q (.bl true) H1 else tb σ H1 Q
def tNotV (ta : TE) : TE := fun σ H Q => ta σ H fun x H1 => ∃ c, x = .bl c /\ Q (.bl (!c)) H1
theorem uz {op} {t : TE} (h : PE X a t) : PE X (.BoolOp op [a] pos) t := fun pins s σ H Q I hw => BoolOp_one (h pins s σ H Q I hw)
theorem vi (ha : PE X a ta) (hb : PE X (.BoolOp .And (b :: rest) pos) tb) : PE X (.BoolOp .And (a :: b :: rest) pos) (tAndV ta tb) := by
  intro pins s σ H Q I h;refine BoolOp_and (thn (ha pins s σ H _ I h) fun v s1 ⟨x, H1, I1, r1, q1⟩ => ?_);obtain ⟨c, rfl, q1⟩ := q1;cases r1;refine wpAny_truthy_bool ?_
  cases c with
  | true => exact hb pins s1 σ H1 Q I1 q1
  | false => exact ⟨.bl false, H1, I1, rfl, q1⟩
theorem ze8 (ha : PE X a ta) : PE X (.UnaryOp .Not a pos) (tNotV ta) := by
  intro pins s σ H Q I h;refine UnaryOp_ (thn (ha pins s σ H _ I h) fun v s1 ⟨x, H1, I1, r1, q1⟩ => ?_);obtain ⟨c, rfl, q1⟩ := q1;cases r1;exact not_of (wpAny_truthy_bool ⟨.bl (!c), H1, I1, rfl, q1⟩)
def tIf (t : TT) (ta tb : TE) : TE := fun σ H Q => t σ H fun c H1 => if c = true then ta σ H1 Q else tb σ H1 Q
end
end L2
namespace L2
open PySem PySem.Spec PyProof.Rows
def SqL (K : Fg) (H : Hp) (a : Addr) (xs : List V) : Prop :=
  Rd H a (.lst xs) \/
    ∃ (o : Obj) (its : Array Value) (n : Nat), K.lookup a = some o /\ o.cls = .type "list" /\ o.dict = none /\ o.data = .seq its n /\ its.size <= sizeLine /\ Vals xs its.toList
def SqT (K : Fg) (H : Hp) (a : Addr) (xs : List V) : Prop :=
  Rd H a (.tup xs) \/
    ∃ (o : Obj) (its : Array Value) (n : Nat), K.lookup a = some o /\ o.cls = .type "tuple" /\ o.data = .seq its n /\ its.size <= sizeLine /\ Vals xs its.toList
def absV : Value -> Option V
  | .none => some .non
  | .bool b => some (.bl b)
  | .int i _ => some (.int i)
  | .str x _ => some (.str x)
  | .bytes b _ => some (.byt b)
  | .float b _ => some (.flt b)
  | .ref a => some (.ref a)
  | .type n => some (.ty n)
  | _ => none
theorem RelV.abs {x : V} {u : Value} (r : RelV x u) : absV u = some x := by
  cases x with
  | non => cases r; rfl
  | bl _ => cases r; rfl
  | int _ => obtain ⟨t, rfl⟩ := r; rfl
  | str _ => obtain ⟨t, rfl⟩ := r; rfl
  | byt _ => obtain ⟨t, rfl⟩ := r; rfl
  | flt _ => obtain ⟨t, rfl⟩ := r; rfl
  | ref _ => cases r; rfl
  | ty _ => cases r; rfl
theorem RelV.inj {x y : V} {u : Value} (r : RelV x u) (q : RelV y u) : x = y := Option.some.inj (r.abs.symm.trans q.abs)
theorem Vals.inj : ∀ {xs ys : List V} {us : List Value}, Vals xs us -> Vals ys us -> xs = ys
  | _, _, _, .nil, .nil => rfl
  | _, _, _, .cons r t, .cons r' t' => by rw [r.inj r', Vals.inj t t']
section
variable {X : Cx} {pins : List (Addr × Obj)} {σ : St} {H : Hp} {s : Shared} {a : Addr} {xs ys : List V}
theorem SqL.of {K : Fg} (h : H a = some (.lst xs)) : SqL K H a xs := .inl (.inl h)
theorem SqT.of {K : Fg} (h : H a = some (.tup xs)) : SqT K H a xs := .inl (.inl h)
theorem Inv.list (I : Inv X pins σ H s) (h : SqL X.K H a xs) : ∃ its : List Value, Vals xs its /\ PlainL s.heap a its.toArray /\ xs.length <= sizeLine := by
  rcases h with h | ⟨o, its, n, hk, hc, hd, hs, hz, r⟩
  . obtain ⟨z, its, n, r, e⟩ := h.ok I.hok
    exact ⟨its, r, ⟨_, n, e, rfl, rfl, rfl⟩, z⟩
  . refine ⟨its.toList, r, ⟨o, n, I.kIn a o hk, hc, hd, by simpa using hs⟩, ?_⟩
    have e := r.length;simp only [YS] at e;omega
theorem Inv.tuple (I : Inv X pins σ H s) (h : SqT X.K H a xs) : ∃ its : List Value, Vals xs its /\ IsTup s.heap a its.toArray /\ xs.length <= sizeLine := by
  rcases h with h | ⟨o, its, n, hk, hc, hs, hz, r⟩
  . obtain ⟨z, its, r, p⟩ := h.ok I.hok
    exact ⟨its, r, p.tup, z⟩
  . refine ⟨its.toList, r, ⟨o, I.kIn a o hk, hc, n, by simpa using hs⟩, ?_⟩
    have e := r.length;simp only [YS] at e;omega
theorem Inv.list_inj (I : Inv X pins σ H s) (h : SqL X.K H a xs) (h' : SqL X.K H a ys) : xs = ys := by
  obtain ⟨its, r, ⟨o, n, e, _, _, d⟩, _⟩ := I.list h;obtain ⟨its', r', ⟨o', n', e', _, _, d'⟩, _⟩ := I.list h';rw [e] at e'; cases e';rw [d] at d'
  injection d' with d1 _
  have : its = its' := by simpa using congrArg Array.toList d1
  subst this;exact r.inj r'
theorem Inv.tuple_inj (I : Inv X pins σ H s) (h : SqT X.K H a xs) (h' : SqT X.K H a ys) : xs = ys := by
  obtain ⟨its, r, ⟨o, e, _, n, d⟩, _⟩ := I.tuple h;obtain ⟨its', r', ⟨o', e', _, n', d'⟩, _⟩ := I.tuple h';rw [e] at e'; cases e';rw [d] at d'
  injection d' with d1 _
  have : its = its' := by simpa using congrArg Array.toList d1
  subst this;exact r.inj r'
end
abbrev Cx.wish (X : Cx) (E : Value -> Shared -> Prop) : Cx := { X with xe := E }
abbrev Cx.nox (X : Cx) : Cx := X.wish fun _ _ => False
theorem Cx.Ok.wish {X : Cx} (ok : X.Ok) (E : Value -> Shared -> Prop) : (X.wish E).Ok :=
  ⟨ok.mod, ok.kind, ok.glob, ok.blt, ok.above, ok.inj, ok.has, ok.cab, ok.hd, ok.frames, ok.stk, ok.exf, ok.bs, ok.bsz, ok.noex, ok.exfs, ok.funs, ok.frf⟩
theorem Cx.Ok.unwish {X : Cx} {E : Value -> Shared -> Prop} (ok : (X.wish E).Ok) : X.Ok :=
  ⟨ok.mod, ok.kind, ok.glob, ok.blt, ok.above, ok.inj, ok.has, ok.cab, ok.hd, ok.frames, ok.stk, ok.exf, ok.bs, ok.bsz, ok.noex, ok.exfs, ok.funs, ok.frf⟩
section
variable {X : Cx} {pins : List (Addr × Obj)} {σ : St} {H : Hp} {s : Shared} {E : Value -> Shared -> Prop}
theorem Inv.wish (I : Inv X pins σ H s) (E : Value -> Shared -> Prop) : Inv (X.wish E) pins σ H s := ⟨I.ok.wish E, I.os, I.bare, I.base, I.loc, I.cell, I.free, I.freeC, I.pin, I.hok, I.len⟩
theorem Inv.unwish (I : Inv (X.wish E) pins σ H s) : Inv X pins σ H s := ⟨I.ok.unwish, I.os, I.bare, I.base, I.loc, I.cell, I.free, I.freeC, I.pin, I.hok, I.len⟩
theorem SP.unwish {D : Ends} {f : Flow} {s' : Shared} (h : SP (X.wish E) pins D f s') : SP X pins D f s' := by
  cases f with
  | next => obtain ⟨σ', H', I, q⟩ := h; exact ⟨σ', H', I.unwish, q⟩
  | brk => obtain ⟨σ', H', I, q⟩ := h; exact ⟨σ', H', I.unwish, q⟩
  | cont => obtain ⟨σ', H', I, q⟩ := h; exact ⟨σ', H', I.unwish, q⟩
  | ret u => obtain ⟨v, σ', H', I, r, q⟩ := h; exact ⟨v, σ', H', I.unwish, r, q⟩
theorem PE.nox {e : Expr} {t : TE} (h : PE X.nox e t) : PE X e t := fun pins s σ H Q I hw =>
  wpAny_mono (h pins s σ H Q (I.wish _) hw) (fun _ _ ⟨v, H', I', r, q⟩ => ⟨v, H', I'.unwish, r, q⟩) fun _ _ z => False.elim z
theorem PT.nox {e : Expr} {t : TT} (h : PT X.nox e t) : PT X e t := fun pins s σ H Q I hw =>
  wpAny_mono (h pins s σ H Q (I.wish _) hw) (fun _ _ ⟨H', I', q⟩ => ⟨H', I'.unwish, q⟩) fun _ _ z => False.elim z
theorem PSs.nox {st : List Stmt} {t : TS} (h : PSs X.nox st t) : PSs X st t := fun pins s σ H D I hw =>
  wpAny_mono (h pins s σ H D (I.wish _) hw) (fun _ _ q => q.unwish) fun _ _ z => False.elim z
end
section
variable {X : Cx} {st : Stmt} {rest : List Stmt} {t u : TS} {e : Expr} {te : TE} {pos : Pos}
def cj : TS := fun D σ H => D.nx σ H
def tSeq (t u : TS) : TS := fun D σ H => t { D with nx := u D } σ H
theorem yc : PSs X [] cj := fun _ _ σ H _ I h => wpAny_execs_nil ⟨σ, H, I, h⟩
theorem zk (h1 : PS X st t) (h2 : PSs X rest u) : PSs X (st :: rest) (tSeq t u) := by
  intro pins s σ H D I h;refine wpAny_execs_cons (thn (h1 pins s σ H { D with nx := u D } I h) fun f s1 q => ?_)
  cases f with
  | next =>
    obtain ⟨σ', H', I', q⟩ := q;exact h2 pins s1 σ' H' D I' q
  | ret v => exact q
  | brk => exact q
  | cont => exact q
theorem zi (h1 : PS X st t) : PSs X [st] t := by
  intro pins s σ H D I h;refine wpAny_execs_cons (thn (h1 pins s σ H D I h) fun f s1 q => ?_)
  cases f with
  | next => exact wpAny_execs_nil q
  | ret v => exact q
  | brk => exact q
  | cont => exact q
def tBreak : TS := fun D σ H => D.bk σ H
def tCont : TS := fun D σ H => D.ct σ H
theorem Inv.quiet {pins : List (Addr × Obj)} {σ : St} {H : Hp} {s : Shared} (I : Inv X pins σ H s) : interactive X.env = false := by simp [interactive, I.ok.kind]
def tDrop (te : TE) : TS := fun D σ H => te σ H fun _ H1 => D.nx σ H1
theorem je (he : PE X e te) (hs : swapsWith e none pos.line X.env = pure false := by rfl) : PS X (.Expr e pos) (tDrop te) := by
  intro pins s σ H D I h;exact wpAny_Expr_any (thn (he pins s σ H _ I h) fun v s1 ⟨x, H1, I1, r1, q1⟩ => ⟨σ, H1, I1, q1⟩) I.quiet hs
def tRet (te : TE) : TS := fun D σ H => te σ H D.rt
theorem zt (he : PE X e te) : PS X (.Return (some e) pos) (tRet te) := by
  intro pins s σ H D I h;exact wpAny_Return_some (thn (he pins s σ H _ I h) fun v s1 ⟨x, H1, I1, r1, q1⟩ => ⟨x, σ, H1, I1, r1, q1⟩)
def tRetN : TS := fun D _ H => D.rt .non H
def tIfS (c : TT) (t u : TS) : TS := fun D σ H => c σ H fun b H1 => if b = true then t D σ H1 else u D σ H1
theorem yl {c : Expr} {a b : List Stmt} {tc : TT} (hc : PT X c tc) (ha : PSs X a t) (hb : PSs X b u) : PS X (.If c a b pos) (tIfS tc t u) := by
  intro pins s σ H D I h;refine wpAny_If (thn (hc pins s σ H _ I h) fun d s1 ⟨H1, I1, q1⟩ => ?_)
  cases d with
  | true => exact ha pins s1 σ H1 D I1 q1
  | false => exact hb pins s1 σ H1 D I1 q1
end
abbrev TG := V -> St -> Hp -> (St -> Hp -> Prop) -> Prop
abbrev TGs := List V -> St -> Hp -> (St -> Hp -> Prop) -> Prop
def PG (X : Cx) (target : Expr) (t : TG) : Prop :=
  ∀ (pins : List (Addr × Obj)) (s : Shared) (σ : St) (H : Hp) (v : V) (u : Value) (Q : St -> Hp -> Prop), Inv X pins σ H s -> RelV v u -> t v σ H Q ->
    wpAny (model X.prog X.w) X.A (assign target X.env u) (fun _ s' => ∃ σ' H', Inv X pins σ' H' s' /\ Q σ' H') X.xe s
def PGs (X : Cx) (ts : List Expr) (t : TGs) : Prop :=
  ∀ (pins : List (Addr × Obj)) (s : Shared) (σ : St) (H : Hp) (vs : List V) (us : List Value) (Q : St -> Hp -> Prop), Inv X pins σ H s -> Vals vs us -> t vs σ H Q ->
    wpAny (model X.prog X.w) X.A (assignInOrder ((assignEach ts X.env).map (·.2)) us) (fun _ s' => ∃ σ' H', Inv X pins σ' H' s' /\ Q σ' H') X.xe s
abbrev TSet := V -> V -> V -> Hp -> (Hp -> Prop) -> Prop
def PSet (X : Cx) (t : TSet) : Prop :=
  ∀ (pins : List (Addr × Obj)) (s : Shared) (σ : St) (H : Hp) (o i v : V) (ov iv u : Value) (Q : Hp -> Prop), Inv X pins σ H s -> RelV o ov -> RelV i iv -> RelV v u -> t o i v H Q ->
    wpAny (model X.prog X.w) X.A (setItem ov iv u) (fun _ s' => ∃ H', Inv X pins σ H' s' /\ Q H') X.xe s
abbrev TIp := V -> V -> Hp -> VK -> Prop
section
variable {X : Cx} {pos : Pos}
def zcn (i : Nat) : TG := fun v σ H Q => Q (σ.set i (some v)) H
theorem ya {i : Nat} {x : Str} (hN : X.N.Nodup) (hi : X.N[i]? = some x) (hx : Loc X.env.scope x) (hf : X.fn x = true \/ X.env.scope.names.lookup x = some .local := by first | exact .inl rfl | exact .inr rfl | assumption) : PG X (.Name x pos) (zcn i) := by
  intro pins s σ H v u Q I r h;exact wpAny_assign_Name (mz I hN hi hx r (fun s' I' => ⟨_, H, I', h⟩) hf)
def gNil : TGs := fun vs σ H Q => vs = [] /\ Q σ H
def gCons (t : TG) (u : TGs) : TGs := fun vs σ H Q => ∃ v r, vs = v :: r /\ t v σ H fun σ' H' => u r σ' H' Q
theorem nk : PGs X [] gNil := by
  intro pins s σ H vs us Q I r h;obtain ⟨e, h⟩ := h;subst e;cases r;exact assignInOrder_nil ⟨σ, H, I, h⟩
theorem wq {e : Expr} {es : List Expr} {t : TG} {u : TGs} (h1 : PG X e t) (h2 : PGs X es u)
    (hs : (assignEach (e :: es) X.env).map (·.2) = assign e X.env :: (assignEach es X.env).map (·.2) := by rfl) : PGs X (e :: es) (gCons t u) := by
  intro pins s σ H vs us Q I r h;obtain ⟨v, vr, e1, h⟩ := h;subst e1
  cases r with
  | cons r rr =>
    rw [hs];refine assignInOrder_cons (thn (h1 pins s σ H _ _ _ I r h) fun _ s1 ⟨σ1, H1, I1, q1⟩ => ?_);exact h2 pins s1 σ1 H1 _ _ Q I1 rr q1
def gTup (K : Fg) (n : Nat) (t : TGs) : TG := fun v σ H Q => ∃ a xs, v = .ref a /\ SqT K H a xs /\ xs.length = n /\ t xs σ H Q
theorem kt {es : List Expr} {k : Nat} {t : TGs} {n : Nat} (hc : X.calm = true) (h : PGs X es t)
    (hn : (assignEach es X.env).length = n := by rfl) (hst : (assignEach es X.env).findIdx? (·.1) = none := by rfl) : PG X (.Tuple es k pos) (gTup X.K n t) := by
  intro pins s σ H v u Q I r hw;obtain ⟨a, xs, e1, hq, hl, hw⟩ := hw;subst e1;cases r;obtain ⟨its, rv, ht, hz⟩ := I.tuple hq;refine assign_Tuple_tuple (I.ok.hd hc) ht (by simp [hn, <- hl, rv.length]) hst fun h' hx => ?_
  have I1 : Inv X pins σ H { s with heap := h' } := I.kept (t' := s.toks) fun b o e => hx b o (Zs (Heap.lt_size e)) e
  exact h pins _ σ H xs _ Q I1 (by simpa using rv) hw
def gSub (to ti : TE) (t : TSet) : TG := fun v σ H Q => to σ H fun o H1 => ti σ H1 fun i H2 => t o i v H2 fun H3 => Q σ H3
theorem tj {o i : Expr} {to ti : TE} {t : TSet} (ho : PE X o to) (hi : PE X i ti) (hs : PSet X t)
    (ha : ∀ v, assign (.Subscript o i pos) X.env v = (do
      let ov <- holding [v] (eval o X.env)
      let iv <- holding [v, ov] (eval i X.env)
      standAt pos
      holding [v, ov, iv] (setItem ov iv v)
      release [v, ov, iv] []) := by intro _; rfl) : PG X (.Subscript o i pos) (gSub to ti t) := by
  intro pins s σ H v u Q I r h;rw [ha];refine wpAny_bind (wpAny_holding (thn (ho pins s σ H _ I h) fun ov s1 ⟨x, H1, I1, r1, q1⟩ => ?_));refine wpAny_bind (wpAny_holding (thn (hi pins s1 σ H1 _ I1 q1) fun iv s2 ⟨y, H2, I2, r2, q2⟩ => ?_));refine wpAny_bind (wpAny_standAt (wpAny_bind (wpAny_holding (thn (hs pins s2 σ H2 x y v ov iv u _ I2 r1 r2 r q2) fun _ s3 ⟨H3, I3, q3⟩ => ?_))));exact wpAny_release ⟨σ, H3, I3, q3⟩
def tAsg (te : TE) (g : TG) : TS := fun D σ H => te σ H fun x H1 => g x σ H1 D.nx
theorem vd {tg e : Expr} {te : TE} {g : TG} (he : PE X e te) (hg : PG X tg g) (hs : swapsWithSole [tg] e pos.line X.env = pure false := by rfl) (hw : swappedStores [tg] e X.env = pure none := by rfl)
    (h1 : (assignEach [tg] X.env).map (·.2) = [assign tg X.env] := by rfl) : PS X (.Assign [tg] e pos) (tAsg te g) := by
  intro pins s σ H D I h;refine wpAny_Assign_stores (thn (he pins s σ H _ I h) fun v s1 ⟨x, H1, I1, r1, q1⟩ => ?_) hs hw;rw [h1];exact thn (hg pins s1 σ H1 x v _ I1 r1 q1) fun _ s2 q => q
theorem zz {i : Nat} {x : Str} {e : Expr} {te : TE} {pos' : Pos} (hN : X.N.Nodup) (hi : X.N[i]? = some x) (hx : Loc X.env.scope x) (he : PE X e te) (hs : swapsWith e (some (.Name x pos')) pos.line X.env = pure false := by rfl) (hf : X.fn x = true \/ X.env.scope.names.lookup x = some .local := by first | exact .inl rfl | exact .inr rfl | assumption) :
    PS X (.Assign [.Name x pos'] e pos) (tAsg te (zcn i)) := by
  intro pins s σ H D I h;refine wpAny_Assign_Name (thn (he pins s σ H _ I h) fun v s1 ⟨y, H1, I1, r1, q1⟩ => ?_) hs;exact mz I1 hN hi hx r1 (fun s2 I2 => ⟨_, H1, I2, q1⟩) hf
def tAugS (to ti te : TE) (tget : V -> V -> Hp -> VK -> Prop) (tip : TIp) (tset : TSet) : TS := fun D σ H => to σ H fun o H1 => ti σ H1 fun i H2 => tget o i H2 fun x H3 => te σ H3 fun y H4 => tip x y H4 fun z H5 => tset o i z H5 fun H6 => D.nx σ H6
def ipI (f : Int -> Int -> Int) : TIp := fun x y H Q => ∃ i j, x = .int i /\ y = .int j /\ Q (.int (f i j)) H
end
section
variable {X : Cx} {pos : Pos}
end
structure It where
  go : Nat -> Hp -> Prop
  yld : Nat -> Hp -> V -> Hp -> Prop
  stop : Nat -> Hp -> Prop
def FpOk (X : Cx) (pins : List (Addr × Obj)) (H : Hp) (b : Addr) : Prop :=
  H b = none /\ b ≠ X.env.locals /\ b ∉ X.fs /\ (b ∈ X.ex \/ X.s₀.heap.objs.size <= b) /\ (∀ x c, X.env.cells.lookup x = some c -> c ≠ b) /\ ∀ p ∈ X.pn ++ pins, p.1 ≠ b
theorem Inv.fpOk {X : Cx} {pins : List (Addr × Obj)} {σ : St} {H H' : Hp} {s : Shared} {b : Addr} (I : Inv X pins σ H s) (hb : s.heap.objs.size <= b) (hn : H' b = none) : FpOk X pins H' b := by
  refine ⟨hn, Yl (Zh I.lt hb), I.nofs hb, .inr (Zd I.sz hb), fun x c e z => ?_, fun p hp z => ?_⟩
  . obtain ⟨v, q⟩ := I.cell x c e
    exact absurd (Zh q.lt (by rw [z]; exact hb)) (ZJ _)
  . exact absurd (Zh (Heap.lt_size (I.pin p hp).1) (by rw [z]; exact hb)) (ZJ _)
structure Turn (P : Program) (w : World) (K : Fg) (tg : Expr) (J : It) (fp : List Addr) (it : Addr) (tn : Nat -> Heap -> Prop) : Prop where
  mem : it ∈ fp
  obj : ∀ i h, tn i h -> ∀ b ∈ fp, ∃ o, h.get? b = some o /\ ∀ v, o.data ≠ .cell v
  keep : ∀ i h h', tn i h -> (∀ b ∈ fp, ∀ o, h.get? b = some o -> h'.get? b = some o) -> tn i h'
  item : ∀ (X : Cx), X.prog = P -> X.w = w -> X.K = K -> X.calm = true -> ∀ (i : Nat) (pins : List (Addr × Obj)) (s : Shared) (σ : St) (H : Hp) (E : Value -> Shared -> Prop), Inv X pins σ H s -> (∀ b ∈ fp, FpOk X pins H b) -> tn i s.heap -> J.go i H ->
    wpAny (model P w) X.A (pyNext (.ref it)) (fun r s1 => ∃ u, r = some u /\
      wpAny (model P w) X.A (letOwnedTupleGo tg (.ref it) u) (fun _ s2 => ∃ x H', Inv X pins σ H' s2 /\ RelV x u /\ J.yld i H x H' /\ tn (i + 1) s2.heap /\ ∀ b ∈ fp, H' b = none) E s1) E s
  done : ∀ (X : Cx), X.prog = P -> X.w = w -> X.K = K -> X.calm = true -> ∀ (i : Nat) (pins : List (Addr × Obj)) (s : Shared) (σ : St) (H : Hp) (E : Value -> Shared -> Prop), Inv X pins σ H s -> (∀ b ∈ fp, FpOk X pins H b) -> tn i s.heap -> J.stop i H ->
    wpAny (model P w) X.A (pyNext (.ref it)) (fun r s1 => r = none /\ Inv X pins σ H s1) E s
  self : ∀ (A : Around) (i : Nat) (s : Shared) (Q : Value -> Shared -> Prop) (E : Value -> Shared -> Prop), tn i s.heap -> Q (.ref it) s -> wpAny (model P w) A (pyIter (.ref it)) Q E s
abbrev TI := St -> Hp -> (It -> Hp -> Prop) -> Prop
def PIE (X : Cx) (pins : List (Addr × Obj)) (σ : St) (tg : Expr) (R : It -> Hp -> Prop) (itv : Value) (s2 : Shared) : Prop :=
  ∃ (it : Addr) (fp : List Addr) (tn : Nat -> Heap -> Prop) (J : It) (H' : Hp), itv = .ref it /\ Inv X pins σ H' s2 /\ Turn X.prog X.w X.K tg J fp it tn /\ tn 0 s2.heap /\ (∀ b ∈ fp, FpOk X pins H' b) /\ R J H'
def PI (X : Cx) (tg iter : Expr) (wi : TI) : Prop :=
  ∀ (pins : List (Addr × Obj)) (s : Shared) (σ : St) (H : Hp) (R : It -> Hp -> Prop), Inv X pins σ H s -> wi σ H R ->
    wpAny (model X.prog X.w) X.A (eval iter X.env) (fun v s1 => wpAny (model X.prog X.w) X.A (pyIter v) (PIE X pins σ tg R) X.xe s1) X.xe s
theorem gq {M : Model} {A : Around} {E : Value -> Shared -> Prop} {s : Shared} {tg : Expr} {it : Addr} {u : Value} {o : Obj} {n : String} {vs : Array Value} {Q : Unit -> Shared -> Prop} (ho : s.heap.get? it = some o) (hc : o.cls = .type n) (hd : o.data = .fields vs)
    (hn : ["enumerate", "zip", "dict_itemiterator", "dict_reverseitemiterator", "odict_iterator", "itertools.zip_longest", "itertools.pairwise"].contains n = false) (hQ : Q () s) : wpAny M A (letOwnedTupleGo tg (.ref it) u) Q E s := by
  unfold letOwnedTupleGo
  cases tg <;> first
    | exact wpAny_pure hQ
    | (cases u <;> first
        | exact wpAny_pure hQ
        | (refine wpAny_bind (wpAny_load ho ?_)
           rw [hc, hd]
           show wpAny M A (if (["enumerate", "zip", "dict_itemiterator", "dict_reverseitemiterator", "odict_iterator", "itertools.zip_longest", "itertools.pairwise"].contains n && vs[0]? == some (rawInt _)) = true then _ else _) Q E s
           rw [if_neg (by intro h; rw [hn, Bool.false_and] at h; cases h)]
           exact wpAny_pure hQ))
def Itl (K : Fg) (a : Addr) : It :=
  ⟨fun i H => ∃ xs x, SqL K H a xs /\ xs[i]? = some x, fun i H x H' => H' = H /\ ∀ xs, SqL K H a xs -> xs[i]? = some x, fun i H => ∃ xs, SqL K H a xs /\ xs.length <= i⟩
def Itt (K : Fg) (a : Addr) : It :=
  ⟨fun i H => ∃ xs x, SqT K H a xs /\ xs[i]? = some x, fun i H x H' => H' = H /\ ∀ xs, SqT K H a xs -> xs[i]? = some x, fun i H => ∃ xs, SqT K H a xs /\ xs.length <= i⟩
def Itr (lo : Int) (n : Nat) : It := ⟨fun i _ => i < n, fun i H x H' => H' = H /\ x = .int (lo + i), fun i _ => n <= i⟩
theorem ze1 {P : Program} {w : World} {K : Fg} {tg : Expr} (a it : Addr) : Turn P w K tg (Itl K a) [it] it (fun i h => h.IsListIter it a i) where
  mem := by simp
  obj := fun i h st b hb => by
    have e : b = it := by simpa using hb
    subst e;obtain ⟨o, e, c, d⟩ := st;exact ⟨o, e, fun v z => by rw [d] at z; cases z⟩
  keep := fun i h h' st k => st.at fun o e => k it (by simp) o e
  item := by
    intro X hP hw hK hc i pins s σ H E I hf st hg;subst hP hw hK;obtain ⟨xs, x, hq, hx⟩ := hg;obtain ⟨its, rv, p, hz⟩ := I.list hq;obtain ⟨u, hu, ru⟩ := rv.get hx;obtain ⟨f0, f1, f2, f3, f4, f5⟩ := hf it (by simp);refine wpAny_pyNext_list_item st p.isList (x := u) (by simpa using hu) fun h' st' sb => ?_
    have I1 : Inv X pins σ H { s with heap := h' } := I.turned (t' := s.toks) (fun b o hb e => (sb.2 b hb).trans e) f0 f1 f3 f4 f5;obtain ⟨o, e, c, d⟩ := id st';exact ⟨u, rfl, gq (s := { s with heap := h' }) e c d (by decide) ⟨x, H, I1, ru, ⟨rfl, fun ys hy => by rw [I.list_inj hy hq]; exact hx⟩, st', fun b hb => (hf b hb).1⟩⟩
  done := by
    intro X hP hw hK hc i pins s σ H E I hf st hg;subst hP hw hK;obtain ⟨xs, hq, hx⟩ := hg;obtain ⟨its, rv, p, hz⟩ := I.list hq;obtain ⟨f0, f1, f2, f3, f4, f5⟩ := hf it (by simp);have hl := rv.length;exact wpAny_pyNext_list_end (I.ok.hd hc) st p.isList (by simp; omega) fun h' eb => ⟨rfl, I.turned (t' := s.toks) (fun b o hb e => eb b o hb e) f0 f1 f3 f4 f5⟩
  self := fun _ _ _ _ _ st h => wpAny_pyIter_listiter st h
theorem zb8 {P : Program} {w : World} {K : Fg} {tg : Expr} (a it : Addr) : Turn P w K tg (Itt K a) [it] it (fun i h => h.IsTupleIter it a i) where
  mem := by simp
  obj := fun i h st b hb => by
    have e : b = it := by simpa using hb
    subst e;obtain ⟨o, e, c, d⟩ := st;exact ⟨o, e, fun v z => by rw [d] at z; cases z⟩
  keep := fun i h h' st k => st.at fun o e => k it (by simp) o e
  item := by
    intro X hP hw hK hc i pins s σ H E I hf st hg;subst hP hw hK;obtain ⟨xs, x, hq, hx⟩ := hg;obtain ⟨its, rv, p, hz⟩ := I.tuple hq;obtain ⟨u, hu, ru⟩ := rv.get hx;obtain ⟨f0, f1, f2, f3, f4, f5⟩ := hf it (by simp);refine wpAny_pyNext_tuple_item st (show s.heap.IsTuple a its.toArray from p) (x := u) (by simpa using hu) fun h' st' sb => ?_
    have I1 : Inv X pins σ H { s with heap := h' } := I.turned (t' := s.toks) (fun b o hb e => (sb.2 b hb).trans e) f0 f1 f3 f4 f5;obtain ⟨o, e, c, d⟩ := id st';exact ⟨u, rfl, gq (s := { s with heap := h' }) e c d (by decide) ⟨x, H, I1, ru, ⟨rfl, fun ys hy => by rw [I.tuple_inj hy hq]; exact hx⟩, st', fun b hb => (hf b hb).1⟩⟩
  done := by
    intro X hP hw hK hc i pins s σ H E I hf st hg;subst hP hw hK;obtain ⟨xs, hq, hx⟩ := hg;obtain ⟨its, rv, p, hz⟩ := I.tuple hq;obtain ⟨f0, f1, f2, f3, f4, f5⟩ := hf it (by simp);have hl := rv.length;exact wpAny_pyNext_tuple_end (I.ok.hd hc) st (show s.heap.IsTuple a its.toArray from p) (by simp; omega) fun h' eb => ⟨rfl, I.turned (t' := s.toks) (fun b o hb e => eb b o hb e) f0 f1 f3 f4 f5⟩
  self := fun _ _ _ _ _ st h => wpAny_pyIter_tupleiter st h
theorem zco {P : Program} {w : World} {K : Fg} {tg : Expr} (it : Addr) (lo : Int) (n : Nat) : Turn P w K tg (Itr lo n) [it] it (fun i h => IsRangeIter h it (lo + (i : Nat) * 1) ((n : Int) - (i : Nat)) 1) where
  mem := by simp
  obj := fun i h st b hb => by
    have e : b = it := by simpa using hb
    subst e
    exact ⟨_, st, fun v z => by
      have z' : Data.fields _ = Data.cell v := z
      cases z'⟩
  keep := fun i h h' st k => k it (by simp) _ st
  item := by
    intro X hP hw hK hc i pins s σ H E I hf st hg;subst hP hw hK;obtain ⟨f0, f1, f2, f3, f4, f5⟩ := hf it (by simp);have W := Walks.range (prog := X.prog) (w := X.w) (I.ok.hd hc) it lo 1 n;refine W.item i s _ _ hg st fun v h' tk hv st' kk => ?_
    obtain ⟨t, rfl⟩ := hv;have I1 : Inv X pins σ H { s with heap := h', toks := tk } := I.turned (fun b o hb e => kk b o (by simpa using hb) e) f0 f1 f3 f4 f5;refine ⟨_, rfl, gq (s := { s with heap := h', toks := tk }) (n := "range_iterator") st' rfl rfl (by decide) ⟨.int (lo + i), H, I1, ⟨t, ?_⟩, ⟨rfl, rfl⟩, st', fun b hb => (hf b hb).1⟩⟩;rw [Int.mul_one]
  done := by
    intro X hP hw hK hc i pins s σ H E I hf st hg;subst hP hw hK;obtain ⟨f0, f1, f2, f3, f4, f5⟩ := hf it (by simp);exact wpAny_pyNext_range_end (I.ok.hd hc) st (by have : n <= i := hg; omega) fun h' eb => ⟨rfl, I.turned (t' := s.toks) (fun b o hb e => eb b o hb e) f0 f1 f3 f4 f5⟩
  self := fun _ _ _ _ _ st h => wpAny_pyIter_rangeiter st h
end L2
namespace L2
open PySem PySem.Spec PyProof.Rows
section
variable {X : Cx} {tg : Expr}
def iList (K : Fg) (tl : TE) : TI := fun σ H R => tl σ H fun x H1 => ∃ a, x = .ref a /\ (∃ xs, SqL K H1 a xs) /\ R (Itl K a) H1
def iTup (K : Fg) (tl : TE) : TI := fun σ H R => tl σ H fun x H1 => ∃ a, x = .ref a /\ (∃ xs, SqT K H1 a xs) /\ R (Itt K a) H1
theorem yz {l : Expr} {tl : TE} (hl : PE X l tl) : PI X tg l (iList X.K tl) := by
  intro pins s σ H R I h;refine thn (hl pins s σ H _ I h) fun v s1 ⟨x, H1, I1, r1, q1⟩ => ?_
  obtain ⟨a, e, ⟨xs, hq⟩, q⟩ := q1;subst e;cases r1;obtain ⟨its, rv, p, hz⟩ := I1.list hq;refine wpAny_pyIter_list p.isList ?_;refine ⟨s1.heap.objs.size, [s1.heap.objs.size], _, _, H1, rfl, I1.kept (t' := s1.toks) fun b o e => Heap.get?_push_of_some _ e, ze1 a _, ⟨_, Heap.get?_push_size _ rfl, rfl, rfl⟩, fun b hb => ?_, q⟩;have e : b = s1.heap.objs.size := by simpa using hb
  subst e;exact I1.fpOk (Zm _) (I1.hok.fresh (Zm _))
theorem zdn {l : Expr} {tl : TE} (hl : PE X l tl) : PI X tg l (iTup X.K tl) := by
  intro pins s σ H R I h;refine thn (hl pins s σ H _ I h) fun v s1 ⟨x, H1, I1, r1, q1⟩ => ?_
  obtain ⟨a, e, ⟨xs, hq⟩, q⟩ := q1;subst e;cases r1;obtain ⟨its, rv, p, hz⟩ := I1.tuple hq;refine wpAny_pyIter_tuple (show s1.heap.IsTuple a its.toArray from p) ?_;refine ⟨s1.heap.objs.size, [s1.heap.objs.size], _, _, H1, rfl, I1.kept (t' := s1.toks) fun b o e => Heap.get?_push_of_some _ e, zb8 a _, ⟨_, Heap.get?_push_size _ rfl, rfl, rfl⟩, fun b hb => ?_, q⟩;have e : b = s1.heap.objs.size := by simpa using hb
  subst e;exact I1.fpOk (Zm _) (I1.hok.fresh (Zm _))
theorem zgw {pins : List (Addr × Obj)} {σ : St} {H : Hp} {s : Shared} {R : It -> Hp -> Prop} {E : Value -> Shared -> Prop} {lo hi : Int} {t u v : Tok} {tk : Nat} (I : Inv X pins σ H s) (h1 : -(2 ^ 62) <= lo) (h2 : lo < 2 ^ 62) (h3 : -(2 ^ 62) <= hi) (h4 : hi < 2 ^ 62)
    (q : R (Itr lo (hi - lo).toNat) H) : wpAny (model X.prog X.w) X.A (pyIter (.ref s.heap.objs.size)) (PIE X pins σ tg R) E { s with heap := s.heap.push { cls := .type "range", data := .fields #[.int lo t, .int hi u, .int 1 v] }, toks := tk } := by
  refine wpAny_pyIter_range (IsRange.new ..) (small_one h1 h2 h3 h4) ?_;have I1 : Inv X pins σ H { s with heap := s.heap.push { cls := .type "range", data := .fields #[.int lo t, .int hi u, .int 1 v] }, toks := tk } := I.kept fun b o e => Heap.get?_push_of_some _ e
  refine ⟨(s.heap.push { cls := .type "range", data := .fields #[.int lo t, .int hi u, .int 1 v] }).objs.size, [(s.heap.push { cls := .type "range", data := .fields #[.int lo t, .int hi u, .int 1 v] }).objs.size], _, _, H, rfl,
    I1.kept (t' := tk) fun b o e => Heap.get?_push_of_some _ e, zco _ lo (hi - lo).toNat, ?_, fun b hb => ?_, q⟩
  . have e1 : lo + ((0 : Nat) : Int) * 1 = lo := by simp
    have e2 : (((hi - lo).toNat : Nat) : Int) - ((0 : Nat) : Int) = Builtin.Range.rangeSize lo hi 1 := by rw [rangeSize_one]; split <;> omega
    show IsRangeIter _ _ (lo + ((0 : Nat) : Int) * 1) ((((hi - lo).toNat : Nat) : Int) - ((0 : Nat) : Int)) 1
    rw [e1, e2];exact Heap.get?_push_size _ rfl
  . have e : b = (s.heap.push { cls := .type "range", data := .fields #[.int lo t, .int hi u, .int 1 v] }).objs.size := by simpa using hb
    subst e;exact I1.fpOk (Zm _) (I1.hok.fresh (Zm _))
def iRng1 (ta : TA) : TI := fun σ H R => ta σ H fun vs H1 => ∃ j : Int, vs = [.int j] /\ -(2 ^ 62) <= j /\ j < 2 ^ 62 /\ R (Itr 0 j.toNat) H1
def iRng2 (ta : TA) : TI := fun σ H R => ta σ H fun vs H1 => ∃ i j : Int, vs = [.int i, .int j] /\ (-(2 ^ 62) <= i /\ i < 2 ^ 62 /\ -(2 ^ 62) <= j /\ j < 2 ^ 62) /\ R (Itr i (j - i).toNat) H1
theorem rn {a : Expr} {ta : TA} {p pos : Pos} (hg : Gl X "range") (hm : X.mg "range" = none) (ha : PA X [a] ta) (hs : starEach [a] X.env = [(false, eval a X.env)] := by rfl) : PI X tg (.Call (.Name "range" p) [a] [] pos) (iRng1 ta) := by
  intro pins s σ H R I h;refine Call_ (r6 I hg hm boot_range (PyProof.Rows.callWith_type1 (thn (ha pos pins s σ H _ I h) fun us s1 ⟨vs, H1, I1, r1, q1⟩ => ?_) hs rfl));obtain ⟨j, e, q1, q2, q⟩ := q1;subst e
  cases r1 with
  | cons r rr =>
    cases rr;obtain ⟨t, rfl⟩ := r;exact call_range_1 (zgw I1 (by omega) (by omega) q1 q2 (by simpa using q))
def tFor (wi : TI) (g : TG) (tb : TS) : TS := fun D σ H => wi σ H fun J H1 => ∃ W : Nat -> Nat -> St -> Hp -> Prop, (∃ m, W 0 m σ H1) /\ ∀ i m σ H, W i m σ H ->
  (J.stop i H /\ D.nx σ H) \/ (J.go i H /\ ∃ N : St -> Hp -> Prop, (∀ σ' H', N σ' H' -> ∃ m', m' < m /\ W (i + 1) m' σ' H') /\ ∀ x H', J.yld i H x H' -> g x σ H' fun σ2 H2 => tb { D with nx := N, ct := N, bk := D.nx } σ2 H2)
def l7 (fp : List Addr) (h : Heap) : List (Addr × Obj) := fp.filterMap fun b => (h.get? b).map fun o => (b, o)
theorem u6 {fp : List Addr} {h : Heap} {b : Addr} {o : Obj} (hb : b ∈ fp) (e : h.get? b = some o) : (b, o) ∈ l7 fp h := Yp.mpr ⟨b, hb, by rw [e]; rfl⟩
theorem zet {fp : List Addr} {h : Heap} {p : Addr × Obj} (hp : p ∈ l7 fp h) : p.1 ∈ fp /\ h.get? p.1 = some p.2 := by
  obtain ⟨b, hb, e⟩ := Yp.mp hp
  cases q : h.get? b with
  | none => rw [q] at e; cases e
  | some o =>
    rw [q] at e;have e' : (b, o) = p := Option.some.inj e;subst e';exact ⟨hb, q⟩
theorem Inv.pinned {pins : List (Addr × Obj)} {σ : St} {H : Hp} {s : Shared} {fp : List Addr} (I : Inv X pins σ H s) (hf : ∀ b ∈ fp, FpOk X pins H b) (ho : ∀ b ∈ fp, ∃ o, s.heap.get? b = some o /\ ∀ v, o.data ≠ .cell v) : Inv X (pins ++ l7 fp s.heap) σ H s :=
  I.pins_of fun p hp => (ZH.mp hp).elim (fun z => I.pin p (Zu _ z)) fun z => by
    obtain ⟨hb, e⟩ := zet z;obtain ⟨f0, f1, f2, _⟩ := hf p.1 hb;obtain ⟨o, e', d⟩ := ho p.1 hb;rw [e] at e'; cases e';exact ⟨e, f0, f1, f2, d⟩
theorem Inv.unpinned {pins pl : List (Addr × Obj)} {σ : St} {H : Hp} {s : Shared} (I : Inv X (pins ++ pl) σ H s) : Inv X pins σ H s := I.pins_of fun p hp => I.pin p (Zu _ (Yi _ hp))
theorem ul {iter : Expr} {body : List Stmt} {wi : TI} {g : TG} {tb : TS} {pos : Pos} (hp : PassesOwn (model X.prog X.w) X.A X.env X.xe) (hc : X.calm = true) (hi : PI X tg iter wi) (hg : PG X tg g) (hb : PSs X body tb)
    (hs : ∀ x, foldedSetIterable iter X.env x = pure x := by intro _; rfl) : PS X (.For tg iter body [] pos) (tFor wi g tb) := by
  intro pins s σ H D I h;refine wpAny_For (thn (hi pins s σ H _ I h) fun v s1 h1 => thn h1 fun itv s2 h2 => ?_) hs;obtain ⟨it, fp, tn, J, H2, e, I2, T, st2, f2, W, ⟨m0, w0⟩, turn⟩ := h2;subst e
  -- what stays true of the iterator's objects through the loop
  have stat : ∀ {H' : Hp}, (∀ b ∈ fp, H' b = none) -> ∀ b ∈ fp, FpOk X pins H' b := fun hn b hb => ⟨hn b hb, (f2 b hb).2⟩
  refine codeAny_forLoop_any (fun n s' => ∃ i σ' H', Inv X pins σ' H' s' /\ tn i s'.heap /\ (∀ b ∈ fp, H' b = none) /\ W i n σ' H') ?_ m0 ⟨0, σ, H2, I2, st2, fun b hb => (f2 b hb).1, w0⟩
  rintro n s3 ⟨i, σ3, H3, I3, st3, fr3, w3⟩
  rcases turn i n σ3 H3 w3 with ⟨stop, qn⟩ | ⟨go, N, hN, step⟩
  . refine wpAny_passesOwn hp (thn (T.done X rfl rfl rfl hc i pins s3 σ3 H3 X.xe I3 (stat fr3) st3 stop) fun r s4 ⟨hr, I4⟩ => ?_)
    subst hr;exact wpAny_execs_nil ⟨σ3, H3, I4, qn⟩
  . refine wpAny_passesOwn hp (thn (T.item X rfl rfl rfl hc i pins s3 σ3 H3 X.xe I3 (stat fr3) st3 go) fun r s4 ⟨u, hr, h4⟩ => ?_)
    subst hr;refine wpAny_passesOwn hp (thn h4 fun _ s5 ⟨x, H5, I5, r5, y5, st5, fr5⟩ => ?_);have I5' := I5.pinned (stat fr5) (T.obj _ _ st5);refine wpAny_passesOwn hp (thn (hg _ s5 σ3 H5 x u _ I5' r5 (step x H5 y5)) fun _ s6 ⟨σ6, H6, I6, q6⟩ => ?_);refine wpAny_passesOwn hp (thn (hb _ s6 σ6 H6 _ I6 q6) fun f s7 q7 => ?_)
    have again : ∀ {σ7 : St} {H7 : Hp}, Inv X (pins ++ l7 fp s5.heap) σ7 H7 s7 -> N σ7 H7 -> ∃ m, m < n /\ ∃ i σ' H', Inv X pins σ' H' s7 /\ tn i s7.heap /\ (∀ b ∈ fp, H' b = none) /\ W i m σ' H' := fun {σ7 H7} I7 n7 => by
      obtain ⟨m', hm, w7⟩ := hN σ7 H7 n7;refine ⟨m', hm, i + 1, σ7, H7, I7.unpinned, T.keep _ _ _ st5 fun b hb o e => (I7.pin (b, o) (Zu _ (Zu _ (u6 hb e)))).1, fun b hb => ?_, w7⟩;obtain ⟨o, e, d⟩ := T.obj _ _ st5 b hb;exact (I7.pin (b, o) (Zu _ (Zu _ (u6 hb e)))).2.1
    cases f with
    | next => obtain ⟨σ7, H7, I7, n7⟩ := q7; exact again I7 n7
    | cont => obtain ⟨σ7, H7, I7, n7⟩ := q7; exact again I7 n7
    | brk => obtain ⟨σ7, H7, I7, q7⟩ := q7; exact ⟨σ7, H7, I7.unpinned, q7⟩
    | ret v => obtain ⟨x7, σ7, H7, I7, r7, q7⟩ := q7; exact ⟨x7, σ7, H7, I7.unpinned, r7, q7⟩
end
theorem sd {K : Fg} {a : Addr} {xs : List V} {g : TG} {tb : TS} {D : Ends} {σ : St} {H : Hp} (Pv : Nat -> St -> Hp -> Prop) (h0 : Pv 0 σ H) (hl : ∀ i σ H, i <= xs.length -> Pv i σ H -> SqL K H a xs)
    (hs : ∀ i x σ H, xs[i]? = some x -> Pv i σ H -> g x σ H fun σ2 H2 => tb { D with nx := Pv (i + 1), ct := Pv (i + 1), bk := D.nx } σ2 H2) (hd : ∀ σ H, Pv xs.length σ H -> D.nx σ H) :
    ∃ W : Nat -> Nat -> St -> Hp -> Prop, (∃ m, W 0 m σ H) /\ ∀ i m σ H, W i m σ H ->
      ((Itl K a).stop i H /\ D.nx σ H) \/ ((Itl K a).go i H /\ ∃ N : St -> Hp -> Prop, (∀ σ' H', N σ' H' -> ∃ m', m' < m /\ W (i + 1) m' σ' H') /\ ∀ x H', (Itl K a).yld i H x H' -> g x σ H' fun σ2 H2 => tb { D with nx := N, ct := N, bk := D.nx } σ2 H2) := by
  refine ⟨fun i m σ H => m = xs.length - i /\ i <= xs.length /\ Pv i σ H, ⟨xs.length, by simp, ZE _, h0⟩, ?_⟩
  rintro i m σ H ⟨rfl, hi, p⟩
  have q := hl i σ H hi p
  by_cases hlt : i < xs.length
  . refine .inr ⟨⟨xs, xs[i], q, by simp [hlt]⟩, Pv (i + 1), fun σ' H' p' => ⟨xs.length - (i + 1), by omega, rfl, hlt, p'⟩, fun x H' y => ?_⟩
    obtain ⟨e, y⟩ := y;subst e;exact hs i x σ _ (y xs q) p
  . have e : i = xs.length := by omega
    subst e;exact .inl ⟨⟨xs, q, Zm _⟩, hd σ H p⟩
theorem zg0 {K : Fg} {a : Addr} {xs : List V} {g : TG} {tb : TS} {D : Ends} {σ : St} {H : Hp} (Pv : Nat -> St -> Hp -> Prop) (h0 : Pv 0 σ H) (hl : ∀ i σ H, i <= xs.length -> Pv i σ H -> SqT K H a xs)
    (hs : ∀ i x σ H, xs[i]? = some x -> Pv i σ H -> g x σ H fun σ2 H2 => tb { D with nx := Pv (i + 1), ct := Pv (i + 1), bk := D.nx } σ2 H2) (hd : ∀ σ H, Pv xs.length σ H -> D.nx σ H) :
    ∃ W : Nat -> Nat -> St -> Hp -> Prop, (∃ m, W 0 m σ H) /\ ∀ i m σ H, W i m σ H ->
      ((Itt K a).stop i H /\ D.nx σ H) \/ ((Itt K a).go i H /\ ∃ N : St -> Hp -> Prop, (∀ σ' H', N σ' H' -> ∃ m', m' < m /\ W (i + 1) m' σ' H') /\ ∀ x H', (Itt K a).yld i H x H' -> g x σ H' fun σ2 H2 => tb { D with nx := N, ct := N, bk := D.nx } σ2 H2) := by
  refine ⟨fun i m σ H => m = xs.length - i /\ i <= xs.length /\ Pv i σ H, ⟨xs.length, by simp, ZE _, h0⟩, ?_⟩
  rintro i m σ H ⟨rfl, hi, p⟩
  have q := hl i σ H hi p
  by_cases hlt : i < xs.length
  . refine .inr ⟨⟨xs, xs[i], q, by simp [hlt]⟩, Pv (i + 1), fun σ' H' p' => ⟨xs.length - (i + 1), by omega, rfl, hlt, p'⟩, fun x H' y => ?_⟩
    obtain ⟨e, y⟩ := y;subst e;exact hs i x σ _ (y xs q) p
  . have e : i = xs.length := by omega
    subst e;exact .inl ⟨⟨xs, q, Zm _⟩, hd σ H p⟩
theorem di {lo : Int} {n : Nat} {g : TG} {tb : TS} {D : Ends} {σ : St} {H : Hp} (Pv : Nat -> St -> Hp -> Prop) (h0 : Pv 0 σ H)
    (hs : ∀ i σ H, i < n -> Pv i σ H -> g (.int (lo + i)) σ H fun σ2 H2 => tb { D with nx := Pv (i + 1), ct := Pv (i + 1), bk := D.nx } σ2 H2) (hd : ∀ σ H, Pv n σ H -> D.nx σ H) :
    ∃ W : Nat -> Nat -> St -> Hp -> Prop, (∃ m, W 0 m σ H) /\ ∀ i m σ H, W i m σ H ->
      ((Itr lo n).stop i H /\ D.nx σ H) \/ ((Itr lo n).go i H /\ ∃ N : St -> Hp -> Prop, (∀ σ' H', N σ' H' -> ∃ m', m' < m /\ W (i + 1) m' σ' H') /\ ∀ x H', (Itr lo n).yld i H x H' -> g x σ H' fun σ2 H2 => tb { D with nx := N, ct := N, bk := D.nx } σ2 H2) := by
  refine ⟨fun i m σ H => m = n - i /\ i <= n /\ Pv i σ H, ⟨n, by simp, ZE _, h0⟩, ?_⟩
  rintro i m σ H ⟨rfl, hi, p⟩
  by_cases hlt : i < n
  . refine .inr ⟨hlt, Pv (i + 1), fun σ' H' p' => ⟨n - (i + 1), by omega, rfl, hlt, p'⟩, fun x H' y => ?_⟩
    obtain ⟨e, y⟩ := y;subst e y;exact hs i σ _ hlt p
  . have e : i = n := by omega
    subst e;exact .inl ⟨Zm _, hd σ H p⟩
end L2
namespace L2
open PySem PySem.Spec PyProof.Rows
abbrev R2 := V -> V -> Hp -> VK -> Prop
def OpR (X : Cx) (f : Value -> Value -> Sem Value) (r : R2) : Prop :=
  ∀ (pins : List (Addr × Obj)) (s : Shared) (σ : St) (H : Hp) (x y : V) (v u : Value) (Q : VK), Inv X pins σ H s -> RelV x v -> RelV y u -> r x y H Q ->
    wpAny (model X.prog X.w) X.A (f v u) (EP X pins σ Q) X.xe s
def CallR (X : Cx) (f : Value) (r : List V -> Hp -> VK -> Prop) : Prop :=
  ∀ (pins : List (Addr × Obj)) (s : Shared) (σ : St) (H : Hp) (xs : List V) (us : List Value) (Q : VK), Inv X pins σ H s -> Vals xs us -> r xs H Q ->
    wpAny (model X.prog X.w) X.A (call f us) (EP X pins σ Q) X.xe s
def tOp (r : R2) (ta tb : TE) : TE := fun σ H Q => ta σ H fun x H1 => tb σ H1 fun y H2 => r x y H2 Q
def tUn (r : V -> Hp -> VK -> Prop) (ta : TE) : TE := fun σ H Q => ta σ H fun x H1 => r x H1 Q
def rI (C : Int -> Int -> Prop) (g : Int -> Int -> V) : R2 := fun x y H Q => ∃ i j, x = .int i /\ y = .int j /\ C i j /\ Q (g i j) H
def rI0 (g : Int -> Int -> V) : R2 := fun x y H Q => ∃ i j, x = .int i /\ y = .int j /\ Q (g i j) H
def rU (g : Int -> V) : V -> Hp -> VK -> Prop := fun x H Q => ∃ i, x = .int i /\ Q (g i) H
section
variable {X : Cx} {a b c : Expr} {ta tb tc : TE} {pos : Pos}
theorem binT (ha : PE X a ta) (hb : PE X b tb) {pins : List (Addr × Obj)} {s : Shared} {σ : St} {H : Hp} {R : V -> V -> Hp -> Prop} (I : Inv X pins σ H s)
    (h : ta σ H fun x H1 => tb σ H1 fun y H2 => R x y H2) {Q : Value -> Shared -> Prop} {f : Value -> Value -> Sem Value}
    (hf : ∀ v u s2 x y H2, Inv X pins σ H2 s2 -> RelV x v -> RelV y u -> R x y H2 -> wpAny (model X.prog X.w) X.A (f v u) Q X.xe s2) :
    wpAny (model X.prog X.w) X.A (eval a X.env) (fun v s₁ => wpAny (model X.prog X.w) X.A (eval b X.env) (fun u s₂ => wpAny (model X.prog X.w) X.A (f v u) Q X.xe s₂) X.xe s₁) X.xe s := by
  refine thn (ha pins s σ H _ I h) fun v s1 ⟨x, H1, I1, r1, q1⟩ => ?_
  refine thn (hb pins s1 σ H1 _ I1 q1) fun u s2 ⟨y, H2, I2, r2, q2⟩ => ?_
  exact hf v u s2 x y H2 I2 r1 r2 q2
theorem zg {op : Operator} {r : R2} (ho : OpR X (binaryOp op) r) (ha : PE X a ta) (hb : PE X b tb) : PE X (.BinOp a op b pos) (tOp r ta tb) := by
  intro pins s σ H Q I h;exact wpAny_BinOp (binT ha hb I h fun v u s2 x y H2 I2 rx ry q => ho pins s2 σ H2 x y v u Q I2 rx ry q)
theorem opI {f : Value -> Value -> Sem Value} {C : Int -> Int -> Prop} {g : Int -> Int -> Int}
    (rule : ∀ (i j : Int) (t u : Tok) (s : Shared) (Q : Value -> Shared -> Prop) (E : Value -> Shared -> Prop), C i j -> Q (.int (g i j) s.toks) { s with toks := s.toks + 1 } -> wpAny (model X.prog X.w) X.A (f (.int i t) (.int j u)) Q E s) :
    OpR X f (rI C fun i j => .int (g i j)) := by
  intro pins s σ H x y v u Q I rx ry h;obtain ⟨i, j, rfl, rfl, hc, q⟩ := h;obtain ⟨t, rfl⟩ := rx;obtain ⟨t', rfl⟩ := ry;exact rule i j t t' s _ _ hc ⟨.int (g i j), H, I.tok _, ⟨_, rfl⟩, q⟩
theorem opI0 {f : Value -> Value -> Sem Value} {g : Int -> Int -> Int}
    (rule : ∀ (i j : Int) (t u : Tok) (s : Shared) (Q : Value -> Shared -> Prop) (E : Value -> Shared -> Prop), Q (.int (g i j) s.toks) { s with toks := s.toks + 1 } -> wpAny (model X.prog X.w) X.A (f (.int i t) (.int j u)) Q E s) :
    OpR X f (rI0 fun i j => .int (g i j)) := by
  intro pins s σ H x y v u Q I rx ry h;obtain ⟨i, j, rfl, rfl, q⟩ := h;obtain ⟨t, rfl⟩ := rx;obtain ⟨t', rfl⟩ := ry;exact rule i j t t' s _ _ ⟨.int (g i j), H, I.tok _, ⟨_, rfl⟩, q⟩
theorem opB0 {f : Value -> Value -> Sem Value} {g : Int -> Int -> Bool}
    (rule : ∀ (i j : Int) (t u : Tok) (s : Shared) (Q : Value -> Shared -> Prop) (E : Value -> Shared -> Prop), Q (.bool (g i j)) s -> wpAny (model X.prog X.w) X.A (f (.int i t) (.int j u)) Q E s) :
    OpR X f (rI0 fun i j => .bl (g i j)) := by
  intro pins s σ H x y v u Q I rx ry h;obtain ⟨i, j, rfl, rfl, q⟩ := h;obtain ⟨t, rfl⟩ := rx;obtain ⟨t', rfl⟩ := ry;exact rule i j t t' s _ _ ⟨.bl (g i j), H, I, rfl, q⟩
def CDiv (i j : Int) : Prop := 0 < j /\ j < 1073741824
def CPow (i j : Int) : Prop := 0 <= j /\ j <= 1000000 /\ i.natAbs < 2 ^ 64
def CMul (i j : Int) : Prop := (-(2 ^ 64) < i /\ i < 2 ^ 64) \/ (-(2 ^ 64) < j /\ j < 2 ^ 64)
theorem CMul.ok {i j : Int} (h : CMul i j) : IntMulOk i j := by
  rcases h with ⟨h1, h2⟩ | ⟨h1, h2⟩
  . exact .of_left (intBits_le_64 h1 h2)
  . exact .of_right (intBits_le_64 h1 h2)
theorem y4 : OpR X (binaryOp .Add) (rI0 fun i j => .int (i + j)) := opI0 fun _ _ _ _ _ _ _ q => add_int q
theorem ww : OpR X (binaryOp .Sub) (rI0 fun i j => .int (i - j)) := opI0 fun _ _ _ _ _ _ _ q => sub_int q
theorem wj : OpR X (binaryOp .Mult) (rI CMul fun i j => .int (i * j)) := opI fun _ _ _ _ _ _ _ hc q => mul_int q hc.ok
theorem yh : OpR X (binaryOp .FloorDiv) (rI CDiv fun i j => .int (i / j)) := opI fun i j _ _ _ _ _ hc q => by
  have h1 : (0 : Int) < j := hc.1;have h2 : j < 1073741824 := hc.2;exact floordiv_int (by omega) (by rw [Int.fdiv_eq_ediv_of_nonneg i (by omega)]; exact q) (.inl (PyProof.noPylong_small (by omega)))
theorem z8 : OpR X (binaryOp .Mod) (rI (fun _ j => 0 < j) fun i j => .int (i % j)) := opI fun i j _ _ _ _ _ hc q => by
  have h1 : (0 : Int) < j := hc;exact mod_int' (by omega) (by rw [Int.fmod_eq_emod_of_nonneg i (by omega)]; exact q)
theorem vo : OpR X (binaryOp .Pow) (rI CPow fun i j => .int (i ^ j.toNat)) := opI fun _ _ _ _ _ _ _ hc q => pow_int_small hc.1 hc.2.1 hc.2.2 q
end
def scal : V -> V -> Bool
  | .non, .non => true | .non, .int _ => true | .int _, .non => true | .non, .bl _ => true | .bl _, .non => true | .non, .str _ => true | .str _, .non => true
  | .int _, .int _ => true | .bl _, .bl _ => true | .str _, .str _ => true | .byt _, .byt _ => true
  | .int _, .str _ => true | .str _, .int _ => true | .bl _, .str _ => true | .str _, .bl _ => true
  | _, _ => false
def rEq : R2 := fun x y H Q => scal x y = true /\ Q (.bl (decide (x = y))) H
def rNe : R2 := fun x y H Q => scal x y = true /\ Q (.bl (!decide (x = y))) H
theorem zbm {i j : Int} : decide (V.int i = V.int j) = (i == j) := by
  rw [Bool.eq_iff_iff];simp
theorem zd4 {i j : Bool} : decide (V.bl i = V.bl j) = (i == j) := by
  rw [Bool.eq_iff_iff];simp
theorem za7 {i j : Str} : decide (V.str i = V.str j) = (i == j) := by
  rw [Bool.eq_iff_iff];simp
theorem za0 {i j : Array UInt8} : decide (V.byt i = V.byt j) = (i.toList == j.toList) := by
  rw [Bool.eq_iff_iff];cases i;cases j;simp
section
variable {X : Cx} {a b c : Expr} {ta tb tc : TE} {pos : Pos}
theorem yj {pins : List (Addr × Obj)} {σ : St} {H : Hp} {s : Shared} {Q : VK} {k k' : Bool} (I : Inv X pins σ H s) (q : Q (.bl k) H) (e : k = k') : EP X pins σ Q (.bool k') s := by
  subst e;exact ⟨.bl k, H, I, rfl, q⟩
theorem xy : OpR X (compareOp .Eq) rEq := by
  intro pins s σ H x y v u Q I rx ry h;obtain ⟨hs, q⟩ := h
  cases x with
  | non =>
    cases rx
    cases y with
    | non => cases ry; exact PySem.EqNone.eq_none_none (yj I q (by simp))
    | bl j => cases ry; exact PySem.EqNone.eq_none_bool (yj I q (by simp))
    | int j => obtain ⟨t', rfl⟩ := ry; exact PySem.EqNone.eq_none_int (yj I q (by simp))
    | str j => obtain ⟨t', rfl⟩ := ry; exact PySem.EqNone.eq_none_str (yj I q (by simp))
    | _ => exact absurd (show false = true from hs) Bool.false_ne_true
  | bl i =>
    cases rx
    cases y with
    | non => cases ry; exact PySem.EqNone.eq_bool_none (yj I q (by simp))
    | bl j => cases ry; exact eq_bool (yj I q zd4)
    | str j => obtain ⟨t', rfl⟩ := ry; exact PySem.EqMixed.eq_bool_str (yj I q (by simp))
    | _ => exact absurd (show false = true from hs) Bool.false_ne_true
  | int i =>
    obtain ⟨t, rfl⟩ := rx
    cases y with
    | non => cases ry; exact PySem.EqNone.eq_int_none (yj I q (by simp))
    | int j => obtain ⟨t', rfl⟩ := ry; exact eq_int (yj I q zbm)
    | str j => obtain ⟨t', rfl⟩ := ry; exact PySem.EqMixed.eq_int_str (yj I q (by simp))
    | _ => exact absurd (show false = true from hs) Bool.false_ne_true
  | str i =>
    obtain ⟨t, rfl⟩ := rx
    cases y with
    | non => cases ry; exact PySem.EqNone.eq_str_none (yj I q (by simp))
    | bl j => cases ry; exact PySem.EqMixed.eq_str_bool (yj I q (by simp))
    | int j => obtain ⟨t', rfl⟩ := ry; exact PySem.EqMixed.eq_str_int (yj I q (by simp))
    | str j => obtain ⟨t', rfl⟩ := ry; exact eq_str (yj I q za7)
    | _ => exact absurd (show false = true from hs) Bool.false_ne_true
  | byt i =>
    obtain ⟨t, rfl⟩ := rx
    cases y with
    | byt j => obtain ⟨t', rfl⟩ := ry; exact PySem.W.eq_bytes (yj I q za0)
    | _ => exact absurd (show false = true from hs) Bool.false_ne_true
  | _ => cases y <;> exact absurd (show false = true from hs) Bool.false_ne_true
theorem cp : OpR X (compareOp .NotEq) rNe := by
  intro pins s σ H x y v u Q I rx ry h;obtain ⟨hs, q⟩ := h
  cases x with
  | non =>
    cases rx
    cases y with
    | non => cases ry; exact PySem.EqNone.ne_none_none (yj I q (by simp))
    | bl j => cases ry; exact PySem.EqNone.ne_none_bool (yj I q (by simp))
    | int j => obtain ⟨t', rfl⟩ := ry; exact PySem.EqNone.ne_none_int (yj I q (by simp))
    | str j => obtain ⟨t', rfl⟩ := ry; exact PySem.EqNone.ne_none_str (yj I q (by simp))
    | _ => exact absurd (show false = true from hs) Bool.false_ne_true
  | bl i =>
    cases rx
    cases y with
    | non => cases ry; exact PySem.EqNone.ne_bool_none (yj I q (by simp))
    | bl j => cases ry; exact ne_bool (yj I q (congrArg not zd4))
    | str j => obtain ⟨t', rfl⟩ := ry; exact PySem.EqMixed.ne_bool_str (yj I q (by simp))
    | _ => exact absurd (show false = true from hs) Bool.false_ne_true
  | int i =>
    obtain ⟨t, rfl⟩ := rx
    cases y with
    | non => cases ry; exact PySem.EqNone.ne_int_none (yj I q (by simp))
    | int j => obtain ⟨t', rfl⟩ := ry; exact ne_int (yj I q (congrArg not zbm))
    | str j => obtain ⟨t', rfl⟩ := ry; exact PySem.EqMixed.ne_int_str (yj I q (by simp))
    | _ => exact absurd (show false = true from hs) Bool.false_ne_true
  | str i =>
    obtain ⟨t, rfl⟩ := rx
    cases y with
    | non => cases ry; exact PySem.EqNone.ne_str_none (yj I q (by simp))
    | bl j => cases ry; exact PySem.EqMixed.ne_str_bool (yj I q (by simp))
    | int j => obtain ⟨t', rfl⟩ := ry; exact PySem.EqMixed.ne_str_int (yj I q (by simp))
    | str j => obtain ⟨t', rfl⟩ := ry; exact ne_str (yj I q (congrArg not za7))
    | _ => exact absurd (show false = true from hs) Bool.false_ne_true
  | byt i =>
    obtain ⟨t, rfl⟩ := rx
    cases y with
    | byt j => obtain ⟨t', rfl⟩ := ry; exact PySem.W.ne_bytes (yj I q (congrArg not za0))
    | _ => exact absurd (show false = true from hs) Bool.false_ne_true
  | _ => cases y <;> exact absurd (show false = true from hs) Bool.false_ne_true
theorem mj : OpR X (compareOp .Lt) (rI0 fun i j => .bl (decide (i < j))) := opB0 fun _ _ _ _ _ _ _ q => lt_int q
theorem iq : OpR X (compareOp .LtE) (rI0 fun i j => .bl (decide (i <= j))) := opB0 fun _ _ _ _ _ _ _ q => le_int q
theorem op_gt : OpR X (compareOp .Gt) (rI0 fun i j => .bl (decide (j < i))) := opB0 fun _ _ _ _ _ _ _ q => gt_int q
theorem op_isN : OpR X (compareOp .Is) (fun x y H Q => y = .non /\ Q (.bl (decide (x = .non))) H) := by
  intro pins s σ H x y v u Q I rx ry h;obtain ⟨rfl, q⟩ := h;cases ry;refine is_none_gen (yj I q ?_)
  cases x <;> first
    | (cases rx; rfl)
    | (obtain ⟨t, rfl⟩ := rx; rfl)
theorem OpR.or {f : Value -> Value -> Sem Value} {r r' : R2} (h : OpR X f r) (h' : OpR X f r') : OpR X f (fun x y H Q => r x y H Q \/ r' x y H Q) := by
  intro pins s σ H x y v u Q I rx ry q
  rcases q with q | q
  . exact h pins s σ H x y v u Q I rx ry q
  . exact h' pins s σ H x y v u Q I rx ry q
theorem yf (b : Expr) {op : CmpOp} (h : op ≠ .In := by decide) (h2 : op ≠ .NotIn := by decide) : behindInMarks op b = false := by
  have e1 : (op == CmpOp.In) = false := by cases op <;> first | rfl | exact absurd rfl h
  have e2 : (op == CmpOp.NotIn) = false := by cases op <;> first | rfl | exact absurd rfl h2
  cases b <;> simp [behindInMarks, e1, e2]
theorem se {op : CmpOp} {r : R2} (ho : OpR X (compareOp op) r) (ha : PE X a ta) (hb : PE X b tb) (hm : behindInMarks op b = false) : PE X (.Compare a [op] [b] pos) (tOp r ta tb) := by
  intro pins s σ H Q I h;exact wpAny_Compare1 (binT ha hb I h fun v u s2 x y H2 I2 rx ry q => ho pins s2 σ H2 x y v u Q I2 rx ry q) hm
def mr (t : TE) : TT := fun σ H Q => t σ H fun x H' => ∃ k, x = .bl k /\ Q k H'
theorem ye {op : CmpOp} {r : R2} (ho : OpR X (compareOp op) r) (ha : PE X a ta) (hb : PE X b tb) (hm : behindInMarks op b = false) : PT X (.Compare a [op] [b] pos) (mr (tOp r ta tb)) := by
  intro pins s σ H Q I h
  refine wpAny_isTrue_Compare1 (thn (ha pins s σ H _ I h) fun v s1 ⟨x, H1, I1, r1, q1⟩ => thn (hb pins s1 σ H1 _ I1 q1) fun u s2 ⟨y, H2, I2, r2, q2⟩ =>
    thn (ho pins s2 σ H2 x y v u _ I2 r1 r2 q2) fun c s3 ⟨z, H3, I3, r3, k, e, q3⟩ => ?_) hm
  subst e;cases r3;exact wpAny_truthy_bool ⟨H3, I3, q3⟩
def ac (r r' : R2) (ta tb tc : TE) : TE := fun σ H Q => ta σ H fun x H1 => tb σ H1 fun y H2 => r x y H2 fun z H3 => ∃ k, z = .bl k /\
  (if k = true then tc σ H3 fun w' H4 => r' y w' H4 Q else Q (.bl false) H3)
theorem zf0 {op op' : CmpOp} {r r' : R2} (ho : OpR X (compareOp op) r) (ho' : OpR X (compareOp op') r') (ha : PE X a ta) (hb : PE X b tb) (hc : PE X c tc)
    (hm : lastMarks [op, op'] [b, c] = false := by with_unfolding_all rfl) : PE X (.Compare a [op, op'] [b, c] pos) (ac r r' ta tb tc) := by
  intro pins s σ H Q I h
  refine Compare_chain (thn (ha pins s σ H _ I h) fun v s1 ⟨x, H1, I1, r1, q1⟩ => chain_link (thn (hb pins s1 σ H1 _ I1 q1) fun u s2 ⟨y, H2, I2, r2, q2⟩ =>
    thn (ho pins s2 σ H2 x y v u _ I2 r1 r2 q2) fun d s3 ⟨z, H3, I3, r3, k, e, q3⟩ => ?_)) hm
  subst e;cases r3;refine wpAny_truthy_bool ?_
  cases k with
  | false => exact ite_ff ⟨.bl false, H3, I3, rfl, q3⟩
  | true => exact ite_tt (chain_last (thn (hc pins s3 σ H3 _ I3 q3) fun w' s4 ⟨z', H4, I4, r4, q4⟩ => ho' pins s4 σ H4 y z' u w' Q I4 r2 r4 q4))
theorem aa {op op' : CmpOp} {r r' : R2} (ho : OpR X (compareOp op) r) (ho' : OpR X (compareOp op') r') (ha : PE X a ta) (hb : PE X b tb) (hc : PE X c tc)
    (hm : lastMarks [op, op'] [b, c] = false := by with_unfolding_all rfl) : PT X (.Compare a [op, op'] [b, c] pos) (mr (ac r r' ta tb tc)) := by
  intro pins s σ H Q I h
  refine isTrue_chain (thn (ha pins s σ H _ I h) fun v s1 ⟨x, H1, I1, r1, q1⟩ => test_link (thn (hb pins s1 σ H1 _ I1 q1) fun u s2 ⟨y, H2, I2, r2, q2⟩ =>
    thn (ho pins s2 σ H2 x y v u _ I2 r1 r2 q2) fun d s3 ⟨z, H3, I3, r3, k, e, q3⟩ => ?_)) hm
  subst e;cases r3;refine wpAny_truthy_bool ?_
  cases k with
  | false =>
    obtain ⟨k', e', q'⟩ := q3;cases e';exact ite_ff ⟨H3, I3, q'⟩
  | true =>
    refine ite_tt (test_last (thn (hc pins s3 σ H3 _ I3 q3) fun w' s4 ⟨z', H4, I4, r4, q4⟩ => thn (ho' pins s4 σ H4 y z' u w' _ I4 r2 r4 q4) fun d' s5 ⟨z2, H5, I5, r5, k2, e2, q5⟩ => ?_));subst e2;cases r5;exact wpAny_truthy_bool ⟨H5, I5, q5⟩
theorem nn : (sizeLine : Nat) < 2 ^ 63 := by rw [sizeLine_eq]; decide
theorem gb : OpR X (binaryOp .Add) (fun x y H Q => ∃ i j, x = .str i /\ y = .str j /\ i.length + j.length <= sizeLine /\ Q (.str (i ++ j)) H) := by
  intro pins s σ H x y v u Q I rx ry h;obtain ⟨i, j, rfl, rfl, hz, q⟩ := h;obtain ⟨t, rfl⟩ := rx;obtain ⟨t', rfl⟩ := ry;exact add_str (fun t' tk => ⟨.str (i ++ j), H, I.tok _, ⟨_, rfl⟩, q⟩) hz
theorem ua {x : V} {us : List Value} (r : Vals [x] us) : ∃ u, us = [u] /\ RelV x u := by
  cases r with
  | cons r1 r2 => cases r2; exact ⟨_, rfl, r1⟩
theorem vals2 {x y : V} {us : List Value} (r : Vals [x, y] us) : ∃ u w', us = [u, w'] /\ RelV x u /\ RelV y w' := by
  cases r with
  | cons r1 r2 =>
    cases r2 with
    | cons r3 r4 => cases r4; exact ⟨_, _, rfl, r1, r3⟩
theorem zfq : CallR X (.builtin "abs") (fun xs H Q => ∃ i, xs = [.int i] /\ Q (.int (if i < 0 then -i else i)) H) := by
  intro pins s σ H xs us Q I r h;obtain ⟨i, rfl, q⟩ := h;obtain ⟨u, rfl, t, rfl⟩ := ua r;exact call_abs_int fun u tk => ⟨.int (if i < 0 then -i else i), H, I.tok _, ⟨_, rfl⟩, q⟩
theorem zeb (hc : X.calm = true) : CallR X (.builtin "max") (fun xs H Q => ∃ i j, xs = [.int i, .int j] /\ Q (.int (if j > i then j else i)) H) := by
  intro pins s σ H xs us Q I r h;obtain ⟨i, j, rfl, q⟩ := h;obtain ⟨u, w', rfl, ⟨t, rfl⟩, ⟨t', rfl⟩⟩ := vals2 r;refine max_two_ints (I.ok.hd hc) fun h' tk k => ⟨_, H, I.kept k, ?_, q⟩
  by_cases hj : j > i
  . rw [if_pos hj, if_pos hj]; exact ⟨_, rfl⟩
  . rw [if_neg hj, if_neg hj]; exact ⟨_, rfl⟩
theorem ze9 (hc : X.calm = true) : CallR X (.builtin "min") (fun xs H Q => ∃ i j, xs = [.int i, .int j] /\ Q (.int (if j < i then j else i)) H) := by
  intro pins s σ H xs us Q I r h;obtain ⟨i, j, rfl, q⟩ := h;obtain ⟨u, w', rfl, ⟨t, rfl⟩, ⟨t', rfl⟩⟩ := vals2 r;refine min_two_ints (I.ok.hd hc) fun h' tk k => ⟨_, H, I.kept k, ?_, q⟩
  by_cases hj : j < i
  . rw [if_pos hj, if_pos hj]; exact ⟨_, rfl⟩
  . rw [if_neg hj, if_neg hj]; exact ⟨_, rfl⟩
theorem zeu : CallR X (.type "int") (fun xs H Q => (∃ i, xs = [.int i] /\ Q (.int i) H) \/ ∃ k, xs = [.bl k] /\ Q (.int (if k then 1 else 0)) H) := by
  intro pins s σ H xs us Q I r h
  rcases h with ⟨i, rfl, q⟩ | ⟨k, rfl, q⟩
  . obtain ⟨u, rfl, t, rfl⟩ := ua r
    exact call_int_int ⟨.int i, H, I, ⟨_, rfl⟩, q⟩
  . obtain ⟨u, rfl, r1⟩ := ua r
    cases r1;exact call_int_bool ⟨.int (if k then 1 else 0), H, I.tok _, ⟨_, rfl⟩, q⟩
end
end L2
namespace L2
open PySem PySem.Spec PyProof.Rows
structure ObjM (h : Heap) (x dx C : Addr) (mA : Str -> Option Value) : Prop where
  obj : h.get? x = some (PySem.W.instObj C dx)
  ns : h.Ns1 dx mA
  ne : dx ≠ x
theorem zen {h : Heap} {dx : Addr} {mA : Str -> Option Value} (n : h.Ns1 dx mA) : ∃ od, h.get? dx = some od /\ ∀ name, PySem.W.lookIn name od = some (mA name) := by
  obtain ⟨o, es, ep, ho, hd, hk, _, hm⟩ := n;refine ⟨o, ho, fun name => ?_⟩;have e := hm name;unfold nsFind findBy at e;rw [<- Array.find?_toList] at e;unfold PySem.W.lookIn;rw [hd];dsimp only
  split
  . rename_i y q
    rw [q] at e;exact congrArg some e
  . rename_i q
    rw [q] at e
    have a : es.toList.any (·.refKey) = false := by
      rw [List.any_eq_false];intro y hy;obtain ⟨z, t, hkey⟩ := hk y (Array.mem_toList_iff.mp hy);simp [DictEntry.refKey, hkey]
    have a' : ¬ es.toList.any (·.refKey) = true := by rw [a]; exact Bool.false_ne_true
    rw [if_neg a'];exact congrArg some e
theorem ObjM.look {h : Heap} {x dx C : Addr} {mA : Str -> Option Value} (I : ObjM h x dx C mA) : ∃ od, PySem.W.InstAt h x (PySem.W.instObj C dx) C (some od) /\ ∀ name, PySem.W.lookIn name od = some (mA name) :=
  let ⟨od, ho, hl⟩ := zen I.ns
  ⟨od, ⟨I.obj, rfl, rfl, ho⟩, hl⟩
section
variable {prog : Program} {w : World} {A : Around} {E : Value -> Shared -> Prop} {s : Shared} {K : Fg} {x dx C f : Addr} {mA : Str -> Option Value} {name : Str} {v : Value}
end
theorem RelO.some_of {v : V} {o : Option Value} (r : RelO (some v) o) : ∃ u, o = some u /\ RelV v u := by
  cases o with
  | none => exact (show False from r).elim
  | some u => exact ⟨u, rfl, r⟩
section
variable {P : Program} {w : World} {H H' : Hp} {h h' : Heap} {a C dx : Addr} {fs fs' : List (Str × V)}
theorem zhp (hok : HOk P w H h) (e : H a = some (.ins C dx fs)) : ∃ mA, ObjM h a dx C mA /\ (∀ f, RelO (fs.lookup f) (mA f)) /\ PySem.Within mA (fs.map (·.1)) /\ fs.length <= 1000 /\ H dx = some (.own a) := by
  obtain ⟨d, z, ne, ob, mA, n, r, q⟩ := (show ObjOk P w H h a (.ins C dx fs) from hok a _ e);exact ⟨mA, ⟨ob, n, ne⟩, r, q, z, d⟩
end
structure Cls (K : Fg) (C : Addr) : Prop where
  pg : PySem.W.plainGet K C Str.empty = true
  hd : PySem.W.hasDictIn K C = true
  po : PySem.W.plainOver K C = true
  sa : PySem.W.findIn K (.ref C) "__setattr__" = some (some (.builtin "object.__setattr__"))
theorem Cls.get {K : Fg} {C : Addr} (c : Cls K C) (f : Str) : PySem.W.plainGet K C f = true := c.pg
section
variable {X : Cx} {pins : List (Addr × Obj)} {σ : St} {H : Hp} {s : Shared} {a C dx : Addr} {fs : List (Str × V)} {f : Str} {v : V} {A : Around} {E : Value -> Shared -> Prop}
theorem Inv.made (I : Inv X pins σ H s) : Inv X pins σ (upd (upd H s.heap.objs.size (.own (s.heap.objs.size + 1))) (s.heap.objs.size + 1) (.ins C s.heap.objs.size []))
    { s with heap := (s.heap.push PySem.W.emptyDict).push (PySem.W.instObj C s.heap.objs.size) } := by
  have e1 : (s.heap.push PySem.W.emptyDict).get? s.heap.objs.size = some PySem.W.emptyDict := Heap.get?_push_size s.heap rfl
  have e2 : ((s.heap.push PySem.W.emptyDict).push (PySem.W.instObj C s.heap.objs.size)).get? (s.heap.objs.size + 1) = some (PySem.W.instObj C s.heap.objs.size) := by
    have := Heap.get?_push_size (s.heap.push PySem.W.emptyDict) (o := PySem.W.instObj C s.heap.objs.size) rfl
    rwa [Heap.size_push] at this
  have e3 : (s.heap.push PySem.W.emptyDict).Ns s.heap.objs.size (fun _ => none) := ⟨PySem.W.emptyDict, #[], _, e1, rfl, (fun e he => absurd he (by simp)), fun _ => rfl⟩;have I1 := I.laid (a := s.heap.objs.size) (o := .own (s.heap.objs.size + 1)) (h' := s.heap.push PySem.W.emptyDict) (t' := s.toks) (fun b u q => Heap.get?_push_of_some _ q) (Zm _) ⟨_, e1⟩;refine I1.laid (a := s.heap.objs.size + 1) (o := .ins C s.heap.objs.size []) (t' := s.toks) (fun b u q => Heap.get?_push_of_some _ q) (Nat.le_of_eq (Heap.size_push _ _)) ?_;have ne : s.heap.objs.size ≠ s.heap.objs.size + 1 := Zs (Yt _);refine ⟨by rw [zn ne, zd], ZE _, ne, e2, fun _ => none, (Heap.Ns1.of_empty e3).at fun o q => Heap.get?_push_of_some _ q, fun _ => True.intro, fun y hy => absurd rfl hy⟩
end
section
variable {X : Cx} {o e value : Expr} {f : Str} {pos pos' tpos : Pos} {ta tv : TE}
end
section
variable {X : Cx} {pins : List (Addr × Obj)} {σ : St} {H : Hp} {s : Shared} {A : Around} {E : Value -> Shared -> Prop} {Q : Value -> Shared -> Prop} {c : Value} {b : Bool}
inductive TyOf (K : Fg) (H : Hp) : V -> Value -> Prop where
  | non : TyOf K H .non (.type "NoneType")
  | bl (x : Bool) : TyOf K H (.bl x) (.type "bool")
  | int (i : Int) : TyOf K H (.int i) (.type "int")
  | str (x : Str) : TyOf K H (.str x) (.type "str")
  | flt (x : UInt64) : TyOf K H (.flt x) (.type "float")
  | lst {a : Addr} {xs : List V} (e : H a = some (.lst xs)) : TyOf K H (.ref a) (.type "list")
  | frz {a : Addr} {o : Obj} {xs : List V} (e : H a = some (.frz o (.lst xs))) : TyOf K H (.ref a) (.type "list")
  | tup {a : Addr} {xs : List V} (e : H a = some (.tup xs)) : TyOf K H (.ref a) (.type "tuple")
  | dK {a : Addr} {kvs : List (Key × V)} (e : H a = some (.dK kvs)) : TyOf K H (.ref a) (.type "dict")
  | dT {a : Addr} {kvs : List (List Key × V)} (e : H a = some (.dT kvs)) : TyOf K H (.ref a) (.type "dict")
  | ins {a C dx : Addr} {fs : List (Str × V)} (e : H a = some (.ins C dx fs)) (cl : Cls K C) (ha : PySem.W.findIn K (.ref C) "__class__" = some (some (.builtin "object.__class__")))
      (hn : PySem.W.specialIn K (.builtin "object.__class__") "__get__" = some (some (.builtin "getset_descriptor.__get__"))) (htk : PySem.W.takesIn K (.builtin "object.__class__") = some true)
      (hm : PySem.W.mroIn K C (.type "object") = some true) : TyOf K H (.ref a) (.ref C)
theorem eu {x : V} {u t : Value} (I : Inv X pins σ H s) (rx : RelV x u) (ty : TyOf X.K H x t) (e : PySem.W.kitOne X.K t c = some b) (h : ∀ tk, Q (.bool b) { s with toks := tk }) :
    wpAny (model X.prog X.w) A (call (.builtin "isinstance") [u, c]) Q E s := by
  cases ty with
  | non => cases (show u = Value.none from rx); exact PySem.W.kia_one PySem.W.kitx_none I.kIn True.intro e (fun z => nomatch z) h
  | bl y => cases (show u = Value.bool y from rx); exact PySem.W.kia_one PySem.W.kitx_bool I.kIn True.intro e (fun z => nomatch z) h
  | int i => obtain ⟨t, q⟩ := (show ∃ t, u = Value.int i t from rx); cases q; exact PySem.W.kia_one PySem.W.kitx_int I.kIn True.intro e (fun z => nomatch z) h
  | str y => obtain ⟨t, q⟩ := (show ∃ t, u = Value.str y t from rx); cases q; exact PySem.W.kia_one PySem.W.kitx_str I.kIn True.intro e (fun z => nomatch z) h
  | flt y => obtain ⟨t, q⟩ := (show ∃ t, u = Value.float y t from rx); cases q; exact PySem.W.kia_one PySem.W.kitx_float I.kIn True.intro e (fun z => nomatch z) h
  | @lst a xs ea =>
    cases (show u = Value.ref a from rx);obtain ⟨_, _, n, _, h1⟩ := (show ObjOk X.prog X.w H s.heap a (.lst xs) from I.hok a _ ea);exact PySem.W.kia_one PySem.W.kitx_list I.kIn ⟨_, h1, rfl⟩ e (fun z => nomatch z) h
  | @frz a ob xs ea =>
    cases (show u = Value.ref a from rx);obtain ⟨_, _, _, n, _, h1⟩ := (show ObjOk X.prog X.w H s.heap a (.frz ob (.lst xs)) from I.hok a _ ea);exact PySem.W.kia_one PySem.W.kitx_list I.kIn ⟨_, h1, rfl⟩ e (fun z => nomatch z) h
  | @tup a xs ea =>
    cases (show u = Value.ref a from rx);obtain ⟨_, _, _, p⟩ := (show ObjOk X.prog X.w H s.heap a (.tup xs) from I.hok a _ ea);obtain ⟨o, h1, h2, _⟩ := p;exact PySem.W.kia_one PySem.W.kitx_tuple I.kIn ⟨o, h1, h2⟩ e (fun z => nomatch z) h
  | @dK a kvs ea =>
    cases (show u = Value.ref a from rx);obtain ⟨_, _, vs, _, p⟩ := (show ObjOk X.prog X.w H s.heap a (.dK kvs) from I.hok a _ ea);obtain ⟨o, es, ep, h1, h2, _⟩ := p;exact PySem.W.kia_one PySem.W.kitx_dict I.kIn ⟨o, h1, h2.1⟩ e (fun z => nomatch z) h
  | @dT a kvs ea =>
    cases (show u = Value.ref a from rx);obtain ⟨_, _, xs, _, o, es, ep, h1, h2, _⟩ := (show ObjOk X.prog X.w H s.heap a (.dT kvs) from I.hok a _ ea);exact PySem.W.kia_one PySem.W.kitx_dict I.kIn ⟨o, h1, h2.1⟩ e (fun z => nomatch z) h
  | @ins a C dx fs ea cl ha hn htk hm =>
    cases (show u = Value.ref a from rx);obtain ⟨mA, O, _⟩ := zhp I.hok ea;obtain ⟨od, J, _⟩ := O.look;exact PySem.W.kia_one (PySem.W.kitx_own (cl.get _) cl.hd ha hn htk hm) I.kIn J e (fun z => nomatch z) h
end
end L2
namespace L2
open PySem PySem.Spec PyProof.Rows
structure Room (k : Nat) (A : Around) : Prop where
  hd : A.handled = none
  dp : A.depth + 3 * k + 5 < recursionLimit
  un : A.units + 16 * k + 200 < cLine
theorem Room.mono {j k : Nat} {A : Around} (r : Room k A) (h : j <= k) : Room j A := ⟨r.hd, by have := r.dp; omega, by have := r.un; omega⟩
theorem Room.deeper {k : Nat} {A : Around} (r : Room (k + 1) A) (env : Env) : Room k (A.deeper env) :=
  ⟨r.hd, by have := r.dp; show A.depth + 1 + 3 * k + 5 < _; omega, by have := r.un; show A.units + 3 + 16 * k + 200 < _; omega⟩
theorem Room.in1 {k : Nat} {A : Around} (r : Room (k + 1) A) : Room k A.in1 :=
  ⟨r.hd, by have := r.dp; show A.depth + 3 * k + 5 < _; omega, by have := r.un; show A.units + 1 + 16 * k + 200 < _; omega⟩
theorem zch {A : Around} {C : Addr} {us : List Value} {kw : List (Str × Value)} : (A.under (.builtin "type.__call__" ⟨.ref C :: us, kw⟩)).depth = A.depth + 1 := by
  first | rfl | simp [Around.under, Code.weight, Code.isCreation, Code.isGuard, Code.isCaller, Code.frames, Code.isFrame, guardIds]
theorem zc1 {A : Around} {C : Addr} {us : List Value} {kw : List (Str × Value)} : (A.under (.builtin "type.__call__" ⟨.ref C :: us, kw⟩)).units = A.units + 1 := by
  first | rfl | simp [Around.under, Code.cUnits, Code.frames, Code.isFrame]
theorem Room.make {k : Nat} {A : Around} (r : Room (k + 1) A) (C : Addr) (us : List Value) (kw : List (Str × Value)) : Room k (A.under (.builtin "type.__call__" ⟨.ref C :: us, kw⟩)) :=
  ⟨r.hd, by have := r.dp; rw [zch]; omega, by have := r.un; rw [zc1]; omega⟩
theorem Room.depth {k : Nat} {A : Around} (r : Room k A) : A.depth < recursionLimit := by have := r.dp; omega
theorem Room.units {k : Nat} {A : Around} (r : Room k A) : A.units + 64 < cLine := by have := r.un; omega
def tNil : TA := fun _ H Q => Q [] H
def zcj (ta : TE) (tr : TA) : TA := fun σ H Q => ta σ H fun x H1 => tr σ H1 fun xs H2 => Q (x :: xs) H2
section
variable {X : Cx} {e : Expr} {es : List Expr} {te : TE} {t : TA} {pos : Pos}
theorem zb : PA X [] tNil := fun _ _ _ _ H Q I h => Calls.spliced_nil ⟨[], H, I, .nil, h⟩
theorem za (ha : PE X e te) (hr : PA X es t) (hs : starEach (e :: es) X.env = (false, eval e X.env) :: starEach es X.env := by rfl) : PA X (e :: es) (zcj te t) := by
  intro pos pins s σ H Q I h;rw [hs]
  show wpAny _ _ (spliced ((false, eval e X.env) :: backTo pos (starEach es X.env))) _ _ s
  refine Calls.spliced_cons (thn (ha pins s σ H _ I h) fun u s1 ⟨x, H1, I1, r1, q1⟩ => ?_);exact thn (hr pos pins s1 σ H1 _ I1 q1) fun us s2 ⟨xs, H2, I2, r2, q2⟩ => ⟨x :: xs, H2, I2, .cons r1 r2, q2⟩
def tTup (t : TA) : TE := fun σ H Q => t σ H fun xs H1 => xs.length <= sizeLine /\ ∀ p, H1 p = none -> Q (.ref p) (upd H1 p (.tup xs))
def tLst (t : TA) : TE := fun σ H Q => t σ H fun xs H1 => xs.length <= sizeLine /\ ∀ p, H1 p = none -> Q (.ref p) (upd H1 p (.lst xs))
theorem xc {x1} (h : PA X es t) : PE X (.Tuple es x1 pos) (tTup t) := by
  intro pins s σ H Q I hq;refine wpAny_Tuple_spliced (thn (h pos pins s σ H _ I hq) fun us s1 ⟨xs, H1, I1, r, z, q⟩ => ⟨by rw [<- r.length]; exact z, ?_⟩);have hf : H1 s1.heap.objs.size = none := I1.hok.fresh (Zm _);refine ⟨.ref s1.heap.objs.size, upd H1 s1.heap.objs.size (.tup xs), I1.laid (t' := s1.toks) (fun b u e => Heap.get?_push_of_some _ e) (Zm _) ?_, rfl, q _ hf⟩;exact ⟨z, us, r, ⟨_, Heap.get?_push_size _ rfl, rfl, _, rfl, rfl⟩⟩
theorem xg (h : PA X es t) : PE X (.List es pos) (tLst t) := by
  intro pins s σ H Q I hq;refine wpAny_List_spliced (thn (h pos pins s σ H _ I hq) fun us s1 ⟨xs, H1, I1, r, z, q⟩ => ⟨by rw [<- r.length]; exact z, ?_⟩);have hf : H1 s1.heap.objs.size = none := I1.hok.fresh (Zm _);refine ⟨.ref s1.heap.objs.size, upd H1 s1.heap.objs.size (.lst xs), I1.laid (t' := s1.toks) (fun b u e => Heap.get?_push_of_some _ e) (Zm _) ?_, rfl, q _ hf⟩;exact ⟨z, us, 0, r, Heap.get?_push_size _ rfl⟩
end
abbrev Sp := List V -> Hp -> VK -> XK -> Prop
abbrev CXT := List Env -> Hp -> Shared -> XK -> Value -> Shared -> Prop
structure Env0 (P : Program) (w : World) (K : Fg) (mg : Str -> Option Value) (base : Heap) (A : Around) (outer : List Env) (s : Shared) (H : Hp) : Prop where
  frames : A.frames = some outer
  mod : Mod K mg base
  bs : ∀ b o, base.get? b = some o -> s.heap.get? b = some o /\ H b = none
  bsz : base.objs.size <= s.heap.objs.size
  funs : s.heap.FunFrames base outer
  frf : ∀ b ∈ frs outer, H b = none
  hok : HOk P w H s.heap
  bare : AllBare s.gens
def CE (outer : List Env) (P : Program) (w : World) (H : Hp) (s : Shared) (Q : VK) (u : Value) (s' : Shared) : Prop :=
  ∃ v H', s'.os = s.os /\ AllBare s'.gens /\ Un (frs outer) [] H H' s.heap s'.heap /\ HOk P w H' s'.heap /\ RelV v u /\ Q v H'
def CR (CX : CXT) (outer : List Env) (P : Program) (w : World) (H : Hp) (s : Shared) (Q : VK) (E : XK) (r : Result) (s' : Shared) : Prop :=
  match r with
  | .ok (.ret u) => CE outer P w H s Q u s'
  | .ok _ => False
  | .error e => CX outer H s E e s'
structure FnOk (P : Program) (w : World) (K : Fg) (mg : Str -> Option Value) (base : Heap) (CX : CXT) (k : Nat) (f : Addr) (fd : FuncData) (ps : List Str) (sp : Sp) : Prop where
  len : ∀ vs H Q E, sp vs H Q E -> vs.length = ps.length
  run : ∀ (A : Around) (outer : List Env) (s : Shared) (H : Hp) (args : Args) (us : List Value) (vs : List V) (Q : VK) (E : XK), Room k A -> Env0 P w K mg base A outer s H -> BindsTo s fd args (ps.zip us) -> Vals vs us -> sp vs H Q E ->
    codeAny (model P w) A (.call (.ref f) args) (CR CX outer P w H s Q E) s
theorem FnOk.mono {P : Program} {w : World} {K : Fg} {mg : Str -> Option Value} {base : Heap} {CX : CXT} {j k : Nat} {f : Addr} {fd : FuncData} {ps : List Str} {sp : Sp} (F : FnOk P w K mg base CX j f fd ps sp) (h : j <= k) :
    FnOk P w K mg base CX k f fd ps sp := ⟨F.len, fun A outer s H args us vs Q E hr => F.run A outer s H args us vs Q E (hr.mono h)⟩
theorem FnOk.imp {P : Program} {w : World} {K : Fg} {mg : Str -> Option Value} {base : Heap} {CX : CXT} {k : Nat} {f : Addr} {fd : FuncData} {ps : List Str} {sp sp' : Sp} (F : FnOk P w K mg base CX k f fd ps sp)
    (h : ∀ vs H Q E, sp' vs H Q E -> sp vs H Q E) : FnOk P w K mg base CX k f fd ps sp' :=
  ⟨fun vs H Q E q => F.len vs H Q E (h _ _ _ _ q), fun A outer s H args us vs Q E hr he hb hv hs => F.run A outer s H args us vs Q E hr he hb hv (h _ _ _ _ hs)⟩
theorem Env0.make {P : Program} {w : World} {K : Fg} {mg : Str -> Option Value} {base : Heap} {A : Around} {outer : List Env} {s : Shared} {H : Hp} (e : Env0 P w K mg base A outer s H) (C : Addr) (us : List Value) (kw : List (Str × Value)) :
    Env0 P w K mg base (A.under (.builtin "type.__call__" ⟨.ref C :: us, kw⟩)) outer s H := ⟨by first | exact e.frames | (simpa [Around.under, Code.envs, Code.isFrame, pushEnvs] using e.frames), e.mod, e.bs, e.bsz, e.funs, e.frf, e.hok, e.bare⟩
theorem Env0.in1 {P : Program} {w : World} {K : Fg} {mg : Str -> Option Value} {base : Heap} {A : Around} {outer : List Env} {s : Shared} {H : Hp} (e : Env0 P w K mg base A outer s H) :
    Env0 P w K mg base A.in1 outer s H := ⟨e.frames, e.mod, e.bs, e.bsz, e.funs, e.frf, e.hok, e.bare⟩
section
variable {X : Cx} {pins : List (Addr × Obj)} {σ : St} {H : Hp} {s s' : Shared}
theorem Inv.env0 (I : Inv X pins σ H s) : Env0 X.prog X.w X.K X.mg X.base X.A X.stack s H :=
  ⟨I.ok.frames, I.ok.mod, I.bs, Zd I.ok.bsz I.sz, I.stack, I.stkFree, I.hok, I.bare⟩
theorem Inv.after {Q : VK} {u : Value} (I : Inv X pins σ H s) (h : CE X.stack X.prog X.w H s Q u s') : EP X pins σ Q u s' := by
  obtain ⟨v, H', os, bare, un, hok, r, q⟩ := h;obtain ⟨hh, g, d, t, os'⟩ := s';obtain rfl : os' = s.os := os;exact ⟨v, H', I.call (h' := hh) (g' := g) (d' := d) (t' := t) (ch := []) un hok bare (fun b z => absurd z (by simp)), r, q⟩
end
def ce (sp : Sp) (dvs : List V) (E : XK) (t : TA) : TE := fun σ H Q => t σ H fun vs H1 => sp (vs ++ dvs) H1 Q E
def Binds (K : Fg) (fd : FuncData) (ps : List Str) (ds : List Value) : Prop :=
  ∀ (s : Shared) (us : List Value), K.In s.heap -> (us ++ ds).length = ps.length -> BindsTo s fd ⟨us, []⟩ (ps.zip (us ++ ds))
theorem Binds.all {K : Fg} {fd : FuncData} {ps : List Str} (h : ∀ us : List Value, us.length = ps.length -> bindArgs fd ⟨us, []⟩ = pure (ps.zip us)) : Binds K fd ps [] := fun s us _ hl => by
  rw [Ye] at hl ⊢;exact .of_eq (h us hl)
def j9 (CX : CXT) (X : Cx) (E : XK) : Prop := ∀ (pins : List (Addr × Obj)) (σ : St) (H : Hp) (s : Shared) (e : Value) (s' : Shared), Inv X pins σ H s -> CX X.stack H s E e s' -> X.xe e s'
section
variable {X : Cx} {CX : CXT} {k : Nat} {f C : Addr} {fd : FuncData} {ps : List Str} {sp : Sp} {dvs : List V} {ds : List Value} {E : XK} {x m : Str} {p pos apos : Pos} {e o : Expr} {es : List Expr} {ta : TE} {t : TA}
theorem run_fn {pins : List (Addr × Obj)} {σ : St} {H : Hp} {s : Shared} {Q : VK} {us : List Value} {vs : List V} (F : FnOk X.prog X.w X.K X.mg X.base CX k f fd ps sp) (hr : Room k X.A) (hb : Binds X.K fd ps ds) (hd : Vals dvs ds) (hx : j9 CX X E)
    (I : Inv X pins σ H s) (r : Vals vs us) (h : sp (vs ++ dvs) H Q E) : wpAny (model X.prog X.w) X.A (call (.ref f) us) (EP X pins σ Q) X.xe s := by
  have r2 : Vals (vs ++ dvs) (us ++ ds) := r.append hd;have hl : (us ++ ds).length = ps.length := by rw [<- r2.length]; exact F.len _ _ _ _ h
  refine wpAny_call (codeAny_mono (F.run X.A X.stack s H ⟨us, []⟩ (us ++ ds) (vs ++ dvs) Q E hr I.env0 (hb s us I.kIn hl) r2 h) fun r s' hq => ?_)
  cases r with
  | error e => exact hx pins σ H s e s' I hq
  | ok fl =>
    cases fl with
    | ret u => exact I.after hq
    | next => exact False.elim hq
    | brk => exact False.elim hq
    | cont => exact False.elim hq
theorem zbx (F : FnOk X.prog X.w X.K X.mg X.base CX k f fd ps sp) (hr : Room k X.A) (hg : Gl X x) (hm : X.mg x = some (.ref f)) (hk : PySem.W.keepIn X.K (.ref f) = true) (hb : Binds X.K fd ps ds) (hd : Vals dvs ds) (hx : j9 CX X E)
    (ha : PA X (e :: es) t) (hdb : (x == ("__debug__" : Str)) = false := by decide) (he : starEach (e :: es) X.env = (false, eval e X.env) :: starEach es X.env := by rfl) (hpl : (backTo pos (starEach es X.env)).any (·.1) = false := by rfl) :
    PE X (.Call (.Name x p) (e :: es) [] pos) (ce sp dvs E t) := by
  intro pins s σ H Q I h;refine wpAny_Call_Name_kw (nw I hg hm ?_ hdb);refine PySem.W.callWith_K (h₀ := X.base) I.ok.mod.kin hk (thn (ha pos pins s σ H _ I h) fun us s1 ⟨vs, H1, I1, r, q⟩ => ⟨I1.kIn, ?_⟩) he hpl;exact run_fn F hr hb hd hx I1 r q
end
def PK (X : Cx) (kws : List Keyword) (t : TA) : Prop :=
  ∀ (pos : Pos) (pins : List (Addr × Obj)) (s : Shared) (σ : St) (H : Hp) (Q : List V -> Hp -> Prop), Inv X pins σ H s -> t σ H Q -> wpAny (model X.prog X.w) X.A (evalAll ((backToKw pos (keywordEach kws X.env)).map (·.2))) (AP X pins σ Q) X.xe s
section
variable {X : Cx} {CX : CXT} {k : Nat} {f C : Addr} {fd : FuncData} {ps ks : List Str} {sp : Sp} {E : XK} {x m : Str} {p pos apos kpos : Pos} {e o : Expr} {es : List Expr} {kws : List Keyword} {te ta : TE} {t tk : TA} {nm : Option Str}
theorem pk_nil : PK X [] tNil := fun _ _ _ _ H Q I h => wpAny_evalAll_nil ⟨[], H, I, .nil, h⟩
theorem zhl (ha : PE X e te) (hr : PK X kws t) : PK X (⟨nm, e, kpos⟩ :: kws) (zcj te t) := by
  intro pos pins s σ H Q I h
  show wpAny _ _ (evalAll ((do let v <- eval e X.env; standAt pos; pure v) :: (backToKw pos (keywordEach kws X.env)).map (·.2))) _ _ s
  refine wpAny_evalAll_cons (wpAny_bind (thn (ha pins s σ H _ I h) fun u s1 ⟨x, H1, I1, r1, q1⟩ => wpAny_bind (wpAny_standAt (wpAny_pure ?_))));exact thn (hr pos pins s1 σ H1 _ I1 q1) fun us s2 ⟨xs, H2, I2, r2, q2⟩ => ⟨x :: xs, H2, I2, .cons r1 r2, q2⟩
variable {g : List Value -> List Value -> List Value} {gV : List V -> List V -> List V}
end
structure z6 (N P : List Str) (sc : Scope) : Prop where
  kind : sc.kind = .function
  co : sc.isCoroutine = false
  gen : sc.isGenerator = false
  nd : N.Nodup
  pre : N.take P.length = P
  par : ∀ x ∈ P, sc.names.lookup x = some .local \/ sc.names.lookup x = some .cell
  nofree : ∀ y ∈ sc.names, y.2 ≠ .free
theorem ee {kindOf : Str -> Option NameKind} {x : Str} : ∀ {binds : List (Str × Value)} {m : Str -> Option Value}, (∀ v, (x, v) ∉ binds) -> bindL kindOf binds m x = m x
  | [], _, _ => rfl
  | (n, v) :: r, m, h => by
    unfold bindL;rw [ee fun w hw => h w (Zv _ hw)]
    split
    . have : x ≠ n := by rintro rfl; exact h v ZA
      simp [this]
    . rfl
theorem eg {kindOf : Str -> Option NameKind} {x : Str} : ∀ {binds : List (Str × Value)} {m : Str -> Option Value}, (∀ v, (x, v) ∉ binds) -> bindC kindOf binds m x = m x
  | [], _, _ => rfl
  | (n, v) :: r, m, h => by
    unfold bindC;rw [eg fun w hw => h w (Zv _ hw)]
    split
    . rfl
    . have : x ≠ n := by rintro rfl; exact h v ZA
      simp [this]
theorem dq {kindOf : Str -> Option NameKind} {x : Str} {v : Value} : ∀ {P : List Str} {vs : List Value} {i : Nat} {m : Str -> Option Value}, P.Nodup -> P[i]? = some x -> vs[i]? = some v -> kindOf x = some .local ->
    bindL kindOf (P.zip vs) m x = some v
  | [], _, _, _, _, h, _, _ => by simp at h
  | _ :: _, [], _, _, _, _, h, _ => by simp at h
  | p :: P, w :: vs, 0, m, nd, h1, h2, hk => by
    simp at h1 h2; subst h1; subst h2
    show bindL kindOf ((p, w) :: P.zip vs) m p = _
    unfold bindL;rw [ee fun v hv => (ZO.mp nd).1 (Xh hv).1, if_pos hk];simp
  | p :: P, w :: vs, i + 1, m, nd, h1, h2, hk => by
    show bindL kindOf ((p, w) :: P.zip vs) m x = _
    unfold bindL;exact dq (i := i) (ZO.mp nd).2 (by simpa using h1) (by simpa using h2) hk
theorem dj {kindOf : Str -> Option NameKind} {x : Str} {v : Value} : ∀ {P : List Str} {vs : List Value} {i : Nat} {m : Str -> Option Value}, P.Nodup -> P[i]? = some x -> vs[i]? = some v -> kindOf x ≠ some .local ->
    bindC kindOf (P.zip vs) m x = some v
  | [], _, _, _, _, h, _, _ => by simp at h
  | _ :: _, [], _, _, _, _, h, _ => by simp at h
  | p :: P, w :: vs, 0, m, nd, h1, h2, hk => by
    simp at h1 h2; subst h1; subst h2
    show bindC kindOf ((p, w) :: P.zip vs) m p = _
    unfold bindC;rw [eg fun v hv => (ZO.mp nd).1 (Xh hv).1, if_neg hk];simp
  | p :: P, w :: vs, i + 1, m, nd, h1, h2, hk => by
    show bindC kindOf ((p, w) :: P.zip vs) m x = _
    unfold bindC;exact dj (i := i) (ZO.mp nd).2 (by simpa using h1) (by simpa using h2) hk
def start (N : List Str) (vs : List V) : St := vs.map some ++ List.replicate (N.length - vs.length) none
def cxOf (CX : CXT) (P : Program) (w : World) (K : Fg) (mg : Str -> Option Value) (base : Heap) (N : List Str) (qual : Str) (scope : Scope) (f : Addr) (cd : Value) (A : Around) (outer : List Env) (s : Shared) (H : Hp) (E : XK) : Cx where
  prog := P
  w := w
  K := K
  mg := mg
  base := base
  A := A.deeper (envOfC qual scope s.heap.objs.size f cd)
  N := N
  s₀ := s
  H₀ := H
  env := envOfC qual scope s.heap.objs.size f cd
  outer := outer
  stack := envOfC qual scope s.heap.objs.size f cd :: outer
  ex := []
  calm := true
  fn := fun _ => true
  pn := []
  xe := fun e s' => wpAny (model P w) (A.deeper (envOfC qual scope s.heap.objs.size f cd)) (leaving (envOfC qual scope s.heap.objs.size f cd) e) (fun _ s'' => CX outer H s E e s'') (fun e' s'' => CX outer H s E e' s'') s'
theorem al {sc : Scope} {n : Nat} {x : Str} (h : sc.names.lookup x = some .cell) : ∃ c, (cellsFrom n sc.names []).lookup x = some c := by
  have q := PySem.W.cellsFrom_some sc.names n [] (.inl h);exact Yy.mp q
theorem zeq {CX : CXT} {P : Program} {w : World} {K : Fg} {mg : Str -> Option Value} {base : Heap} {N ps : List Str} {qual : Str} {scope : Scope} {f : Addr} {cd : Value} {A : Around} {outer : List Env} {s s1 : Shared} {H : Hp} {E : XK} {us : List Value} {vs : List V}
    (S : z6 N ps scope) (hd : A.handled = none) (e0 : Env0 P w K mg base A outer s H) (hl : vs.length = ps.length) (r : Vals vs us)
    (x : InCallC s s.heap.objs.size (bindL (envOfC qual scope s.heap.objs.size f cd).kindOf (ps.zip us) fun _ => none) (cellsFrom (s.heap.objs.size + 1) scope.names []) (bindC (envOfC qual scope s.heap.objs.size f cd).kindOf (ps.zip us) fun _ => none) s1) :
    Inv (cxOf CX P w K mg base N qual scope f cd A outer s H E) [] (start N vs) H s1 := by
  have hpl : ps.length <= N.length := by have := congrArg List.length S.pre; rw [Zj] at this; omega
  obtain ⟨h1, tk, rfl, hk⟩ := x.done;have noA : ∀ b : Addr, b ∉ (cxOf CX P w K mg base N qual scope f cd A outer s H E).ex := fun b z => absurd (show b ∈ ([] : List Addr) from z) (by simp)
  refine ⟨⟨e0.mod, S.kind, rfl, rfl, Zm _, fun y z c h1 h2 => ?_, fun y hy => ?_, fun y c _ h => ?_, fun _ => hd, Around.frames_deeper e0.frames, .inr ⟨rfl, rfl⟩, fun b z => absurd z (noA b), e0.bs, e0.bsz, fun b _ _ => noA b, fun b z => absurd z (noA b), e0.funs, e0.frf⟩,
    rfl, e0.bare, Un.kept hk, ⟨_, x.toInCall.ns, fun i y v h1 h2 h3 => ?_⟩, fun y c h => ⟨_, x.cell y c h⟩, e0.hok.fresh (Zm _), fun y c h => ?_, fun p hp => absurd (show p ∈ ([] : List (Addr × Obj)) from hp) (by simp), e0.hok.kept hk, ?_⟩
  . exact name_of_addr x.apart (PySem.mem_of_lookup h1) (PySem.mem_of_lookup h2)
  . have hy : scope.names.lookup y = some .cell \/ scope.names.lookup y = some .free := hy
    rcases hy with hy | hy
    . exact al hy
    . exact absurd rfl (S.nofree _ (PySem.mem_of_lookup hy))
  . exact YQ (x.above y c (PySem.mem_of_lookup h))
  . have hi : i < vs.length := by
      unfold start at h2
      by_cases hi : i < vs.length
      . exact hi
      . rw [Zf (by simpa using hi)] at h2
        rw [YC] at h2
        split at h2 <;> cases h2
    have ha : vs[i]? = some v := by
      unfold start at h2;rw [Zg (by simpa using hi), Ze] at h2
      cases e : vs[i]? with
      | none => rw [e] at h2; cases h2
      | some a => rw [e] at h2; cases h2; rfl
    obtain ⟨u, hu, rv⟩ := r.get ha
    have hp : ps[i]? = some y := by
      rw [<- S.pre, Ym (by omega)]; exact h1
    have ndP : ps.Nodup := by rw [<- S.pre]; exact S.nd.sublist (List.take_sublist _ _)
    refine ⟨u, rv, ?_⟩
    rcases S.par y (Zi hp) with k | k
    . exact .inl ⟨k, dq ndP hp hu k⟩
    . obtain ⟨c, e⟩ := al (n := s.heap.objs.size + 1) k
      refine .inr ⟨.inl k, c, e, ?_⟩;have q := x.cell y c e;rw [dj ndP hp hu (by show scope.names.lookup y ≠ _; rw [k]; decide)] at q;exact q
  . exact e0.hok.fresh (YQ (x.above y c (PySem.mem_of_lookup h)))
  . unfold start
    show _ = N.length
    rw [Zo, Za, ZI];omega
theorem fn_of {CX : CXT} {P : Program} {w : World} {K : Fg} {mg : Str -> Option Value} {base : Heap} {k : Nat} {f : Addr} {name qual : Str} {params : Arguments} {body : List Stmt} {scope : Scope} {dV kV doc pm cdv ct oc : Value} {an od : Option Addr}
    {osl : Array (Option Value)} {N ps : List Str} {sp : Sp} (lk : K.lookup f = some ⟨oc, od, .func (PySem.W.fnOf name qual params body scope dV kV doc pm an cdv ct), osl⟩) (hcd : PySem.W.codeIn K cdv qual = true) (S : z6 N ps scope)
    (len : ∀ vs H Q E, sp vs H Q E -> vs.length = ps.length)
    (hbody : ∀ (A : Around) (outer : List Env) (s : Shared) (H : Hp) (vs : List V) (Q : VK) (E : XK), Room k (A.deeper (envOfC qual scope s.heap.objs.size f cdv)) -> sp vs H Q E ->
      ∃ t, PSs (cxOf CX P w K mg base N qual scope f cdv A outer s H E) body t /\ t { nx := fun _ H' => Q .non H', rt := Q } (start N vs) H) :
    FnOk P w K mg base CX (k + 1) f (PySem.W.fnOf name qual params body scope dV kV doc pm an cdv ct) ps sp := by
  refine ⟨len, fun A outer s H args us vs Q E hr e0 hb r hsp => ?_⟩;have hl := len _ _ _ _ hsp;have KX : K.In s.heap := e0.mod.kin.keeps fun b o e => (e0.bs b o e).1
  have lim : s.heap.NoLimit := e0.mod.nolimit.keeps fun b o e => (e0.bs b o e).1
  have hkind : ∀ y ∈ ps.zip us, scope.names.lookup y.1 = some .local \/ (scope.names.lookup y.1 = some .cell /\ ((cellsFrom (s.heap.objs.size + 1) scope.names []).lookup y.1).isSome = true) := fun ⟨n, v⟩ hy => by
    rcases S.par n (Xh hy).1 with q | q
    . exact .inl q
    . exact .inr ⟨q, PySem.W.cellsFrom_some _ _ _ (.inl q)⟩
  refine codeAny_call_function hr.depth (KX _ _ lk) rfl S.co S.gen rfl (PySem.W.codeRec_of KX hcd) (hb _ _ _ _ ?_);refine wpAny_newFunctionEnv_cells S.kind hkind fun env he s1 x => ?_
  subst he;refine ⟨lim.keeps x.toInCall.keep, codeAny_func ?_⟩;obtain ⟨t, ht, hq⟩ := hbody A outer s H vs Q E (hr.deeper _) hsp;have I : Inv (cxOf CX P w K mg base N qual scope f cdv A outer s H E) [] (start N vs) H s1 := zeq S hr.hd e0 hl r x;refine wpAny_mono (ht [] s1 (start N vs) H _ I hq) (fun fl s' hs => ?_) fun e s' hs => hs
  have fin : ∀ {σ' : St} {H' : Hp} {v : V} {u : Value}, Inv (cxOf CX P w K mg base N qual scope f cdv A outer s H E) [] σ' H' s' -> RelV v u -> Q v H' -> CE outer P w H s Q u s' :=
    fun {σ' H' v u} J rv q => ⟨v, H', J.os, J.bare, J.base, J.hok, rv, q⟩
  cases fl with
  | ret u =>
    obtain ⟨v, σ', H', J, rv, q⟩ := hs;exact fin J rv q
  | next =>
    obtain ⟨σ', H', J, q⟩ := hs;exact fin (v := V.non) (u := Value.none) J rfl q
  | brk =>
    obtain ⟨_, _, _, q⟩ := hs;exact False.elim q
  | cont =>
    obtain ⟨_, _, _, q⟩ := hs;exact False.elim q
end L2
namespace L2
open PySem PySem.Spec PyProof.Rows
section
variable {X : Cx} {x : Str} {p pos : Pos} {e : Expr} {es : List Expr} {t : TA} {id T : String} {r : List V -> Hp -> VK -> Prop}
def tCB (r : List V -> Hp -> VK -> Prop) (t : TA) : TE := fun σ H Q => t σ H fun vs H1 => r vs H1 Q
theorem zq (hc : CallR X (.builtin id) r) (hg : Gl X x) (hm : X.mg x = none) (hv : bootBuiltins x = some (.builtin id)) (ha : PA X (e :: es) t) (hn : x ≠ "__name__" := by decide) (hdb : (x == ("__debug__" : Str)) = false := by decide)
    (he : starEach (e :: es) X.env = (false, eval e X.env) :: starEach es X.env := by rfl) (hpl : (backTo pos (starEach es X.env)).any (·.1) = false := by rfl) : PE X (.Call (.Name x p) (e :: es) [] pos) (tCB r t) := by
  intro pins s σ H Q I h;refine wpAny_Call_Name_kw (r6 I hg hm hv ?_ hn hdb);exact PyProof.Rows.callWith_builtin1 (thn (ha pos pins s σ H _ I h) fun us s1 ⟨vs, H1, I1, r1, q1⟩ => hc pins s1 σ H1 vs us Q I1 r1 q1) he hpl
theorem yu (hc : CallR X (.type T) r) (hg : Gl X x) (hm : X.mg x = none) (hv : bootBuiltins x = some (.type T)) (ha : PA X (e :: es) t) (hn : x ≠ "__name__" := by decide) (hdb : (x == ("__debug__" : Str)) = false := by decide)
    (he : starEach (e :: es) X.env = (false, eval e X.env) :: starEach es X.env := by rfl) (hpl : (backTo pos (starEach es X.env)).any (·.1) = false := by rfl) : PE X (.Call (.Name x p) (e :: es) [] pos) (tCB r t) := by
  intro pins s σ H Q I h;refine wpAny_Call_Name_kw (r6 I hg hm hv ?_ hn hdb);exact PyProof.Rows.callWith_type1 (thn (ha pos pins s σ H _ I h) fun us s1 ⟨vs, H1, I1, r1, q1⟩ => hc pins s1 σ H1 vs us Q I1 r1 q1) he hpl
end
end L2
namespace HT
open PySem PyProof.Rows
section
open PySem.SeqAt
open PySem.AutoSeq1 (wpAny_loadPart')
open PySem.MeetsSeq PySem.MeetsSeq2 PySem.MeetsSeq3
end
section
variable {prog : Program} {w : World} {A : Around} {E : Value -> Shared -> Prop} {s : Shared}
theorem cat_tup {t b : Addr} {vs ws : List Value} {Q : Value -> Shared -> Prop} (ht : IsTup s.heap t vs.toArray) (hb : IsTup s.heap b ws.toArray) (hv : vs ≠ [])
    (h1 : ws = [] -> Q (.ref t) s) (h2 : ws ≠ [] -> Q (.ref s.heap.objs.size) { s with heap := s.heap.push { cls := .type "tuple", data := .seq (vs ++ ws).toArray } })
    (hsz : vs.length + ws.length <= sizeLine) : wpAny (model prog w) A (binaryOp .Add (.ref t) (.ref b)) Q E s := by
  obtain ⟨⟨cls, dd, data, sl⟩, ho, hc, n, hd⟩ := id ht;obtain ⟨⟨cls2, dd2, data2, sl2⟩, ho2, hc2, n2, hd2⟩ := id hb;simp only at hc hd hc2 hd2;subst hc hd hc2 hd2;have e : vs.toArray ++ ws.toArray = (vs ++ ws).toArray := by simp
  by_cases hw : ws = []
  . exact concat_meets ⟨_, ho, rfl⟩ ⟨_, ho2, rfl⟩ noFill_tuple_add seq_tuple_add PySem.F.slot_tuple_add PySem.F.entry_tuple_add (PySem.F.args_tuple_add_2 _ _)
      (tuple_addW1 t b vs.toArray ws.toArray n n2 dd dd2 sl sl2 (by simpa using hv) (by simp [hw])) ⟨ho, ho2, h1 hw⟩
  . refine concat_meets ⟨_, ho, rfl⟩ ⟨_, ho2, rfl⟩ noFill_tuple_add seq_tuple_add PySem.F.slot_tuple_add PySem.F.entry_tuple_add (PySem.F.args_tuple_add_2 _ _)
      (tuple_addW2 t b vs.toArray ws.toArray n n2 dd dd2 sl sl2 (by simpa using hv) (by simpa using hw) (by rw [Zr, Zr]; exact hsz)) ⟨ho, ho2, ?_⟩
    rw [e];exact h2 hw
def sIx (n d : Nat) : Option Int -> Nat
  | none => d
  | some v => if v < 0 then (v + (n : Int)).toNat else min v.toNat n
theorem sIx_none (n d : Nat) : sIx n d none = d := rfl
theorem sIx_nat (n d k : Nat) : sIx n d (some (k : Int)) = min k n := by
  show (if (k : Int) < 0 then ((k : Int) + (n : Int)).toNat else min (k : Int).toNat n) = min k n
  rw [if_neg (by omega), Zw]
theorem sIx_le (n d : Nat) (hd : d <= n) (o : Option Int) : sIx n d o <= n := by
  cases o with
  | none => exact hd
  | some v =>
    show (if v < 0 then (v + (n : Int)).toNat else min v.toNat n) <= n
    by_cases hv : v < 0
    . rw [if_pos hv]; omega
    . rw [if_neg hv]; exact ZB _ _
theorem zbi (v : Int) (n d : Nat) : (if v < 0 then max (v + (n : Int)) 0 else min v (n : Int)) = ((sIx n d (some v) : Nat) : Int) := by
  show (if v < 0 then max (v + (n : Int)) 0 else min v (n : Int)) = (((if v < 0 then (v + (n : Int)).toNat else min v.toNat n) : Nat) : Int)
  by_cases hv : v < 0
  . simp only [if_pos hv]; omega
  . simp only [if_neg hv]; omega
theorem zcl (lo hi : Option Int) (n : Nat) : Builtin.Slice.sliceAdjust lo hi 1 (n : Int) = (((sIx n 0 lo : Nat) : Int), ((sIx n n hi : Nat) : Int)) := by
  have h1 : ¬ ((1 : Int) < 0) := by omega
  unfold Builtin.Slice.sliceAdjust;simp only [h1, if_false];refine Prod.ext ?_ ?_
  . cases lo with
    | none => rfl
    | some v => exact zbi v n 0
  . cases hi with
    | none => rfl
    | some v => exact zbi v n n
theorem zcu (i j : Nat) : Builtin.Slice.slicePlaces (i : Int) (j : Int) 1 = j - i := by
  unfold Builtin.Slice.slicePlaces;have h1 : (1 : Int) > 0 := by omega
  simp only [h1, if_true, Int.ediv_one]
  split <;> omega
theorem gk {v : Value} {o : Option Int} {Q : Option Int -> Shared -> Prop} (p : IsPart v o) (h : Q o s) : wpAny (model prog w) A (Builtin.Slice.slicePartIndex v) Q E s := by
  cases p with
  | none => exact slicePart_none h
  | int i t => exact slicePart_int h
theorem j8 {sl : Addr} {vl vu : Value} {lo hi : Option Int} {n : Nat} {Q : Int × Int × Nat -> Shared -> Prop} (hs : s.heap.IsSliceOf sl vl vu .none) (pl : IsPart vl lo) (pu : IsPart vu hi)
    (h : Q (((sIx n 0 lo : Nat) : Int), 1, sIx n n hi - sIx n 0 lo) s) : wpAny (model prog w) A (Builtin.Slice.sliceApplied (.ref sl) (pure (n : Int))) Q E s := by
  obtain ⟨os, hos, hcs, hds⟩ := id hs;unfold Builtin.Slice.sliceApplied Builtin.Slice.sliceFields;refine wpAny_bind (wpAny_bind (wpAny_field hos hds (x := vl) rfl (wpAny_bind (wpAny_field hos hds (x := vu) rfl (wpAny_bind (wpAny_field hos hds (x := .none) rfl (wpAny_pure ?_)))))));refine wpAny_bind (slicePart_none ?_)
  show wpAny _ _ (if ((1 : Int) == 0) = true then _ else _) _ _ s
  rw [if_neg (by decide)];refine wpAny_bind (gk pl (wpAny_bind (gk pu (wpAny_bind (wpAny_pure ?_)))))
  show wpAny _ _ (match Builtin.Slice.sliceAdjust lo hi 1 (n : Int) with | (lo, hi) => pure (lo, (1 : Int), Builtin.Slice.slicePlaces lo hi 1)) _ _ s
  rw [zcl lo hi n]
  show wpAny _ _ (pure (((sIx n 0 lo : Nat) : Int), (1 : Int), Builtin.Slice.slicePlaces ((sIx n 0 lo : Nat) : Int) ((sIx n n hi : Nat) : Int) 1)) _ _ s
  rw [zcu];exact wpAny_pure h
theorem zgi (xs : Array Value) (i k : Nat) : ((List.range k).filterMap fun (m : Nat) => xs[((i : Int) + (m : Int) * 1).toNat]?).toArray = ((xs.toList.drop i).take k).toArray := by
  have e : (fun (m : Nat) => xs[((i : Int) + (m : Int) * 1).toNat]?) = fun m => xs[i + m]? := by
    funext m
    have : ((i : Int) + (m : Int) * 1).toNat = i + m := by omega
    rw [this]
  rw [e];have := pick_run xs i k;rw [YX] at this;have e2 : ((fun x => xs[x]?) ∘ fun x => i + x) = fun m => xs[i + m]? := rfl
  rw [e2] at this;rw [this]
theorem getItem_tuple_cut {t sl : Addr} {items : Array Value} {vl vu : Value} {lo hi : Option Int} {Q : Value -> Shared -> Prop} (ht : IsTup s.heap t items) (hs : s.heap.IsSliceOf sl vl vu .none) (pl : IsPart vl lo) (pu : IsPart vu hi)
    (hw : ¬ (sIx items.size 0 lo = 0 /\ sIx items.size items.size hi = items.size))
    (h : Q (.ref s.heap.objs.size) { s with heap := s.heap.push { cls := .type "tuple", data := .seq ((items.toList.drop (sIx items.size 0 lo)).take (sIx items.size items.size hi - sIx items.size 0 lo)).toArray } })
    (hsz : items.size <= sizeLine) : wpAny (model prog w) A (getItem (.ref t) (.ref sl)) Q E s := by
  have htake : sizeOk (.seq ((items.toList.drop (sIx items.size 0 lo)).take (sIx items.size items.size hi - sIx items.size 0 lo)).toArray) := by
    show ((items.toList.drop (sIx items.size 0 lo)).take (sIx items.size items.size hi - sIx items.size 0 lo)).toArray.size <= sizeLine
    rw [Zr, Zj, ZT, YS];omega
  have hj : sIx items.size items.size hi <= items.size := sIx_le _ _ (Zm _) hi;obtain ⟨os, hos, hcs, hds⟩ := id hs;have hTs : s.TypeIs (.ref sl) "slice" := ⟨os, hos, hcs⟩;unfold getItem
  try with_reducible refine wpAny_holding ?_
  first | refine wpAny_bind (wpAny_pure ?_) | skip
  refine wpAny_bind (wpAny_sequenceKey ht.typeIs (by decide) ?_)
  refine wpAny_bind (wpAny_callSpecial?_slot (name := Str.ofString "__getitem__") ht.typeIs PyProof.Rows.slot_tuple_getitem
    (wpAny_call_entry PyProof.Rows.slot_tuple_getitem ht.typeIs entry_tuple_getitem ?_ (args_tuple_getitem _ _)))
  show wpAny _ _ (Builtin.Tuple.tupleItemsOf (.ref t) >>= _) _ _ s
  refine wpAny_bind (tupleItemsOf_ ht ?_);refine wpAny_bind (wpAny_typeOf hTs ?_);rw [if_pos (by decide)];refine wpAny_bind (j8 hs pl pu ?_)
  have hno : ¬ ((((sIx items.size 0 lo : Nat) : Int) == 0 && (1 : Int) == 1 && (sIx items.size items.size hi - sIx items.size 0 lo) == items.size) = true) := by
    intro q;rw [Bool.and_eq_true, Bool.and_eq_true] at q;have q1 : ((sIx items.size 0 lo : Nat) : Int) = 0 := eq_of_beq q.1.1;have q2 : sIx items.size items.size hi - sIx items.size 0 lo = items.size := eq_of_beq q.2;exact hw ⟨by omega, by omega⟩
  show wpAny _ _ (if (((sIx items.size 0 lo : Nat) : Int) == 0 && (1 : Int) == 1 && (sIx items.size items.size hi - sIx items.size 0 lo) == items.size) = true then _ else _) _ _ s
  rw [if_neg hno, zgi]
  first
    | exact wpAny_bind (m := Builtin.Tuple.tupleExact _) (wpAny_newObj_type (wpAny_pure ⟨_, rfl, wpAny_pure h⟩) htake)
    | exact wpAny_bind (m := Builtin.Tuple.tupleExact _) (wpAny_newObj_type (wpAny_bind (wpAny_pure (wpAny_pure ⟨_, rfl, wpAny_pure h⟩))) htake)
    | exact wpAny_bind (wpAny_bind (m := Builtin.Tuple.tupleExact _) (wpAny_newObj_type (wpAny_pure (wpAny_pure ⟨_, rfl, wpAny_pure h⟩)) htake))
    | exact wpAny_bind (wpAny_bind (m := Builtin.Tuple.tupleExact _) (wpAny_newObj_type (wpAny_pure ⟨_, rfl, wpAny_pure h⟩) htake))
end
end HT
namespace L2
open PySem PySem.Spec PyProof.Rows
abbrev TO := St -> Hp -> (Option Int -> Hp -> Prop) -> Prop
def PO (X : Cx) (e : Option Expr) (t : TO) : Prop :=
  ∀ (pins : List (Addr × Obj)) (s : Shared) (σ : St) (H : Hp) (Q : Option Int -> Hp -> Prop), Inv X pins σ H s -> t σ H Q ->
    wpAny (model X.prog X.w) X.A (evalPart e X.env) (fun u s' => ∃ o H', Inv X pins σ H' s' /\ IsPart u o /\ Q o H') X.xe s
def zbp : TO := fun _ H Q => Q none H
def tPart (t : TE) : TO := fun σ H Q => t σ H fun x H1 => ∃ i, x = .int i /\ Q (some i) H1
section
variable {X : Cx} {e : Expr} {te : TE} {lo hi : Option Expr} {tl th : TO} {pos p2 : Pos}
theorem qr : PO X none zbp := by
  intro pins s σ H Q I h;rw [evalPart_none];exact wpAny_pure ⟨none, H, I, .none, h⟩
theorem tw (h : PE X e te) : PO X (some e) (tPart te) := by
  intro pins s σ H Q I hw;rw [evalPart_some];refine thn (h pins s σ H _ I hw) fun u s1 ⟨x, H1, I1, r1, q1⟩ => ?_
  obtain ⟨i, rfl, q⟩ := q1;obtain ⟨t, rfl⟩ := r1;exact ⟨some i, H1, I1, .int i t, q⟩
def SlR (X : Cx) (r : V -> Option Int -> Option Int -> Hp -> VK -> Prop) : Prop :=
  ∀ (pins : List (Addr × Obj)) (s : Shared) (σ : St) (H : Hp) (x : V) (v vl vu : Value) (lo hi : Option Int) (sl : Addr) (Q : VK), Inv X pins σ H s -> RelV x v -> s.heap.IsSliceOf sl vl vu .none -> IsPart vl lo -> IsPart vu hi -> r x lo hi H Q ->
    ∃ T id, typeLookup (.type T) "__getitem__" = pure (some (.builtin id)) /\ s.TypeIs v T /\ wpAny (model X.prog X.w) X.A (getItem v (.ref sl)) (EP X pins σ Q) X.xe s
theorem SlR.or {r r' : V -> Option Int -> Option Int -> Hp -> VK -> Prop} (h : SlR X r) (h' : SlR X r') : SlR X (fun x lo hi H Q => r x lo hi H Q \/ r' x lo hi H Q) := by
  intro pins s σ H x v vl vu lo hi sl Q I rx hs pl pu q
  rcases q with q | q
  . exact h pins s σ H x v vl vu lo hi sl Q I rx hs pl pu q
  . exact h' pins s σ H x v vl vu lo hi sl Q I rx hs pl pu q
def tSl (r : V -> Option Int -> Option Int -> Hp -> VK -> Prop) (te : TE) (tl th : TO) : TE := fun σ H Q => te σ H fun x H1 => tl σ H1 fun l H2 => th σ H2 fun u H3 => r x l u H3 Q
theorem sg {r : V -> Option Int -> Option Int -> Hp -> VK -> Prop} (hr : SlR X r) (he : PE X e te) (hl : PO X lo tl) (hu : PO X hi th) : PE X (.Subscript e (.Slice lo hi none p2) pos) (tSl r te tl th) := by
  intro pins s σ H Q I h;refine Subscript_ (thn (he pins s σ H _ I h) fun v s1 ⟨x, H1, I1, r1, q1⟩ => ?_);refine wpAny_Slice (thn (hl pins s1 σ H1 _ I1 q1) fun vl s2 ⟨l, H2, I2, pl, q2⟩ => thn (hu pins s2 σ H2 _ I2 q2) fun vu s3 ⟨u, H3, I3, pu, q3⟩ => ?_);rw [evalPart_none];refine wpAny_pure ?_;have I4 : Inv X pins σ H3 { s3 with heap := s3.heap.push { cls := .type "slice", data := .fields #[vl, vu, .none] } } := I3.kept (t' := s3.toks) fun b ob q => Heap.get?_push_of_some _ q
  obtain ⟨T, id, hT, ht, hg⟩ := hr pins { s3 with heap := s3.heap.push { cls := .type "slice", data := .fields #[vl, vu, .none] } } σ H3 x v vl vu l u s3.heap.objs.size Q I4 r1 (Heap.IsSliceOf.new ..) pl pu q3
  show wpAny (model X.prog X.w) X.A (subscriptTail e (.Slice lo hi none p2) v (.ref s3.heap.objs.size)) (EP X pins σ Q) X.xe { s3 with heap := s3.heap.push { cls := .type "slice", data := .fields #[vl, vu, .none] } }
  exact tail_any (ops := [.ref s3.heap.objs.size, v]) ht hT hg (by with_unfolding_all rfl)
def cutV (xs : List V) (lo hi : Option Int) : List V := (xs.drop (HT.sIx xs.length 0 lo)).take (HT.sIx xs.length xs.length hi - HT.sIx xs.length 0 lo)
theorem jn (xs : List V) (lo hi : Option Int) : (cutV xs lo hi).length <= xs.length := by
  unfold cutV;rw [Zj, ZT];omega
def rSlT (K : Fg) : V -> Option Int -> Option Int -> Hp -> VK -> Prop := fun x lo hi H Q => ∃ a xs, x = .ref a /\ SqT K H a xs /\
  ¬ (HT.sIx xs.length 0 lo = 0 /\ HT.sIx xs.length xs.length hi = xs.length) /\ ∀ p, H p = none -> Q (.ref p) (upd H p (.tup (cutV xs lo hi)))
theorem zfe : SlR X (rSlT X.K) := by
  intro pins s σ H x v vl vu lo hi sl Q I rx hs pl pu h;obtain ⟨a, xs, rfl, hx, hw, q⟩ := h;cases rx;obtain ⟨its, r, ht, hz⟩ := I.tuple hx;have hlen : its.toArray.size = xs.length := by rw [Zr]; exact r.length.symm
  refine ⟨"tuple", _, PyProof.Rows.slot_tuple_getitem.lookup, ht.typeIs, ?_⟩;refine HT.getItem_tuple_cut ht hs pl pu (by rw [hlen]; exact hw) ?_ (by rw [hlen]; exact hz);rw [hlen];refine ⟨.ref s.heap.objs.size, _, I.laid (t' := s.toks) (o := .tup (cutV xs lo hi)) (fun b ob q => Heap.get?_push_of_some _ q) (Zm _) ?_, rfl, q _ (I.hok.fresh (Zm _))⟩;exact ⟨Zd (jn xs lo hi) hz, _, (r.drop (HT.sIx xs.length 0 lo)).take (HT.sIx xs.length xs.length hi - HT.sIx xs.length 0 lo), IsTupD.new _ _⟩
def rCatT (K : Fg) : R2 := fun x y H Q => ∃ a b xs ys, x = .ref a /\ y = .ref b /\ SqT K H a xs /\ SqT K H b ys /\ xs ≠ [] /\ xs.length + ys.length <= sizeLine /\
  (ys = [] -> Q (.ref a) H) /\ (ys ≠ [] -> ∀ p, H p = none -> Q (.ref p) (upd H p (.tup (xs ++ ys))))
theorem Vals.nil_iff {xs : List V} {us : List Value} (r : Vals xs us) : us = [] ↔ xs = [] := by
  cases r with
  | nil => simp
  | cons _ _ => simp
theorem zhq : OpR X (binaryOp .Add) (rCatT X.K) := by
  intro pins s σ H x y v u Q I rx ry h;obtain ⟨a, b, xs, ys, rfl, rfl, ha, hb, hx, hz, q1, q2⟩ := h;cases rx;cases ry;obtain ⟨its, r1, p1, _⟩ := I.tuple ha;obtain ⟨its2, r2, p2, _⟩ := I.tuple hb;refine HT.cat_tup p1 p2 (fun z => hx (r1.nil_iff.mp z)) (fun z => ⟨.ref a, H, I, rfl, q1 (r2.nil_iff.mp z)⟩) (fun z => ?_) (by rw [<- r1.length, <- r2.length]; exact hz);refine ⟨.ref s.heap.objs.size, _, I.laid (t' := s.toks) (o := .tup (xs ++ ys)) (fun b ob q => Heap.get?_push_of_some _ q) (Zm _) ?_, rfl, q2 (fun w => z (r2.nil_iff.mpr w)) _ (I.hok.fresh (Zm _))⟩;exact ⟨by rw [Zo]; exact hz, _, r1.append r2, IsTupD.new _ _⟩
end
end L2
namespace L2
open PySem PySem.Spec PyProof.Rows
def ixN (n : Nat) (i : Int) : Option Nat := if 0 <= i then (if i < n then some i.toNat else none) else if -(n : Int) <= i then some (i + n).toNat else none
def atI {α : Type} (xs : List α) (i : Int) : Option α := (ixN xs.length i).bind fun j => xs[j]?
theorem zhs {n : Nat} {i : Int} {j : Nat} (h : ixN n i = some j) : seqIndex? i n = some j /\ j < n /\ -(n : Int) <= i /\ i < n := by
  unfold ixN at h
  by_cases h0 : 0 <= i
  . rw [if_pos h0] at h
    by_cases h1 : i < n
    . rw [if_pos h1] at h
      have e : i.toNat = j := Option.some.inj h;exact ⟨by rw [seqIndex_of h0 h1, e], by omega, by omega, h1⟩
    . rw [if_neg h1] at h; cases h
  . rw [if_neg h0] at h
    by_cases h1 : -(n : Int) <= i
    . rw [if_pos h1] at h
      have e : (i + n).toNat = j := Option.some.inj h;exact ⟨by rw [seqIndex_neg (by omega) h1, e], by omega, h1, by omega⟩
    . rw [if_neg h1] at h; cases h
theorem fi {α : Type} {xs : List α} {i : Int} {v : α} (h : atI xs i = some v) : ∃ j, seqIndex? i xs.length = some j /\ xs[j]? = some v /\ j < xs.length /\ -(xs.length : Int) <= i /\ i < xs.length := by
  unfold atI at h
  cases e : ixN xs.length i with
  | none => rw [e] at h; cases h
  | some j =>
    rw [e] at h;obtain ⟨h1, h2, h3, h4⟩ := zhs e;exact ⟨j, h1, h, h2, h3, h4⟩
theorem zx {α : Type} {xs : List α} {j : Nat} {v : α} (h : xs[j]? = some v) : atI xs (j : Int) = some v := by
  have hj : j < xs.length := (Zc.mp h).1
  have e : ixN xs.length (j : Int) = some j := by
    unfold ixN;rw [if_pos (by omega), if_pos (by omega)]; simp
  unfold atI; rw [e]; exact h
def zhz (b : Expr) : Prop := ∀ o i, subscripted b false o i = operate [o, i] (getItem o i)
def IxR (X : Cx) (r : R2) : Prop :=
  ∀ (value slice : Expr) (pins : List (Addr × Obj)) (s : Shared) (σ : St) (H : Hp) (x y : V) (v u : Value) (Q : VK), Inv X pins σ H s -> RelV x v -> RelV y u -> r x y H Q ->
    subscripted slice false v u = operate [v, u] (getItem v u) -> wpAny (model X.prog X.w) X.A (subscriptTail value slice v u) (EP X pins σ Q) X.xe s
def MtR (X : Cx) (id : String) (r : V -> List V -> Hp -> VK -> Prop) : Prop :=
  ∀ (pins : List (Addr × Obj)) (s : Shared) (σ : St) (H : Hp) (x : V) (xs : List V) (v : Value) (us : List Value) (Q : VK), Inv X pins σ H s -> RelV x v -> Vals xs us -> r x xs H Q ->
    wpAny (model X.prog X.w) X.A (call (.builtin id) (v :: us)) (EP X pins σ Q) X.xe s
section
variable {X : Cx} {a b : Expr} {ta tb : TE} {pos : Pos}
theorem IxR.or {r r' : R2} (h : IxR X r) (h' : IxR X r') : IxR X (fun x y H Q => r x y H Q \/ r' x y H Q) := by
  intro value slice pins s σ H x y v u Q I rx ry q hs
  rcases q with q | q
  . exact h value slice pins s σ H x y v u Q I rx ry q hs
  . exact h' value slice pins s σ H x y v u Q I rx ry q hs
theorem MtR.or {id : String} {r r' : V -> List V -> Hp -> VK -> Prop} (h : MtR X id r) (h' : MtR X id r') : MtR X id (fun x xs H Q => r x xs H Q \/ r' x xs H Q) := by
  intro pins s σ H x xs v us Q I rx rs q
  rcases q with q | q
  . exact h pins s σ H x xs v us Q I rx rs q
  . exact h' pins s σ H x xs v us Q I rx rs q
theorem yi {r : R2} (hr : IxR X r) (ha : PE X a ta) (hb : PE X b tb) (hs : zhz b) : PE X (.Subscript a b pos) (tOp r ta tb) := by
  intro pins s σ H Q I h;exact Subscript_ (binT ha hb I h fun v u s2 x y H2 I2 rx ry q => hr a b pins s2 σ H2 x y v u Q I2 rx ry q (hs _ _))
def rIxL (K : Fg) : R2 := fun x y H Q => ∃ p xs i v, x = .ref p /\ y = .int i /\ SqL K H p xs /\ atI xs i = some v /\ Q v H
def rIxT (K : Fg) : R2 := fun x y H Q => ∃ p xs i v, x = .ref p /\ y = .int i /\ SqT K H p xs /\ atI xs i = some v /\ Q v H
def rIxS : R2 := fun x y H Q => ∃ z i c, x = .str z /\ y = .int i /\ z.length <= sizeLine /\ atI z.cps.toList i = some c /\ Q (.str ⟨#[c]⟩) H
theorem y9 : IxR X (rIxL X.K) := by
  intro value slice pins s σ H x y v u Q I rx ry h hs;obtain ⟨p, xs, i, z, rfl, rfl, hq, he, q⟩ := h;cases rx;obtain ⟨t, rfl⟩ := ry;obtain ⟨its, r, pl, hz⟩ := I.list hq;obtain ⟨j, h1, h2, h3, h4, h5⟩ := fi he;obtain ⟨w, ew, rw'⟩ := r.get h2;have hl := r.length;have hn := nn;have fin : EP X pins σ Q w s := ⟨z, H, I, rw', q⟩
  by_cases h0 : 0 <= i
  . have hj : i.toNat = j := by
      rw [seqIndex_of h0 h5] at h1;exact Option.some.inj h1
    exact item_listR pl.isList h0 (by omega) (by rw [hj]; simpa using ew) fin hs
  . have hj : (i + (its.toArray.size : Int)).toNat = j := by
      rw [seqIndex_neg (by omega) h4] at h1;rw [Zr, <- hl];exact Option.some.inj h1
    exact subscriptTail_builtinR (x := w) pl.isList.typeIs slot_list_getitem.lookup
      (wpAny_getItem_list_neg (Q := fun r s' => r = w /\ EP X pins σ Q r s') pl.isList (by omega) (by rw [Zr] <;> omega) (by omega) (by rw [hj]; simpa using ew) ⟨rfl, fin⟩) hs
theorem xf : IxR X (rIxT X.K) := by
  intro value slice pins s σ H x y v u Q I rx ry h hs;obtain ⟨p, xs, i, z, rfl, rfl, hq, he, q⟩ := h;cases rx;obtain ⟨t, rfl⟩ := ry;obtain ⟨its, r, pl, hz⟩ := I.tuple hq;obtain ⟨j, h1, h2, h3, h4, h5⟩ := fi he;obtain ⟨w, ew, rw'⟩ := r.get h2;have hl := r.length;have hn := nn;have fin : EP X pins σ Q w s := ⟨z, H, I, rw', q⟩
  exact subscriptTail_builtinR (x := w) pl.typeIs slot_tuple_getitem.lookup
    (getItem_tuple (j := j) (Q := fun r s' => r = w /\ EP X pins σ Q r s') pl (by omega) (by omega) (by rw [Zr, <- hl]; exact h1) (by simpa using ew) ⟨rfl, fin⟩) hs
theorem zdg : IxR X rIxS := by
  intro value slice pins s σ H x y v u Q I rx ry h hs;obtain ⟨z, i, c, rfl, rfl, hz, he, q⟩ := h;obtain ⟨t, rfl⟩ := rx;obtain ⟨t', rfl⟩ := ry;obtain ⟨j, h1, h2, h3, h4, h5⟩ := fi he;have hl : z.cps.toList.length = z.length := by simp [Str.length]
  rw [hl] at h1 h4 h5;have hn := nn
  exact tail_any (typeIs_str s z t) slot_str_getitem.lookup (getItem_str (c := c) (by
    have e1 : decide (i < -(2 ^ 63 : Int)) = false := decide_eq_false (by omega);have e2 : decide (i ≥ 2 ^ 63) = false := decide_eq_false (by omega)
    rw [e1, e2, Bool.or_false]) (by rw [h1]; simpa using h2) ⟨.str ⟨#[c]⟩, H, I.tok _, ⟨_, rfl⟩, q⟩) hs
theorem Inv.lst {pins : List (Addr × Obj)} {σ : St} {H : Hp} {s : Shared} {p : Addr} {xs : List V} (I : Inv X pins σ H s) (h : H p = some (.lst xs)) :
    ∃ (its : List Value) (n : Nat), Vals xs its /\ s.heap.get? p = some { cls := .type "list", data := .seq its.toArray n } /\ xs.length <= sizeLine := by
  obtain ⟨z, its, n, r, e⟩ := I.hok p _ h;exact ⟨its, n, r, e, z⟩
def rSetL : V -> V -> V -> Hp -> (Hp -> Prop) -> Prop := fun o i v H Q => ∃ p xs k j, o = .ref p /\ i = .int k /\ H p = some (.lst xs) /\ ixN xs.length k = some j /\ Q (upd H p (.lst (xs.set j v)))
theorem c0 (lo hi : Option Int) (n : Nat) : (sliceBounds lo hi none n).1 = ((HT.sIx n 0 lo : Nat) : Int) /\ (sliceBounds lo hi none n).2.1 = ((HT.sIx n n hi : Nat) : Int) /\ (sliceBounds lo hi none n).2.2 = 1 := by
  refine ⟨?_, ?_, rfl⟩
  . cases lo with
    | none => simp [sliceBounds, HT.sIx]
    | some i =>
      simp only [sliceBounds, HT.sIx, Option.getD_none, show (1 : Int) > 0 by decide, if_true]
      by_cases h : i < 0
      . simp only [h, if_true] <;> omega
      . simp only [h, if_false] <;> omega
  . cases hi with
    | none => simp [sliceBounds, HT.sIx]
    | some i =>
      simp only [sliceBounds, HT.sIx, Option.getD_none, show (1 : Int) > 0 by decide, if_true]
      by_cases h : i < 0
      . simp only [h, if_true] <;> omega
      . simp only [h, if_false] <;> omega
theorem d8 (its : List Value) (lo hi : Option Int) : slicePick its.toArray lo hi none = ((its.drop (HT.sIx its.length 0 lo)).take (HT.sIx its.length its.length hi - HT.sIx its.length 0 lo)).toArray := by
  obtain ⟨h1, h2, h3⟩ := c0 lo hi its.toArray.size;unfold slicePick;rw [h1, h2, h3];simp only [sliceRange_one, pick_run, Zr] <;> rfl
def rSlL (K : Fg) : V -> Option Int -> Option Int -> Hp -> VK -> Prop := fun x lo hi H Q => ∃ a xs, x = .ref a /\ SqL K H a xs /\ ∀ p, H p = none -> Q (.ref p) (upd H p (.lst (cutV xs lo hi)))
theorem k7 : SlR X (rSlL X.K) := by
  intro pins s σ H x v vl vu lo hi sl Q I rx hs pl pu h;obtain ⟨a, xs, rfl, hx, q⟩ := h;cases rx;obtain ⟨its, r, ht, hz⟩ := I.list hx;have hlen := r.length;refine ⟨"list", _, slot_list_getitem.lookup, ht.isList.typeIs, ?_⟩;refine wpAny_getItem_list_slice ht.isList hs pl pu .none (by simp) ?_ (by rw [Zr] <;> omega);rw [d8, <- hlen];refine ⟨.ref s.heap.objs.size, _, I.laid (t' := s.toks) (o := .lst (cutV xs lo hi)) (fun b ob q => Heap.get?_push_of_some _ q) (Zm _) ?_, rfl, q _ (I.hok.fresh (Zm _))⟩;exact ⟨Zd (jn xs lo hi) hz, _, 0, (r.drop (HT.sIx xs.length 0 lo)).take (HT.sIx xs.length xs.length hi - HT.sIx xs.length 0 lo), Heap.get?_push_size _ rfl⟩
def xh : V -> Bool
  | .non => true
  | .bl _ => true
  | .int _ => true
  | .str _ => true
  | _ => false
def eqV : V -> V -> Bool
  | .non, .non => true
  | .bl a, .bl b => a == b
  | .bl a, .int b => (if a then 1 else 0) == b
  | .int a, .bl b => a == (if b then 1 else 0)
  | .int a, .int b => a == b
  | .str a, .str b => a == b
  | _, _ => false
theorem zdh {A : Around} {s : Shared} {y x : V} {u v : Value} (ry : RelV y u) (rx : RelV x v) (fy : xh y = true) (fx : xh x = true) : SeqAt.EqAt A s u v (eqV y x) := by
  cases y with
  | non =>
    cases ry
    cases x with
    | non => cases rx; exact SeqAt.EqAt.same _
    | bl b => cases rx; exact SeqAt.EqAt.none_bool b
    | int b => obtain ⟨t, rfl⟩ := rx; exact SeqAt.EqAt.none_int b t
    | str b => obtain ⟨t, rfl⟩ := rx; exact SeqAt.EqAt.none_str b t
    | _ => exact absurd (show false = true from fx) Bool.false_ne_true
  | bl a =>
    cases ry
    cases x with
    | non => cases rx; exact SeqAt.EqAt.bool_none a
    | bl b => cases rx; exact SeqAt.EqAt.bool_bool a b
    | int b => obtain ⟨t, rfl⟩ := rx; exact SeqAt.EqAt.bool_int a b t
    | str b => obtain ⟨t, rfl⟩ := rx; exact SeqAt.EqAt.bool_str a b t
    | _ => exact absurd (show false = true from fx) Bool.false_ne_true
  | int a =>
    obtain ⟨t', rfl⟩ := ry
    cases x with
    | non => cases rx; exact SeqAt.EqAt.int_none a t'
    | bl b => cases rx; exact SeqAt.EqAt.int_bool a t' b
    | int b => obtain ⟨t, rfl⟩ := rx; exact SeqAt.EqAt.int_int a t' b t
    | str b => obtain ⟨t, rfl⟩ := rx; exact SeqAt.EqAt.int_str a t' b t
    | _ => exact absurd (show false = true from fx) Bool.false_ne_true
  | str a =>
    obtain ⟨t', rfl⟩ := ry
    cases x with
    | non => cases rx; exact SeqAt.EqAt.str_none a t'
    | bl b => cases rx; exact SeqAt.EqAt.str_bool a t' b
    | int b => obtain ⟨t, rfl⟩ := rx; exact SeqAt.EqAt.str_int a t' b t
    | str b => obtain ⟨t, rfl⟩ := rx; exact SeqAt.EqAt.str_str a t' b t
    | _ => exact absurd (show false = true from fx) Bool.false_ne_true
  | _ => exact absurd (show false = true from fy) Bool.false_ne_true
def eqU (x : V) (u : Value) : Bool := match u with
  | .none => eqV .non x
  | .bool b => eqV (.bl b) x
  | .int i _ => eqV (.int i) x
  | .str z _ => eqV (.str z) x
  | _ => false
theorem bu {x y : V} {u : Value} (r : RelV y u) (f : xh y = true) : eqU x u = eqV y x := by
  cases y with
  | non => cases r; rfl
  | bl b => cases r; rfl
  | int i => obtain ⟨t, rfl⟩ := r; rfl
  | str z => obtain ⟨t, rfl⟩ := r; rfl
  | _ => exact absurd (show false = true from f) Bool.false_ne_true
theorem fg {x : V} : ∀ {xs : List V} {us : List Value}, Vals xs us -> xs.all xh = true -> us.any (eqU x) = xs.any fun y => eqV y x
  | _, _, .nil, _ => rfl
  | y :: xs, u :: us, .cons r t, f => by
    rw [Xa, Bool.and_eq_true] at f;rw [YJ, YJ, bu r f.1, fg t f.2]
theorem mh {A : Around} {s : Shared} {x : V} {v : Value} (rx : RelV x v) (fx : xh x = true) : ∀ {xs : List V} {us : List Value}, Vals xs us -> xs.all xh = true -> ∀ u ∈ us, SeqAt.EqAt A s u v (eqU x u)
  | _, _, .nil, _ => fun u hu => by cases hu
  | y :: xs, u :: us, .cons r t, f => fun u' hu => by
    rw [Xa, Bool.and_eq_true] at f
    rcases ZK.mp hu with rfl | hu
    . rw [bu r f.1]; exact zdh r rx f.1 fx
    . exact mh rx fx t f.2 u' hu
def inV (x : V) (xs : List V) : Bool := xs.any fun y => eqV y x
def rIn (K : Fg) (neg : Bool) : R2 := fun x y H Q => ∃ p xs, y = .ref p /\ (SqL K H p xs \/ SqT K H p xs) /\ xh x = true /\ xs.all xh = true /\ Q (.bl (if neg then !inV x xs else inV x xs)) H
theorem zel : OpR X (compareOp .In) (rIn X.K false) := by
  intro pins s σ H x y v u Q I rx ry h;obtain ⟨p, xs, rfl, hq, fx, fs, q⟩ := h;cases ry
  rcases hq with hq | hq
  . obtain ⟨its, r, pl, hz⟩ := I.list hq
    refine SeqAt.in_listAt (eqU x) pl.isList (fun w hw => mh rx fx r fs w (by simpa using hw)) ⟨.bl _, H, I, rfl, ?_⟩;rw [show its.toArray.any (eqU x) = its.any (eqU x) by simp, fg r fs];exact q
  . obtain ⟨its, r, pl, hz⟩ := I.tuple hq
    refine SeqAt.in_tupleAt (eqU x) pl (fun w hw => mh rx fx r fs w (by simpa using hw)) ⟨.bl _, H, I, rfl, ?_⟩;rw [show its.toArray.any (eqU x) = its.any (eqU x) by simp, fg r fs];exact q
theorem yb : CallR X (.builtin "len") (fun xs H Q => ∃ p ys, xs = [.ref p] /\ (SqL X.K H p ys \/ SqT X.K H p ys) /\ Q (.int ys.length) H) := by
  intro pins s σ H xs us Q I r h;obtain ⟨p, ys, rfl, hq, q⟩ := h;obtain ⟨u, rfl, rx⟩ := ua r;cases rx;have hn := nn
  rcases hq with hq | hq
  . obtain ⟨its, r', pl, hz⟩ := I.list hq
    have hlen := r'.length;exact Calls.call_len_list pl.isList (by simp only [Zr] <;> omega) ⟨.int ys.length, H, I.tok _, ⟨s.toks + 1, by rw [Zr, hlen]⟩, q⟩
  . obtain ⟨its, r', pl, hz⟩ := I.tuple hq
    have hlen := r'.length;exact len_tuple pl (by simp only [Zr] <;> omega) ⟨.int ys.length, H, I.tok _, ⟨s.toks + 1, by rw [Zr, hlen]⟩, q⟩
theorem bw : CallR X (.builtin "len") (fun xs H Q => ∃ z, xs = [.str z] /\ z.length <= sizeLine /\ Q (.int z.length) H) := by
  intro pins s σ H xs us Q I r h;obtain ⟨z, rfl, hz, q⟩ := h;obtain ⟨u, rfl, t, rfl⟩ := ua r;have hn := nn;exact len_str (by omega) ⟨.int z.length, H, I.tok _, ⟨_, rfl⟩, q⟩
theorem CallR.or {f : Value} {r r' : List V -> Hp -> VK -> Prop} (h : CallR X f r) (h' : CallR X f r') : CallR X f (fun xs H Q => r xs H Q \/ r' xs H Q) := by
  intro pins s σ H xs us Q I rs q
  rcases q with q | q
  . exact h pins s σ H xs us Q I rs q
  . exact h' pins s σ H xs us Q I rs q
theorem d0 : CallR X (.type "tuple") (fun xs H Q => ∃ p ys, xs = [.ref p] /\ ((SqL X.K H p ys /\ ∀ l, H l = none -> Q (.ref l) (upd H l (.tup ys))) \/ (SqT X.K H p ys /\ Q (.ref p) H))) := by
  intro pins s σ H xs us Q I r h;obtain ⟨p, ys, rfl, h⟩ := h;obtain ⟨u, rfl, rx⟩ := ua r;cases rx
  rcases h with ⟨hq, q⟩ | ⟨hq, q⟩
  . obtain ⟨its, r', pl, hz⟩ := I.list hq
    have hlen := r'.length;refine call_tuple_list pl.isList (fun h' kp => ?_) (by simp only [Zr] <;> omega);have I1 : Inv X pins σ H { s with heap := h' } := I.kept (t' := s.toks) kp
    have I2 : Inv X pins σ (upd H h'.objs.size (.tup ys)) { s with heap := h'.push { cls := .type "tuple", data := .seq its.toArray } } :=
      I1.laid (t' := s.toks) (fun b o e => Heap.get?_push_of_some _ e) (Zm _) (show ObjOk X.prog X.w _ _ _ (.tup ys) from ⟨hz, its, r', IsTupD.new _ _⟩)
    exact ⟨.ref h'.objs.size, _, I2, rfl, q _ (I1.hok.fresh (Zm _))⟩
  . obtain ⟨its, r', pl, hz⟩ := I.tuple hq
    exact call_tuple_same pl ⟨.ref p, H, I, rfl, q⟩
def tyV (K : Fg) (T : String) (x : V) (H : Hp) : Prop := match x with
  | .str _ => T = "str"
  | .int _ => T = "int"
  | .ref p => (T = "list" /\ ∃ xs, SqL K H p xs) \/ (T = "tuple" /\ ∃ o, K.lookup p = some o /\ o.cls = .type "tuple" /\ o.dict = none) \/
      (T = "dict" /\ ((∃ kvs, H p = some (.dK kvs)) \/ ∃ kvs, H p = some (.dT kvs))) \/ (T = "set" /\ ∃ S n, H p = some (.set S n))
  | _ => False
theorem tyV_is {pins : List (Addr × Obj)} {σ : St} {H : Hp} {s : Shared} {T : String} {x : V} {v : Value} (I : Inv X pins σ H s) (r : RelV x v) (ty : tyV X.K T x H) :
    s.TypeIs v T /\ ∀ a, v = .ref a -> ∃ ob, s.heap.get? a = some ob /\ ob.dict = none := by
  cases x with
  | str z =>
    obtain ⟨t, rfl⟩ := r;cases (show T = "str" from ty);exact ⟨typeIs_str s z t, fun _ e => nomatch e⟩
  | int i =>
    obtain ⟨t, rfl⟩ := r;cases (show T = "int" from ty);exact ⟨typeIs_int s i t, fun _ e => nomatch e⟩
  | ref p =>
    cases r
    rcases ty with ⟨rfl, xs, hq⟩ | ⟨rfl, o, hk, hc, hd⟩ | ⟨rfl, hk⟩ | ⟨rfl, S, n, hk⟩
    . obtain ⟨its, _, pl, _⟩ := I.list hq
      refine ⟨pl.isList.typeIs, fun a e => ?_⟩;cases e;obtain ⟨o, n, e, c, hd, _⟩ := pl;exact ⟨o, e, hd⟩
    . refine ⟨⟨o, I.kIn p o hk, hc⟩, fun a e => ?_⟩
      cases e;exact ⟨o, I.kIn _ o hk, hd⟩
    . have z : ∃ o, s.heap.get? p = some o /\ o.ExactDict := by
        rcases hk with ⟨kvs, hk⟩ | ⟨kvs, hk⟩
        . obtain ⟨_, _, _, _, o, _, _, e, ex, _⟩ := I.hok p _ hk
          exact ⟨o, e, ex⟩
        . obtain ⟨_, _, _, _, o, _, _, e, ex, _⟩ := I.hok p _ hk
          exact ⟨o, e, ex⟩
      obtain ⟨o, e, ex⟩ := z;refine ⟨⟨o, e, ex.1⟩, fun a e2 => ?_⟩;cases e2;exact ⟨o, e, ex.2.1⟩
    . obtain ⟨o, _, _, _, e, ex, _⟩ := I.hok p _ hk
      refine ⟨⟨o, e, ex.1⟩, fun a e2 => ?_⟩;cases e2;exact ⟨o, e, ex.2.1⟩
  | _ => exact False.elim ty
def tBM0 (K : Fg) (T : String) (r : V -> List V -> Hp -> VK -> Prop) (to : TE) : TE := fun σ H Q => to σ H fun x H1 => tyV K T x H1 /\ r x [] H1 Q
def tBM (K : Fg) (T : String) (r : V -> List V -> Hp -> VK -> Prop) (to : TE) (t : TA) : TE := fun σ H Q => to σ H fun x H1 => tyV K T x H1 /\ t σ H1 fun xs H2 => r x xs H2 Q
variable {o e : Expr} {es : List Expr} {to : TE} {t : TA} {name : Str} {apos cpos : Pos} {T id : String} {r : V -> List V -> Hp -> VK -> Prop}
theorem zc4 (pa : PlainAttrs T) (slot : Slot T name id) (hty : typeOf (.builtin id) = pure (.type "method_descriptor")) (hm : MtR X id r) (ho : PE X o to) (ha : PA X (e :: es) t)
    (hbase : attributeBase o name X.env (eval o X.env) = eval o X.env := by rfl)
    (hfew : ((backTo cpos (starEach (e :: es) X.env)).all (fun x => !x.1) && (backToKw cpos (keywordEach [] X.env)).all (fun x => x.1.isSome)
      && decide ((e :: es).length + ([] : List Keyword).length + (if ([] : List Keyword).isEmpty then 0 else 1) < 30)) = true := by rfl)
    (hline : (apos.endLine == cpos.line) = true := by rfl) (hs : starEach (e :: es) X.env = (false, eval e X.env) :: starEach es X.env := by rfl) (hplain : (backTo cpos (starEach es X.env)).any (·.1) = false := by rfl) :
    PE X (.Call (.Attribute o name apos) (e :: es) [] cpos) (tBM X.K T r to t) := by
  intro pins s σ H Q I h;refine wpAny_Call_method_late hbase hfew hline rfl (thn (ho pins s σ H _ I h) fun v s1 ⟨x, H1, I1, r1, ty, q1⟩ => ?_);obtain ⟨h1, h2⟩ := tyV_is I1 r1 ty;refine ⟨T, id, pa, slot, hty, h1, h2, ?_⟩;have hA := ha cpos pins s1 σ H1 _ I1 q1;rw [hs] at hA ⊢;refine Calls.callWith_builtin (by show (false || (backTo cpos (starEach es X.env)).any (·.1)) = false; rw [hplain] <;> rfl) (Calls.evalArgs_plain ?_);exact thn hA fun us s2 ⟨vs, H2, I2, r2, q2⟩ => hm pins s2 σ H2 x vs v us Q I2 r1 r2 q2
end
end L2
namespace L2
open PySem PySem.Spec PyProof.Rows
def MtM (X : Cx) (id : String) (r : V -> List V -> Hp -> VK -> Prop) : Prop :=
  ∀ (pins : List (Addr × Obj)) (s : Shared) (σ : St) (H : Hp) (x : V) (xs : List V) (v : Value) (us : List Value) (Q : VK), Inv X pins σ H s -> RelV x v -> Vals xs us -> r x xs H Q ->
    wpAny (model X.prog X.w) X.A (call (.builtin id) (v :: us)) (EP X pins σ Q) X.xe s
theorem Vals.one : ∀ {x : V} {us : List Value}, Vals [x] us -> ∃ u, us = [u] /\ RelV x u
  | _, _, .cons r .nil => ⟨_, rfl, r⟩
theorem Vals.two : ∀ {x y : V} {us : List Value}, Vals [x, y] us -> ∃ u v, us = [u, v] /\ RelV x u /\ RelV y v
  | _, _, _, .cons r (.cons q .nil) => ⟨_, _, rfl, r, q⟩
theorem Vals.zero : ∀ {us : List Value}, Vals [] us -> us = []
  | _, .nil => rfl
theorem Vals.dropLast {xs : List V} {us : List Value} (h : Vals xs us) : Vals xs.dropLast us.dropLast := by
  induction h with
  | nil => exact .nil
  | cons r t ih =>
    cases t with
    | nil => exact .nil
    | cons q t' => exact .cons r ih
theorem Vals.eraseIdx : ∀ {xs : List V} {us : List Value} (i : Nat), Vals xs us -> Vals (xs.eraseIdx i) (us.eraseIdx i)
  | _, _, _, .nil => .nil
  | _, _, 0, .cons _ t => t
  | _, _, i + 1, .cons r t => .cons r (Vals.eraseIdx i t)
theorem Vals.reverse {xs : List V} {us : List Value} (h : Vals xs us) : Vals xs.reverse us.reverse := by
  induction h with
  | nil => exact .nil
  | cons r t ih => rw [YG, YG]; exact Vals.append ih (.cons r .nil)
section
variable {X : Cx} {pins : List (Addr × Obj)} {σ : St} {H : Hp} {s : Shared} {l b : Addr} {xs ys zs : List V}
theorem Inv.lset {its its' : List Value} {n : Nat} {f : Array Value -> Array Value} {t' : Nat} (I : Inv X pins σ H s) (hH : H l = some (.lst xs))
    (e : s.heap.get? l = some { cls := .type "list", data := .seq its.toArray n }) (hf : f its.toArray = its'.toArray) (hv : Vals ys its') (hz : ys.length <= sizeLine) :
    Inv X pins σ (upd H l (.lst ys)) { s with heap := s.heap.update l (Obj.mapSeq f), toks := t' } := by
  have q := PySem.IsL.update e f;rw [hf] at q;refine I.write (x := l) (e := l) (by rw [hH]; exact trivial) (.inl rfl) (fun b' u hb hu => (Heap.get?_update_other s.heap (Obj.mapSeq f) (Ne.symm hb)).trans hu) ⟨_, q⟩ ?_;exact ⟨hz, its', _, hv, q⟩
theorem Inv.lnew {its : List Value} {t' : Nat} (I : Inv X pins σ H s) (hv : Vals ys its) (hz : ys.length <= sizeLine) :
    Inv X pins σ (upd H s.heap.objs.size (.lst ys)) { s with heap := s.heap.push { cls := .type "list", data := .seq its.toArray }, toks := t' } :=
  I.laid (fun _ _ q => Heap.get?_push_of_some _ q) (Zm _) ⟨hz, its, 0, hv, Heap.get?_push_size _ rfl⟩
theorem Inv.fresh (I : Inv X pins σ H s) : H s.heap.objs.size = none := I.hok.fresh (Zm _)
theorem Inv.lstM (I : Inv X pins σ H s) (hH : H l = some (.lst xs)) : xs.length <= sizeLine /\ ∃ (its : List Value) (n : Nat), Vals xs its /\ xs.length = its.length /\ s.heap.get? l = some { cls := .type "list", data := .seq its.toArray n } := by
  obtain ⟨z, its, n, r, e⟩ := I.hok l _ hH;exact ⟨z, its, n, r, r.length, e⟩
theorem zgs {n : Nat} (h : n <= sizeLine) : Builtin.List.listTooLong n = false := by
  unfold Builtin.List.listTooLong;exact decide_eq_false (by omega)
end
section
variable {X : Cx}
def zbc : V -> List V -> Hp -> VK -> Prop := fun x vs H Q => ∃ l xs y, x = .ref l /\ vs = [y] /\ H l = some (.lst xs) /\ xs.length < sizeLine /\ Q .non (upd H l (.lst (xs ++ [y])))
theorem ef : MtM X "list.append" zbc := by
  intro pins s σ H x vs v us Q I rx rv h;obtain ⟨l, xs, y, rfl, rfl, hH, hz, q⟩ := h;cases rx;obtain ⟨u, rfl, ru⟩ := rv.one;obtain ⟨z, its, n, r, hl, e⟩ := I.lstM hH;refine call_meets F.slot_list_append ⟨_, e, rfl⟩ F.entry_list_append (F.args_list_append_2 _ _) (PySem.list_append l its.toArray n u (by rw [Zr]; omega)) ⟨e, ?_⟩;refine ⟨.non, _, I.lset (its' := its ++ [u]) hH e (by simp) (r.append (.cons ru .nil)) ?_, rfl, q⟩;rw [Zo, YO];omega
def zbq : V -> List V -> Hp -> VK -> Prop := fun x vs H Q => ∃ l b xs zs, x = .ref l /\ vs = [.ref b] /\ H l = some (.lst xs) /\ H b = some (.lst zs) /\ xs.length + zs.length <= sizeLine /\ Q .non (upd H l (.lst (xs ++ zs)))
theorem ze7 : MtM X "list.extend" zbq := by
  intro pins s σ H x vs v us Q I rx rv h;obtain ⟨l, b, xs, zs, rfl, rfl, hH, hB, hz, q⟩ := h;cases rx;obtain ⟨u, rfl, ru⟩ := rv.one;cases ru;obtain ⟨z, its, n, r, hl, e⟩ := I.lstM hH;obtain ⟨z2, its2, n2, r2, hl2, e2⟩ := I.lstM hB;have hsz : its.toArray.size + its2.toArray.size <= sizeLine := by rw [Zr, Zr]; omega
  have hlong : ¬ (!its.toArray.isEmpty && Builtin.List.listTooLong (its.toArray.size + its2.toArray.size)) = true := by
    rw [zgs hsz, Bool.and_false];exact Bool.false_ne_true
  refine call_meets F.slot_list_extend ⟨_, e, rfl⟩ F.entry_list_extend (F.args_list_extend_2 _ _)
    (AutoSeq1.list_extend_list_list_0 l its.toArray n b its2.toArray n2 hlong (by rw [Zr]; omega) (by omega)) ⟨e, e2, ?_⟩
  refine ⟨.non, _, I.lset (its' := its ++ its2) hH e (by simp) (r.append r2) ?_, rfl, q⟩;rw [Zo];omega
def rCat : R2 := fun x y H Q => ∃ l b xs zs, x = .ref l /\ y = .ref b /\ H l = some (.lst xs) /\ H b = some (.lst zs) /\ xs.length + zs.length <= sizeLine /\ ∀ p, H p = none -> Q (.ref p) (upd H p (.lst (xs ++ zs)))
theorem bo : OpR X (binaryOp .Add) rCat := by
  intro pins s σ H x y v u Q I rx ry h;obtain ⟨l, b, xs, zs, rfl, rfl, hH, hB, hz, q⟩ := h;cases rx;cases ry;obtain ⟨z, its, n, r, hl, e⟩ := I.lstM hH;obtain ⟨z2, its2, n2, r2, hl2, e2⟩ := I.lstM hB;refine PySem.P.add_list e e2 ?_ (by rw [Zr, Zr]; omega);have ea : its.toArray ++ its2.toArray = (its ++ its2).toArray := by simp
  rw [ea];exact ⟨.ref _, _, I.lnew (t' := s.toks) (r.append r2) (by rw [Zo]; omega), rfl, q _ I.fresh⟩
def rRep : R2 := fun x y H Q => ∃ l k xs, x = .ref l /\ y = .int k /\ H l = some (.lst xs) /\ -(2 ^ 63) <= k /\ k < 2 ^ 63 /\ xs.length * k.toNat <= sizeLine /\
  ∀ p, H p = none -> Q (.ref p) (upd H p (.lst (List.replicate k.toNat xs).flatten))
end
section
variable {prog : Program} {w : World} {A : Around} {E : Value -> Shared -> Prop} {s : Shared}
set_option maxRecDepth 100000 in
end
section
variable {X : Cx}
end
end L2
namespace Att
open PySem PySem.W PySem.Calls PyProof.Rows
theorem gz {P : Params} {h : Heap} : ∀ (ns : List Int) (vs : List Value), WellAll P h vs (ns.map WData.int) -> IntsAre vs ns := by
  intro ns
  induction ns with
  | nil =>
    intro vs w;rw [Xc] at w;cases w;exact .nil
  | cons n ns ih =>
    intro vs w;rw [ZL] at w
    cases w with
    | cons a b =>
      cases a;exact .cons _ _ (ih _ b)
theorem zdl {l : OpenLaw} {n : Nat} (hn : l.most = some n) {P : Params} {h : Heap} {args : List WData} {vals : List Value}
    (hpre : l.row.toRowW.claim.pre args = true) (hwl : WellAll P h vals args) :
    ∃ a vs ns, vals = [Value.ref a] /\ args = [WData.list (ns.map WData.int)] /\ h.get? a = some { cls := .type "list", data := .seq vs.toArray } /\ IntsAre vs ns /\ ns.length <= n := by
  have hsh : WShape.hasAll [] args [.list .int] = true := (pre_splitW hpre).1;have hc : l.pre.holds [] { args := args } = true := (pre_splitW hpre).2;obtain ⟨d, r, rfl, h1, h2⟩ := hasAllW_cons hsh;obtain rfl := hasAllW_nil h2;obtain ⟨xs, rfl, h3⟩ := hasW_list h1;obtain ⟨ns, rfl⟩ := items_int h3
  have hlen : ns.length <= n := by
    unfold OpenLaw.pre at hc
    have h4 : (WTm.not (.lt (.lit (.int (n : Int))) (.len (.arg 0)))).holds [] { args := [.list (ns.map .int)] } = true := by
      have h4 := (holds_andW hc).1;rw [hn] at h4;exact h4
    have h5 := condW_of h4 (w_not (w_lt w_lit (w_len_list (w_arg rfl))));rw [Za] at h5;refine Nat.le_of_not_lt fun q => ?_
    have q' : (n : Int) < ((ns.length : Nat) : Int) := by omega
    first
      | (rw [decide_eq_true q'] at h5; exact absurd h5 (by decide))
      | (simp at h5; omega)
  cases hwl with
  | cons w1 w2 =>
    cases w2
    cases w1 with
    | list ho hall => exact ⟨_, _, ns, rfl, rfl, ho, gz ns _ hall, hlen⟩
theorem zee (l : OpenLaw) (args : List WData) : l.row.toRowW.claim.post args (.bool true) args = true :=
  postW_of (r := l.row.toRowW) (X := (true == true))
    (show WShape.has [] (.bool true) .bool = true by first | rfl | decide | simp [WShape.has, WShape.arms, WShape.armsAll])
    (show (WTm.eq .res (.lit (.bool true))).value [] { args := args, res := some (.bool true), after := args } = some (.bool (true == true)) from w_eq_bool (w_res rfl) w_lit) rfl
theorem zas {l : OpenLaw} {n : Nat} {q : Program} {loose : List Str} {XP : (Str -> Option Value) -> Heap -> Prop} {YP : World -> Heap -> Prop} {d : DefRec}
    (hn : l.most = some n) (hdf : d.params.defaults = [])
    (call : ∀ (w : World) (s₀ s₁ : Shared) (mg mb : Str -> Option Value) (fa : Addr) (o : Obj) (pm cd doc : Value) (a : Addr) (vs : List Value) (ns : List Int),
      Ground q loose [] XP w s₀ mg mb s₁.heap -> YP w s₁.heap ->
      s₁.heap.get? fa = some o -> o.data = .func (docDef d.name d.params d.body d.scope pm cd doc) -> s₁.heap.CodeRec cd d.name -> mg d.name = some (.ref fa) ->
      s₁.heap.get? a = some { cls := .type "list", data := .seq vs.toArray } -> IntsAre vs ns -> ns.length <= n -> s₁.gens = #[] ->
      codeAny (model l.prog w) callerA (.call (.ref fa) ⟨[.ref a], []⟩) (fun r s' => r = .ok (.ret (.bool true)) /\ OldK s₁.heap s'.heap /\ s'.os = s₁.os /\ AllBare s'.gens) s₁) :
    WalkO q loose XP YP l.row.toRowW d [] (fun f vs => PySem.call f vs) := by
  intro w s₀ s₁ mg mb G Y fa o pm cd doc dV kV ho hd hcd hD hmg hg args vals as hpre hlay hrd hwl hlo;obtain rfl : dV = .none := Dflts.none hD hdf;obtain rfl : kV = .none := Dflts.noKw hD;obtain ⟨a, vs, ns, rfl, rfl, hobj, hints, hlen⟩ := zdl hn hpre hwl;refine enter_call (codeAny_mono (call w s₀ s₁ mg mb fa o pm cd doc a vs ns G Y ho (fd_plain hd) hcd hmg hobj hints hlen hg) fun r s' hq => ?_);obtain ⟨rfl, h2, h3, h4⟩ := hq;exact ⟨.inl ⟨.bool true, .bool true, [], rfl, fun _ => rfl, .bool true, zee l _, fun _ => ⟨List.Pairwise.nil, fun _ hm => (nomatch hm)⟩⟩, h2, h3, h4⟩
section
variable {prog : Program} {w : World} {A : Around} {E : Value -> Shared -> Prop} {s : Shared} {K : Frag}
def ledger (h : Heap) (L d : Addr) : List (Addr × Obj) := (List.range h.objs.size).filterMap fun a => if a = L \/ a = d then none else (h.get? a).map fun o => (a, o)
end
end Att
namespace L2
open PySem PySem.Spec PyProof.Rows
theorem dk : ∀ {vs : List Value} {ns : List Int}, IntsAre vs ns -> Vals (ns.map V.int) vs
  | _, _, .nil => .nil
  | _, _, .cons n t h => .cons ⟨t, rfl⟩ (dk h)
def Only (H : Hp) : Prop := ∀ b, H b = none \/ ∃ o xs, H b = some (.frz o (.lst xs))
theorem zgl {P : Program} {w : World} {K : Fg} {mg mb : Str -> Option Value} {CX : CXT} {k : Nat} {fa a : Addr} {fd : FuncData} {x : Str} {sp : Sp} {s₁ : Shared} {vs : List Value} {ns : List Int}
    (KX : K.In s₁.heap) (hns : s₁.heap.Ns mainGlobals mg) (hb : s₁.heap.Ns builtinsNs mb) (hbb : ∀ x : Str, x ≠ "__name__" -> mb x = bootBuiltins x) (hlim : s₁.heap.NoLimit) (hg : s₁.gens = #[])
    (ha : s₁.heap.get? a = some { cls := .type "list", data := .seq vs.toArray }) (hi : IntsAre vs ns) (hl : ns.length <= sizeLine) (hr : Room k callerA)
    (F : ∀ base : Heap, K.In base -> base.Ns mainGlobals mg -> FnOk P w K mg base CX k fa fd [x] sp) (hbind : ∀ (s : Shared) (u : Value), BindsTo s fd ⟨[u], []⟩ [(x, u)])
    (hsp : ∀ H : Hp, Only H -> SqL K H a (ns.map V.int) -> sp [.ref a] H (fun v _ => v = .bl true) fun _ _ _ => False)
    (hCX : ∀ H e s', CX [] H s₁ (fun _ _ _ => False) e s' -> False) :
    codeAny (model P w) callerA (.call (.ref fa) ⟨[.ref a], []⟩) (fun r s' => r = .ok (.ret (.bool true)) /\ OldK s₁.heap s'.heap /\ s'.os = s₁.os /\ AllBare s'.gens) s₁ := by
  have rv := dk hi;have lenV := hi.length
  -- from an abstract heap in which nothing but the script may be tracked
  have core : ∀ H : Hp, Only H -> SqL K H a (ns.map V.int) -> HOk P w H s₁.heap -> (∀ b, H b ≠ none -> b = a) -> (H a ≠ none -> K.lookup a = none) ->
      codeAny (model P w) callerA (.call (.ref fa) ⟨[.ref a], []⟩) (fun r s' => r = .ok (.ret (.bool true)) /\ OldK s₁.heap s'.heap /\ s'.os = s₁.os /\ AllBare s'.gens) s₁ := by
    intro H hO hS hok hA hK;have base_of : ∀ {b : Addr} {o : Obj}, s₁.heap.get? b = some o -> H b = none -> (hidT s₁.heap H).get? b = some o := fun e n => zgb e n
    have noA : ∀ {b : Addr} {o : Obj} {es : Array DictEntry} {ep : Nat}, s₁.heap.get? b = some o -> o.data = .dict es ep -> H b = none := fun {b o es ep} e d => by
      cases q : H b with
      | none => rfl
      | some u =>
        have e' : b = a := hA b (by rw [q]; simp);subst e';rw [ha] at e; cases e;have d' : Data.seq vs.toArray _ = Data.dict es ep := d;cases d'
    have nsK : ∀ {b : Addr} {m : Str -> Option Value}, s₁.heap.Ns b m -> (hidT s₁.heap H).Ns b m := fun {b m} ⟨o, es, ep, e, d, r⟩ => ⟨o, es, ep, base_of e (noA e d), d, r⟩
    have hKb : K.In (hidT s₁.heap H) := fun b o e => base_of (KX b o e) (by
      cases q : H b with
      | none => rfl
      | some u =>
        have e' : b = a := hA b (by rw [q]; simp);subst e'
        rw [hK (by rw [q]; simp)] at e; cases e)
    have hM : Mod K mg (hidT s₁.heap H) := ⟨hKb, nsK hns, ⟨mb, nsK hb, hbb⟩, let ⟨mc, h1, h2⟩ := hlim; ⟨mc, nsK h1, h2⟩⟩;have e0 : Env0 P w K mg (hidT s₁.heap H) callerA [] s₁ H := ⟨rfl, hM, fun b o e => zh6 e, Nat.le_of_eq (zd5 _ _), trivial, fun b hb => absurd (show b ∈ ([] : List Addr) from hb) (by simp), hok, .of_eq hg⟩;refine codeAny_mono ((F _ hKb (nsK hns)).run callerA [] s₁ H ⟨[.ref a], []⟩ [.ref a] [.ref a] _ _ hr e0 (hbind s₁ (.ref a)) (.cons rfl .nil) (hsp H hO hS)) fun r s' h => ?_
    cases r with
    | error e => exact (hCX H e s' h).elim
    | ok fl =>
      cases fl with
      | next => exact False.elim h
      | brk => exact False.elim h
      | cont => exact False.elim h
      | ret u =>
        obtain ⟨v, H', os, bare, un, hok', r', q⟩ := h;have q' : v = .bl true := q;subst q';obtain rfl : u = Value.bool true := r';refine ⟨rfl, OldK.of_keep fun b o e => ?_, os, bare⟩
        cases q : H b with
        | none => exact un.keep b o e q (by intro z; exact absurd (show b ∈ ([] : List Addr) from z) (by simp)) (by simp)
        | some u =>
          rcases hO b with z | ⟨ob, xs, z⟩
          . rw [q] at z; cases z
          . have z2 := un.frzs b ob _ z
            obtain ⟨e1, _⟩ := hok b _ z;obtain ⟨e2, _⟩ := hok' b _ z2;rw [e] at e1; cases e1;exact e2
  cases hk : K.lookup a with
  | some o =>
    -- the script is one of the module's own objects
    have e := KX a o hk;rw [ha] at e;cases e;refine core (fun _ => none) (fun _ => .inl rfl) (.inr ⟨_, vs.toArray, _, hk, rfl, rfl, rfl, by rw [Zr, lenV]; exact hl, by simpa using rv⟩) (fun b u z => by have z' : (none : Option HO) = some u := z; cases z') (fun b z => absurd rfl z) fun z => absurd rfl z
  | none =>
    refine core (fun b => if b = a then some (.frz { cls := .type "list", data := .seq vs.toArray } (.lst (ns.map V.int))) else none) (fun b => ?_) (.inl (.inr ⟨{ cls := .type "list", data := .seq vs.toArray }, if_pos rfl⟩)) (fun b u z => ?_) (fun b z => ?_) fun _ => hk
    . by_cases hb : b = a
      . exact .inr ⟨_, _, if_pos hb⟩
      . exact .inl (if_neg hb)
    . by_cases hb : b = a
      . have z' := (if_pos hb).symm.trans z
        cases z';subst hb;exact ⟨ha, by rw [Za]; exact hl, vs, _, rv, ha⟩
      . have z' := (if_neg hb).symm.trans z
        cases z'
    . by_cases hb : b = a
      . exact hb
      . exact absurd (if_neg hb) z
end L2
namespace L2
open PySem PySem.Spec PyProof.Rows
abbrev KOf {K : Fg} {h : Heap} (_ : K.In h) : Fg := K
theorem zg1 {l : PySem.W.OpenLaw} {n k : Nat} {q : Program} {loose : List Str} {XP : (Str -> Option Value) -> Heap -> Prop} {YP : World -> Heap -> Prop} {d : DefRec} {K : Params -> Fg} {CX : World -> CXT} {sp : World -> Sp} {x : Str}
    (hn : l.most = some n) (hn2 : n <= sizeLine) (hdf : d.params.defaults = []) (hr : Room k callerA)
    (hY : ∀ (w : World) (h : Heap), YP w h -> (K w.params).In h)
    (F : ∀ (w : World) (mg : Str -> Option Value) (fa : Addr) (h : Heap), (K w.params).In h -> h.Ns mainGlobals mg -> mg d.name = some (.ref fa) ->
      ∃ fd : FuncData, (∀ (s : Shared) (u : Value), BindsTo s fd ⟨[u], []⟩ [(x, u)]) /\
        ∀ base : Heap, (K w.params).In base -> base.Ns mainGlobals mg -> FnOk l.prog w (K w.params) mg base (CX w) k fa fd [x] (sp w))
    (hsp : ∀ (w : World) (H : Hp) (a : Addr) (ns : List Int), ns.length <= n -> Only H -> SqL (K w.params) H a (ns.map V.int) -> sp w [.ref a] H (fun v _ => v = .bl true) fun _ _ _ => False)
    (hCX : ∀ (w : World) (H : Hp) (s : Shared) (e : Value) (s' : Shared), CX w [] H s (fun _ _ _ => False) e s' -> False) :
    PySem.W.WalkO q loose XP YP l.row.toRowW d [] (fun f vs => PySem.call f vs) := by
  refine Att.zas hn hdf fun w s₀ s₁ mg mb fa o pm cd doc a vs ns G Y ho hd hcd hmg hobj hints hlen hg => ?_
  have KX := hY w _ Y;obtain ⟨fd, hb, hF⟩ := F w mg fa _ KX G.T.g hmg;exact zgl KX G.T.g G.T.b G.T.builtins G.T.nolimit hg hobj hints (Zd hlen hn2) hr hF hb (fun H hO hS => hsp w H a ns hlen hO hS) fun H e s' => hCX w H s₁ e s'
theorem zgq {l : PySem.W.OpenLaw} {n k : Nat} {q : Program} {loose : List Str} {XP : (Str -> Option Value) -> Heap -> Prop} {YP : World -> Heap -> Prop} {d : DefRec} {K : Params -> Fg} {CX : CXT} {sp : Fg -> Sp} {x : Str}
    (hn : l.most = some n) (hn2 : n <= sizeLine) (hdf : d.params.defaults = []) (hr : Room k callerA)
    (hY : ∀ (w : World) (h : Heap), YP w h -> (K w.params).In h)
    (F : ∀ (w : World) (mg : Str -> Option Value) (fa : Addr) (h : Heap), (K w.params).In h -> h.Ns mainGlobals mg -> mg d.name = some (.ref fa) ->
      ∃ fd : FuncData, (∀ (s : Shared) (u : Value), BindsTo s fd ⟨[u], []⟩ [(x, u)]) /\
        ∀ base : Heap, (K w.params).In base -> base.Ns mainGlobals mg -> FnOk l.prog w (K w.params) mg base CX k fa fd [x] (sp (K w.params)))
    (hsp : ∀ (K : Fg) (H : Hp) (a : Addr) (ns : List Int), ns.length <= n -> Only H -> SqL K H a (ns.map V.int) -> sp K [.ref a] H (fun v _ => v = .bl true) fun _ _ _ => False)
    (hCX : ∀ (H : Hp) (s : Shared) (e : Value) (s' : Shared), CX [] H s (fun _ _ _ => False) e s' -> False) :
    PySem.W.WalkO q loose XP YP l.row.toRowW d [] (fun f vs => PySem.call f vs) :=
  zg1 (K := K) (CX := fun _ => CX) (sp := fun w => sp (K w.params)) hn hn2 hdf hr hY F (fun w H a ns h1 h2 h3 => hsp (K w.params) H a ns h1 h2 h3) fun _ H s e s' => hCX H s e s'
end L2
namespace L2
open PySem PySem.Spec PyProof.Rows
def ui (s : Stmt) : Arguments := match s with
  | .FunctionDef _ a _ _ _ _ _ _ _ _ => a
  | _ => { posonlyargs := [], args := [], vararg := none, kwonlyargs := [], kw_defaults := [], kwarg := none, defaults := [] }
def zy (s : Stmt) : List Stmt := match s with
  | .FunctionDef _ _ b _ _ _ _ _ _ _ => b
  | _ => []
def ze (s : Stmt) : Scope := match s with
  | .FunctionDef _ _ _ _ _ _ sc _ _ _ => sc
  | _ => { kind := .function, names := [], isGenerator := false, isCoroutine := false }
abbrev CX0 : CXT := fun _ _ _ _ _ _ => False
abbrev E0 : XK := fun _ _ _ => False
theorem pass0 {X : Cx} : j9 CX0 X E0 := fun _ _ _ _ _ _ _ h => h.elim
structure Fun (K : Fg) (x qual : Str) (st : Stmt) (f : Addr) (fd : FuncData) : Prop where
  ex : ∃ (oc : Value) (od : Option Addr) (kV doc pm : Value) (an : Option Addr) (cdv ct : Value) (osl : Array (Option Value)),
    fd = PySem.W.fnOf x qual (ui st) (zy st) (ze st) .none kV doc pm an cdv ct /\ K.lookup f = some ⟨oc, od, .func fd, osl⟩ /\ PySem.W.codeIn K cdv qual = true
  kp : PySem.W.keepIn K (.ref f) = true
section
variable {P : Program} {w : World} {K : Fg} {mg : Str -> Option Value} {base : Heap}
theorem Fun.ok {x qual : Str} {st : Stmt} {f : Addr} {fd : FuncData} {N ps : List Str} {k : Nat} {sp : Sp} (F : Fun K x qual st f fd) (S : z6 N ps (ze st)) (len : ∀ vs H Q E, sp vs H Q E -> vs.length = ps.length)
    (hbody : ∀ (cdv : Value) (A : Around) (outer : List Env) (s : Shared) (H : Hp) (vs : List V) (Q : VK) (E : XK), Room k (A.deeper (envOfC qual (ze st) s.heap.objs.size f cdv)) -> sp vs H Q E ->
      ∃ t, PSs (cxOf CX0 P w K mg base N qual (ze st) f cdv A outer s H E).nox (zy st) t /\ t { nx := fun _ H' => Q .non H', rt := Q } (start N vs) H) : FnOk P w K mg base CX0 (k + 1) f fd ps sp := by
  obtain ⟨oc, od, kV, doc, pm, an, cdv, ct, osl, rfl, lk, hcd⟩ := F.ex;refine fn_of lk hcd S len fun A outer s H vs Q E hr hsp => ?_
  obtain ⟨t, h, q⟩ := hbody cdv A outer s H vs Q E hr hsp;exact ⟨t, h.nox, q⟩
theorem Fun.binds {x qual : Str} {st : Stmt} {f : Addr} {fd : FuncData} {ps : List Str} (F : Fun K x qual st f fd)
    (h : ∀ (kV doc pm : Value) (an : Option Addr) (cdv ct : Value) (us : List Value), us.length = ps.length -> bindArgs (PySem.W.fnOf x qual (ui st) (zy st) (ze st) .none kV doc pm an cdv ct) ⟨us, []⟩ = pure (ps.zip us)) : Binds K fd ps [] := by
  obtain ⟨oc, od, kV, doc, pm, an, cdv, ct, osl, rfl, lk, hcd⟩ := F.ex;exact .all (h kV doc pm an cdv ct)
theorem zdy {x qual : Str} {st : Stmt} {f : Addr} {oc : Value} {od an : Option Addr} {osl : Array (Option Value)} {kV doc pm cdv ct : Value} (l : K.lookup f = some ⟨oc, od, .func (PySem.W.fnOf x qual (ui st) (zy st) (ze st) .none kV doc pm an cdv ct), osl⟩)
    (c : PySem.W.codeIn K cdv qual = true) (k : PySem.W.keepIn K (.ref f) = true) : Fun K x qual st f (PySem.W.fnOf x qual (ui st) (zy st) (ze st) .none kV doc pm an cdv ct) := ⟨⟨oc, od, kV, doc, pm, an, cdv, ct, osl, rfl, l, c⟩, k⟩
end
theorem hu_of {A : Around} {k : Nat} (hr : Room k A) : A.units + 1 < cLine := ZR (Nat.add_le_add_left (by decide : 1 <= 64) _) hr.units
section
variable {X : Cx}
theorem pv (i : Nat) {x : Str} {pos : Pos} (hN : X.N[i]? = some x := by rfl) (hv : Vis X.env.scope x := by first | exact Or.inl rfl | exact Or.inr (Or.inl rfl) | exact Or.inr (Or.inr rfl)) (hd : (x == ("__debug__" : Str)) = false := by decide)
    (hcd : (x == ("__classdict__" : Str)) = false := by decide) : PE X (.Name x pos) (tVar i) := pe_var hN hv hd hcd
end
theorem iteF {A B : Prop} (h : B) : if false = true then A else B := by
  rw [if_neg Bool.false_ne_true];exact h
theorem iteT {A B : Prop} (h : A) : if true = true then A else B := by
  rw [if_pos rfl];exact h
theorem ite2 {c A B : Prop} [Decidable c] (h1 : c -> A) (h2 : ¬ c -> B) : if c then A else B := by
  by_cases h : c
  . rw [if_pos h]
    exact h1 h
  . rw [if_neg h]
    exact h2 h
theorem zcx {c A B : Prop} [Decidable c] (hc : c) (h : B) : if (!decide c) = true then A else B := by
  rw [decide_eq_true hc];exact iteF h
def Same (H H' : Hp) : Prop := ∀ b o, H b = some o -> H' b = some o
theorem Same.refl (H : Hp) : Same H H := fun _ _ h => h
theorem Same.trans {H H1 H2 : Hp} (a : Same H H1) (b : Same H1 H2) : Same H H2 := fun c o h => b c o (a c o h)
theorem Same.free {H H' : Hp} (e : Same H H') {l : Addr} (h : H' l = Option.none) : H l = Option.none := by
  cases q : H l with
  | none => rfl
  | some o =>
    rw [e l o q] at h;cases h
theorem Same.seq {K : Fg} {H H' : Hp} {a : Addr} {xs : List V} (e : Same H H') (h : SqL K H a xs) : SqL K H' a xs := by
  rcases h with (h | ⟨o, h⟩) | h
  . exact .inl (.inl (e _ _ h))
  . exact .inl (.inr ⟨o, e _ _ h⟩)
  . exact .inr h
end L2
namespace L2
open PySem PySem.Spec PyProof.Rows
section
variable {κ : Type} [DecidableEq κ]
def valV (kvs : List (κ × V)) (k : κ) : Option V := (kvs.find? fun kv => decide (kv.1 = k)).map (·.2)
def putK (kvs : List (κ × V)) (k : κ) (v : V) : List (κ × V) :=
  if (kvs.any fun kv => decide (kv.1 = k)) = true then kvs.map (fun kv => if kv.1 = k then (kv.1, v) else kv) else kvs ++ [(k, v)]
def y6 (kvs : List (κ × V)) (k : κ) : List (κ × V) := kvs.filter fun kv => decide (kv.1 ≠ k)
theorem zgn {k : κ} : valV ([] : List (κ × V)) k = none := rfl
theorem xj {p : κ × V} {r : List (κ × V)} {k : κ} (e : p.1 = k) : valV (p :: r) k = some p.2 := by simp [valV, Yq, e]
theorem y8 {p : κ × V} {r : List (κ × V)} {k : κ} (e : ¬ p.1 = k) : valV (p :: r) k = valV r k := by simp [valV, Yq, e]
theorem w4 (k : κ) : ∀ kvs : List (κ × V), (kvs.any fun kv => decide (kv.1 = k)) = (valV kvs k).isSome
  | [] => rfl
  | p :: r => by
    rw [YJ]
    by_cases e : p.1 = k
    . simp only [xj e, decide_eq_true e, Bool.true_or, Option.isSome_some]
    . rw [y8 e, decide_eq_false e, Bool.false_or]; exact w4 k r
theorem bn (k j : κ) (y : V) : ∀ kvs : List (κ × V), valV (kvs.map fun kv => if kv.1 = k then (kv.1, y) else kv) j = (valV kvs j).map fun x => if j = k then y else x
  | [] => rfl
  | p :: r => by
    have ih := bn k j y r;rw [ZL]
    by_cases h : p.1 = k
    . rw [if_pos h]
      by_cases e : p.1 = j
      . rw [xj (p := (p.1, y)) e, xj e, ZW, if_pos (e.symm.trans h)]
      . rw [y8 (p := (p.1, y)) e, y8 e, ih]
    . rw [if_neg h]
      by_cases e : p.1 = j
      . rw [xj (p := p) e, xj e, ZW, if_neg (fun z => h (e.trans z))]
      . rw [y8 (p := p) e, y8 e, ih]
theorem dv (k j : κ) (y : V) : ∀ kvs : List (κ × V), valV kvs k = none -> valV (kvs ++ [(k, y)]) j = if j = k then some y else valV kvs j
  | [], _ => by
    by_cases e : k = j
    . rw [if_pos e.symm]; exact xj (p := (k, y)) e
    . rw [if_neg (fun z => e z.symm)]; exact y8 (p := (k, y)) e
  | p :: r, hn => by
    rw [List.cons_append];have hk : ¬ p.1 = k := fun z => by rw [xj z] at hn; cases hn
    rw [y8 hk] at hn;have ih := dv k j y r hn
    by_cases e : p.1 = j
    . rw [xj e, xj e, if_neg (fun z => hk (e.trans z))]
    . rw [y8 e, y8 e, ih]
theorem si (kvs : List (κ × V)) (k j : κ) (y : V) : valV (putK kvs k y) j = if j = k then some y else valV kvs j := by
  unfold putK
  by_cases a : (kvs.any fun kv => decide (kv.1 = k)) = true
  . rw [if_pos a, bn]
    rw [w4] at a
    by_cases e : j = k
    . obtain ⟨x, hx⟩ := Yy.mp a
      rw [if_pos e, e, hx, ZW, if_pos rfl]
    . rw [if_neg e]
      cases valV kvs j with
      | none => rfl
      | some x => rw [ZW, if_neg e]
  . rw [if_neg a]
    refine dv k j y kvs ?_;rw [w4] at a
    cases q : valV kvs k with
    | none => rfl
    | some x => rw [q] at a; exact (a rfl).elim
theorem x5 (kvs : List (κ × V)) (k : κ) (v : V) : (putK kvs k v).length <= kvs.length + 1 := by
  unfold putK
  split
  . rw [Za]; omega
  . rw [Zo, ZP, Yv]; omega
theorem m7 {kvs : List (κ × V)} {k : κ} (v : V) (h : valV kvs k = none) : putK kvs k v = kvs ++ [(k, v)] := by
  unfold putK;rw [w4, h];exact if_neg (by decide)
theorem RelO.isSome_eq {o : Option V} {u : Option Value} (r : RelO o u) : o.isSome = u.isSome := by
  cases o with
  | none => cases u with
    | none => rfl
    | some _ => exact (show False from r).elim
  | some _ => cases u with
    | none => exact (show False from r).elim
    | some _ => rfl
theorem RelO.getD {o : Option V} {u : Option Value} {d : V} {d' : Value} (r : RelO o u) (rd : RelV d d') : RelV (o.getD d) (u.getD d') := by
  cases o with
  | none => cases u with
    | none => exact rd
    | some _ => exact (show False from r).elim
  | some _ => cases u with
    | none => exact (show False from r).elim
    | some _ => exact r
theorem KV.val {kvs : List (κ × V)} {vs : List (κ × Value)} (r : KV kvs vs) (k : κ) : RelO (valV kvs k) (valueAt vs k) := by
  unfold KV at r
  induction r with
  | nil => exact True.intro
  | @cons p q ps qs h t ih =>
    obtain ⟨h1, h2⟩ := h
    by_cases e : p.1 = k
    . have e' : q.1 = k := h1.symm.trans e
      have b : valueAt (q :: qs) k = some q.2 := by simp [valueAt, Yq, e']
      rw [xj e, b]; exact h2
    . have e' : ¬ q.1 = k := fun z => e (h1.trans z)
      have b : valueAt (q :: qs) k = valueAt qs k := by simp [valueAt, Yq, e']
      rw [y8 e, b]; exact ih
theorem KV.any {kvs : List (κ × V)} {vs : List (κ × Value)} (r : KV kvs vs) (k : κ) : (kvs.any fun kv => decide (kv.1 = k)) = vs.any fun kv => decide (kv.1 = k) := by
  unfold KV at r
  induction r with
  | nil => rfl
  | cons h t ih => rw [YJ, YJ, ih, h.1]
theorem KV.repl {kvs : List (κ × V)} {vs : List (κ × Value)} (r : KV kvs vs) (k : κ) {y : V} {u : Value} (ry : RelV y u) :
    KV (kvs.map fun kv => if kv.1 = k then (kv.1, y) else kv) (vs.map fun kv => if kv.1 = k then (kv.1, u) else kv) := by
  unfold KV at r ⊢
  induction r with
  | nil => exact .nil
  | @cons p q ps qs h t ih =>
    rw [ZL, ZL];refine .cons ?_ ih;obtain ⟨h1, h2⟩ := h
    by_cases e : p.1 = k
    . rw [if_pos e, if_pos (h1.symm.trans e)]; exact ⟨h1, ry⟩
    . rw [if_neg e, if_neg (fun z => e (h1.trans z))]; exact ⟨h1, h2⟩
theorem KV.put {kvs : List (κ × V)} {vs : List (κ × Value)} (r : KV kvs vs) (k : κ) {y : V} {u : Value} (ry : RelV y u) : KV (putK kvs k y) (stored vs k u) := by
  unfold putK stored;rw [r.any k]
  by_cases e : (vs.any fun kv => decide (kv.1 = k)) = true
  . rw [if_pos e, if_pos e]; exact r.repl k ry
  . rw [if_neg e, if_neg e]; exact Paired.snoc r ⟨rfl, ry⟩
theorem KV.drop {kvs : List (κ × V)} {vs : List (κ × Value)} (r : KV kvs vs) (k : κ) : KV (y6 kvs k) (without vs k) := by
  unfold KV at r ⊢;unfold y6 without
  induction r with
  | nil => exact .nil
  | @cons p q ps qs h t ih =>
    obtain ⟨h1, h2⟩ := h;rw [YL, YL]
    by_cases e : p.1 = k
    . have a : ¬ decide (p.1 ≠ k) = true := by simp [e]
      have b : ¬ decide (q.1 ≠ k) = true := by simp [h1.symm.trans e]
      rw [if_neg a, if_neg b]; exact ih
    . have e' : ¬ q.1 = k := fun z => e (h1.trans z)
      have a : decide (p.1 ≠ k) = true := by simp [e]
      have b : decide (q.1 ≠ k) = true := by simp [e']
      rw [if_pos a, if_pos b]; exact .cons ⟨h1, h2⟩ ih
theorem KV.keys {kvs : List (κ × V)} {vs : List (κ × Value)} (r : KV kvs vs) : kvs.map (·.1) = vs.map (·.1) := by
  unfold KV at r
  induction r with
  | nil => rfl
  | cons h t ih => rw [ZL, ZL, ih, h.1]
theorem KV.length {kvs : List (κ × V)} {vs : List (κ × Value)} (r : KV kvs vs) : kvs.length = vs.length := Paired.length r
theorem ag (kvs : List (κ × V)) (k : κ) : (y6 kvs k).length <= kvs.length := List.length_filter_le _ _
end
theorem kz {P : Program} {w : World} {k : Key} {u : Value} (r : RelV (kV k) u) : (z7 P w).is k u = true := by
  cases k with
  | inl i => obtain ⟨t, e⟩ := (show ∃ t, u = Value.int i t from r); subst e; exact zaf P w i t
  | inr x => obtain ⟨t, e⟩ := (show ∃ t, u = Value.str x t from r); subst e; exact zat P w x t
theorem db {P : Program} {w : World} : ∀ {ks : List Key} {us : List Value}, Vals (ks.map kV) us -> ItemsAre (z7 P w) ks us
  | [], _, r => by rw [Xc] at r; cases r; exact .nil
  | k :: ks, _, r => by
    rw [ZL] at r
    cases r with
    | cons h t => exact .cons (kz h) (db t)
abbrev KT (H : Hp) : List (List Key × V) -> List (List Key × Addr × Value) -> Prop := Paired fun p q => p.1 = q.1 /\ H q.2.1 = some (.tup (p.1.map kV)) /\ RelV p.2 q.2.2
theorem KT.val {H : Hp} {kvs : List (List Key × V)} {xs : List (List Key × Addr × Value)} (r : KT H kvs xs) (k : List Key) : RelO (valV kvs k) ((atKey xs k).map (·.2)) := by
  induction r with
  | nil => exact True.intro
  | @cons p q ps qs h t ih =>
    obtain ⟨h1, _, h2⟩ := h
    by_cases e : p.1 = k
    . have e' : q.1 = k := h1.symm.trans e
      have b : atKey (q :: qs) k = some q.2 := by simp [atKey, Yq, e']
      rw [xj e, b]; exact h2
    . have e' : ¬ q.1 = k := fun z => e (h1.trans z)
      have b : atKey (q :: qs) k = atKey qs k := by simp [atKey, Yq, e']
      rw [y8 e, b]; exact ih
theorem KT.repl {H : Hp} {kvs : List (List Key × V)} {xs : List (List Key × Addr × Value)} (r : KT H kvs xs) (k : List Key) {y : V} {u : Value} (ry : RelV y u) :
    KT H (kvs.map fun kv => if kv.1 = k then (kv.1, y) else kv) (xs.map (putAt k u)) := by
  induction r with
  | nil => exact .nil
  | @cons p q ps qs h t ih =>
    rw [ZL, ZL];refine .cons ?_ ih;obtain ⟨h1, h2, h3⟩ := h;unfold putAt
    by_cases e : p.1 = k
    . rw [if_pos e, if_pos (h1.symm.trans e)]; exact ⟨h1, h2, ry⟩
    . rw [if_neg e, if_neg (fun z => e (h1.trans z))]; exact ⟨h1, h2, h3⟩
theorem KT.put {H : Hp} {kvs : List (List Key × V)} {xs : List (List Key × Addr × Value)} (r : KT H kvs xs) (k : List Key) {b : Addr} {y : V} {u : Value} (hb : H b = some (.tup (k.map kV))) (ry : RelV y u) :
    KT H (putK kvs k y) (storedH xs k b u) := by
  have e : (kvs.any fun kv => decide (kv.1 = k)) = (atKey xs k).isSome := by
    rw [w4, (r.val k).isSome_eq, Option.isSome_map]
  unfold putK storedH;rw [e]
  by_cases q : (atKey xs k).isSome = true
  . rw [if_pos q, if_pos q]; exact r.repl k ry
  . rw [if_neg q, if_neg q]; exact Paired.snoc r ⟨rfl, hb, ry⟩
theorem KT.keeps {H H' : Hp} {kvs : List (List Key × V)} {xs : List (List Key × Addr × Value)} (r : KT H kvs xs) (ht : ∀ b ys, H b = some (.tup ys) -> H' b = some (.tup ys)) : KT H' kvs xs :=
  Paired.mapP r fun _ _ z => ⟨z.1, ht _ _ z.2.1, z.2.2⟩
section
variable {P : Program} {w : World} {H : Hp} {h : Heap} {a : Addr}
theorem rd_of {u : HO} (ok : HOk P w H h) (e : Rd H a u) : ObjOk P w H h a u := e.ok ok
theorem mx {kvs : List (Key × V)} (ok : HOk P w H h) (e : Rd H a (.dK kvs)) : kvs.length <= sizeLine /\ (a == sysModules) = false /\ ∃ vs, KV kvs vs /\ h.DictOf (z7 P w) a vs :=
  show ObjOk P w H h a (.dK kvs) from rd_of ok e
theorem jf {kvs : List (Key × V)} (ok : HOk P w H h) (e : H a = some (.dK kvs)) : kvs.length <= sizeLine /\ (a == sysModules) = false /\ ∃ vs, KV kvs vs /\ h.DictOf (z7 P w) a vs := mx ok (.inl e)
theorem qb {ks : List Key} (ok : HOk P w H h) (e : H a = some (.tup (ks.map kV))) : (tupleKind (z7 P w)).is h ks a := by
  obtain ⟨_, its, r, o, h1, h2, n, h3⟩ := (show ObjOk P w H h a (.tup (ks.map kV)) from ok a _ e);exact ⟨o, its.toArray, n, h1, h2, h3.1, by simpa using db r⟩
theorem jc {kvs : List (List Key × V)} (ok : HOk P w H h) (e : Rd H a (.dT kvs)) : kvs.length <= sizeLine /\ (a == sysModules) = false /\
    ∃ xs, KT H kvs xs /\ h.DictOfH (tupleKind (z7 P w)) a xs := by
  obtain ⟨z, y, xs, r, o, es, ep, h1, h2, h3, h4, h5⟩ := (show ObjOk P w H h a (.dT kvs) from rd_of ok e);refine ⟨z, y, xs, r, o, es, ep, h1, h2, h3, h4, fun x hx => ?_, h5⟩
  have all : ∀ {l : List (List Key × V)} {m : List (List Key × Addr × Value)}, KT H l m -> ∀ x ∈ m, (tupleKind (z7 P w)).is h x.1 x.2.1 := by
    intro l m q
    induction q with
    | nil => intro x hx; exact nomatch hx
    | @cons p q ps qs hq t ih =>
      intro x hx
      rcases ZK.mp hx with e | hx
      . subst e
        exact qb ok (by rw [<- hq.1]; exact hq.2.1)
      . exact ih x hx
  exact all r x hx
theorem cg {kvs : List (List Key × V)} (ok : HOk P w H h) (e : H a = some (.dT kvs)) : kvs.length <= sizeLine /\ (a == sysModules) = false /\
    ∃ xs, KT H kvs xs /\ h.DictOfH (tupleKind (z7 P w)) a xs := jc ok (.inl e)
end
def DGet (H : Hp) (a : Addr) (y : V) (r : Option V) : Prop :=
  (∃ kvs k, Rd H a (.dK kvs) /\ y = kV k /\ r = valV kvs k) \/ ∃ kvs k b, Rd H a (.dT kvs) /\ y = .ref b /\ H b = some (.tup (k.map kV)) /\ r = valV kvs k
def DPut (H : Hp) (a : Addr) (y v : V) (H' : Hp) : Prop :=
  (∃ kvs k, H a = some (.dK kvs) /\ y = kV k /\ kvs.length < sizeLine /\ H' = upd H a (.dK (putK kvs k v))) \/
  ∃ kvs k b, H a = some (.dT kvs) /\ y = .ref b /\ H b = some (.tup (k.map kV)) /\ kvs.length < sizeLine /\ H' = upd H a (.dT (putK kvs k v))
theorem DGet.k {H : Hp} {a : Addr} {kvs : List (Key × V)} {k : Key} (e : H a = some (.dK kvs)) : DGet H a (kV k) (valV kvs k) := .inl ⟨kvs, k, .inl e, rfl, rfl⟩
theorem DGet.t {H : Hp} {a b : Addr} {kvs : List (List Key × V)} {k : List Key} (e : H a = some (.dT kvs)) (eb : H b = some (.tup (k.map kV))) : DGet H a (.ref b) (valV kvs k) := .inr ⟨kvs, k, b, .inl e, rfl, eb, rfl⟩
theorem DPut.k {H : Hp} {a : Addr} {kvs : List (Key × V)} {k : Key} {v : V} (e : H a = some (.dK kvs)) (hl : kvs.length < sizeLine) : DPut H a (kV k) v (upd H a (.dK (putK kvs k v))) := .inl ⟨kvs, k, e, rfl, hl, rfl⟩
theorem DPut.t {H : Hp} {a b : Addr} {kvs : List (List Key × V)} {k : List Key} {v : V} (e : H a = some (.dT kvs)) (eb : H b = some (.tup (k.map kV))) (hl : kvs.length < sizeLine) :
    DPut H a (.ref b) v (upd H a (.dT (putK kvs k v))) := .inr ⟨kvs, k, b, e, rfl, eb, hl, rfl⟩
section
variable {X : Cx} {pins : List (Addr × Obj)} {σ : St} {H : Hp} {s : Shared} {a : Addr} {y v : V} {u r : Value} {o : Option V} {A : Around} {E : Value -> Shared -> Prop}
theorem Inv.big (I : Inv X pins σ H s) : sysModules < s.heap.objs.size := by
  have h : mainGlobals < s.heap.objs.size := (I.mod.glob.keeps I.bk).lt;exact Nat.lt_trans (by decide) h
theorem zez {Q : Value -> Shared -> Prop} (hu : A.units + 1 < cLine) (I : Inv X pins σ H s) (g : DGet H a y (some v)) (ry : RelV y u) (h : ∀ w' s', Inv X pins σ H s' -> RelV v w' -> Q w' s') :
    wpAny (model X.prog X.w) A (getItem (.ref a) u) Q E s := by
  rcases g with ⟨kvs, k, e, ey, l⟩ | ⟨kvs, k, b, e, ey, eb, l⟩
  . subst ey
    obtain ⟨z, hd, vs, rel, dd⟩ := mx I.hok e;obtain ⟨w', hw, rw'⟩ := RelO.some_of (v := v) (o := valueAt vs k) (by rw [l]; exact rel.val k);exact wpAny_getItem_of (kz ry) dd.mapOf hw (h w' _ (I.tok _) rw')
  . subst ey
    cases (show u = Value.ref b from ry);obtain ⟨z, hd, xs, rel, dd⟩ := jc I.hok e;obtain ⟨w', hw, rw'⟩ := RelO.some_of (v := v) (o := (atKey xs k).map (·.2)) (by rw [l]; exact rel.val k);obtain ⟨p, hp, hp2⟩ := Yc.mp hw;refine wpAny_getItem_heap (tupleKind_room_in1 hu) (qb I.hok eb) dd hp ?_;rw [hp2];exact h w' _ (I.tok _) rw'
theorem d_in {Q : Value -> Shared -> Prop} (hu : A.units + 1 < cLine) (I : Inv X pins σ H s) (g : DGet H a y o) (ry : RelV y u) (h : ∀ s', Inv X pins σ H s' -> Q (.bool o.isSome) s') :
    wpAny (model X.prog X.w) A (compareOp .In u (.ref a)) Q E s := by
  rcases g with ⟨kvs, k, e, ey, l⟩ | ⟨kvs, k, b, e, ey, eb, l⟩
  . subst ey
    obtain ⟨z, hd, vs, rel, dd⟩ := mx I.hok e;refine wpAny_in_of (kz ry) hd dd.mapOf ?_;rw [<- (rel.val k).isSome_eq, <- l];exact h _ (I.tok _)
  . subst ey
    cases (show u = Value.ref b from ry);obtain ⟨z, hd, xs, rel, dd⟩ := jc I.hok e;refine wpAny_in_heap (tupleKind_room_in1 hu) (qb I.hok eb) hd dd ?_;have q := (rel.val k).isSome_eq;rw [Option.isSome_map] at q;rw [<- q, <- l];exact h _ (I.tok _)
theorem sf {h' : Heap} {t' : Nat} {ob : HO} (I : Inv X pins σ H s) (mu : Mut (H a)) (hs : Heap.SameBut a s.heap h') (he : ∃ q, h'.get? a = some q) (new : ObjOk X.prog X.w (upd H a ob) h' a ob) :
    Inv X pins σ (upd H a ob) { s with heap := h', toks := t' } :=
  I.write (x := a) (e := a) mu (.inl rfl) (fun b q hb z => (hs.2 b hb).trans z) he new
theorem zdp {P : Program} {w : World} {H' : Hp} {h' : Heap} {kvs : List (Key × V)} {vs : List (Key × Value)} (z : kvs.length <= sizeLine) (hd : (a == sysModules) = false) (rel : KV kvs vs) (dd : h'.DictOf (z7 P w) a vs) :
    ObjOk P w H' h' a (.dK kvs) := ⟨z, hd, vs, rel, dd⟩
theorem zdd {H' : Hp} {Q : Unit -> Shared -> Prop} (hu : A.units + 1 < cLine) (I : Inv X pins σ H s) (g : DPut H a y v H') (ry : RelV y u) (rv : RelV v r) (h : ∀ s', Inv X pins σ H' s' -> Q () s') :
    wpAny (model X.prog X.w) A (setItem (.ref a) u r) Q E s := by
  rcases g with ⟨kvs, k, e, ey, l, eH⟩ | ⟨kvs, k, b, e, ey, eb, l, eH⟩
  . subst ey eH
    obtain ⟨z, hd, vs, rel, dd⟩ := jf I.hok e;have hz : vs.length <= sizeLine := by rw [<- rel.length]; exact z
    have hl : (putK kvs k v).length <= sizeLine := by have := x5 kvs k v; omega
    refine wpAny_setItem_pairs (hsz := hz) (kz ry) dd fun h' dd' hs => h _ ?_
    have he : ∃ q, h'.get? a = some q := let ⟨q, _, _, hq, _⟩ := dd'; ⟨q, hq⟩;exact sf I (by rw [e]; exact True.intro) hs he (zdp hl hd (rel.put k rv) dd')
  . subst ey eH
    cases (show u = Value.ref b from ry);obtain ⟨z, hd, xs, rel, dd⟩ := cg I.hok e;have hz : xs.length <= sizeLine := by rw [<- Paired.length rel]; exact z
    have hl : (putK kvs k v).length <= sizeLine := by have := x5 kvs k v; omega
    refine wpAny_setItem_heap (hsz := hz) (tupleKind_room_in1 hu) (qb I.hok eb) dd fun h' dd' hs => h _ ?_
    obtain ⟨q, es, ep, hq, h2, h3, h4, _, h5⟩ := dd';refine sf I (by rw [e]; exact True.intro) hs ⟨q, hq⟩ ⟨hl, hd, _, (rel.put k eb rv).keeps fun c ys ec => ?_, q, es, ep, hq, h2, h3, h4, h5⟩;rw [zn (ne_of ec e (fun z => nomatch z))];exact ec
end
section
variable {X : Cx} {pins : List (Addr × Obj)} {σ : St} {H : Hp} {s : Shared} {a : Addr} {kvs : List (Key × V)} {k : Key} {u : Value} {A : Around} {E : Value -> Shared -> Prop}
theorem d_len {Q : Value -> Shared -> Prop} (I : Inv X pins σ H s) (e : Rd H a (.dK kvs)) (h : ∀ t s', Inv X pins σ H s' -> Q (.int kvs.length t) s') : wpAny (model X.prog X.w) A (call (.builtin "len") [.ref a]) Q E s := by
  obtain ⟨z, hd, vs, rel, dd⟩ := mx I.hok e;refine call_len_dict hd dd (by rw [<- rel.length]; rw [sizeLine_eq] at z; omega) ?_;rw [<- rel.length];exact h _ _ (I.tok _)
end
def NoSl (i : Expr) : Prop := ∀ ov iv, subscripted i false ov iv = operate [ov, iv] (getItem ov iv)
theorem zic {prog : Program} {w : World} {A : Around} {E : Value -> Shared -> Prop} {s : Shared} {env : Env} {value slice : Expr} {pos : Pos} {T id : String} {Q : Value -> Shared -> Prop}
    (hl : typeLookup (.type T) "__getitem__" = pure (some (.builtin id))) (hs : NoSl slice)
    (h : wpAny (model prog w) A (eval value env) (fun o s₁ => wpAny (model prog w) A (eval slice env) (fun i s₂ => s₂.TypeIs o T /\ wpAny (model prog w) A (getItem o i) Q E s₂) E s₁) E s) :
    wpAny (model prog w) A (eval (.Subscript value slice pos) env) Q E s := by
  refine Subscript_ (wpAny_mono h (fun o s₁ h₁ => wpAny_mono h₁ (fun i s₂ h₂ => ?_) fun _ _ x => x) fun _ _ x => x);obtain ⟨hT, h₂⟩ := h₂;unfold subscriptTail;refine wpAny_bind ?_;rw [getitemInPython_of_ne hT.not_modules];refine wpAny_bind (wpAny_specialOf hT hl ?_)
  have fin : wpAny (model prog w) A (subscripted slice false o i) (fun r s₃ => wpAny (model prog w) A (letTemporaryGo value o r >>= fun _ => pure r) Q E s₃) E s₂ := by
    rw [hs o i];exact wpAny_operating (wpAny_mono h₂ (fun r s₃ h₃ => wpAny_bind (wpAny_letTemporaryGo (wpAny_pure h₃))) fun _ _ x => x)
  first
    | exact wpAny_pure (wpAny_bind fin)
    | exact wpAny_bind (wpAny_pure (wpAny_bind fin))
    | exact wpAny_bind fin
theorem zaj {X : Cx} {pins : List (Addr × Obj)} {σ : St} {H : Hp} {s : Shared} {a : Addr} {y : V} {o : Option V} (I : Inv X pins σ H s) (g : DGet H a y o) : s.TypeIs (.ref a) "dict" := by
  rcases g with ⟨kvs, k, e, _, _⟩ | ⟨kvs, k, b, e, _, _, _⟩
  . obtain ⟨_, _, vs, _, dd⟩ := mx I.hok e
    exact dd.typeIs
  . obtain ⟨_, _, xs, _, dd⟩ := jc I.hok e
    exact dd.typeIs
def tDGet (td ty : TE) : TE := fun σ H Q => td σ H fun x H1 => ty σ H1 fun y H2 => ∃ a v, x = .ref a /\ DGet H2 a y (some v) /\ Q v H2
section
variable {X : Cx} {o i e value : Expr} {pos pos' tpos : Pos} {td ty tv : TE}
theorem uh (hu : X.A.units + 1 < cLine) (ho : PE X o td) (hi : PE X i ty) (hs : NoSl i) : PE X (.Subscript o i pos) (tDGet td ty) := by
  intro pins s σ H Q I h;refine zic PySem.F.slot_dict_getitem.lookup hs (thn (ho pins s σ H _ I h) fun u s1 ⟨x, H1, I1, rx, q1⟩ => thn (hi pins s1 σ H1 _ I1 q1) fun iv s2 ⟨y, H2, I2, ry, a, v, ex, g, q2⟩ => ?_);subst ex;obtain rfl : u = Value.ref a := rx;exact ⟨zaj I2 g, zez hu I2 g ry fun w' s3 I3 rw' => ⟨v, H2, I3, rw', q2⟩⟩
end
theorem ad {P : Program} {w : World} {H : Hp} (h : Heap) (hb : sysModules < h.objs.size) : ObjOk P w H (h.push { cls := .type "dict", data := .dict #[] }) h.objs.size (.dK []) :=
  ⟨ZE _, beq_eq_false_iff_ne.mpr (Ne.symm (Zs hb)), [], .nil, Heap.DictOf.new h⟩
theorem zf5 {P : Program} {w : World} {H : Hp} (h : Heap) (hb : sysModules < h.objs.size) : ObjOk P w H (h.push { cls := .type "dict", data := .dict #[] }) h.objs.size (.dT []) :=
  ⟨ZE _, beq_eq_false_iff_ne.mpr (Ne.symm (Zs hb)), [], .nil, _, #[], 0, Heap.get?_push_size _ rfl, ⟨rfl, rfl, rfl⟩, rfl, rfl, YB⟩
def am : TE := fun _ H Q => ∀ p, H p = none -> Q (.ref p) (upd H p (.dK []))
def zej : TE := fun _ H Q => ∀ p, H p = none -> Q (.ref p) (upd H p (.dT []))
section
variable {X : Cx} {pos : Pos}
theorem zfo : PE X (.Dict [] [] pos) am := fun pins s σ H Q I h =>
  wpAny_Dict_empty ⟨.ref s.heap.objs.size, _, I.laid (a := s.heap.objs.size) (o := .dK []) (t' := s.toks) (fun _ _ q => Heap.get?_push_of_some _ q) (Zm _) (ad s.heap I.big), rfl, h _ (I.hok.fresh (Zm _))⟩
theorem zfz : PE X (.Dict [] [] pos) zej := fun pins s σ H Q I h =>
  wpAny_Dict_empty ⟨.ref s.heap.objs.size, _, I.laid (a := s.heap.objs.size) (o := .dT []) (t' := s.toks) (fun _ _ q => Heap.get?_push_of_some _ q) (Zm _) (zf5 s.heap I.big), rfl, h _ (I.hok.fresh (Zm _))⟩
end
def pw : List (TE × TE) -> St -> Hp -> (List (V × V) -> Hp -> Prop) -> Prop
  | [], _, H, Q => Q [] H
  | (tk, tv) :: r, σ, H, Q => tk σ H fun x H1 => tv σ H1 fun y H2 => pw r σ H2 fun ps H3 => Q ((x, y) :: ps) H3
abbrev VV : List (V × V) -> List (Value × Value) -> Prop := Paired fun p q => RelV p.1 q.1 /\ RelV p.2 q.2
def PPs (X : Cx) (pos : Pos) (keys : List (Option Expr)) (values : List Expr) (trs : List (TE × TE)) : Prop :=
  ∀ (pins : List (Addr × Obj)) (s : Shared) (σ : St) (H : Hp) (Q : List (V × V) -> Hp -> Prop), Inv X pins σ H s -> pw trs σ H Q ->
    wpAny (model X.prog X.w) X.A (evalPairs (pairTrees keys values X.env pos)) (fun vs s' => ∃ ps H', Inv X pins σ H' s' /\ VV ps vs /\ Q ps H') X.xe s
theorem ft {X : Cx} {pos : Pos} : PPs X pos [] [] [] := fun pins s σ H Q I h => pairTrees_nil_walk ⟨[], H, I, .nil, h⟩
theorem j0 {X : Cx} {pos : Pos} {k v : Expr} {ks : List (Option Expr)} {vs : List Expr} {tk tv : TE} {trs : List (TE × TE)} (hk : PE X k tk) (hv : PE X v tv) (hr : PPs X pos ks vs trs) :
    PPs X pos (some k :: ks) (v :: vs) ((tk, tv) :: trs) := fun pins s σ H Q I h =>
  pairTrees_cons_walk (thn (hk pins s σ H _ I h) fun u s1 ⟨x, H1, I1, rx, q1⟩ => thn (hv pins s1 σ H1 _ I1 q1) fun w2 s2 ⟨y, H2, I2, ry, q2⟩ =>
    thn (hr pins s2 σ H2 _ I2 q2) fun ws s3 ⟨ps, H3, I3, rel, q3⟩ => ⟨(x, y) :: ps, H3, I3, .cons ⟨rx, ry⟩ rel, q3⟩)
def vv (kvs more : List (Key × V)) : List (Key × V) := more.foldl (fun acc kv => putK acc kv.1 kv.2) kvs
theorem KV.merge : ∀ {more : List (Key × V)} {rs : List (Key × Value)} {kvs : List (Key × V)} {vs : List (Key × Value)}, KV more rs -> KV kvs vs -> KV (vv kvs more) (merged vs rs) := by
  intro more rs kvs vs r;unfold KV at r
  induction r generalizing kvs vs with
  | nil => intro q; exact q
  | @cons p q ps qs h t ih =>
    intro r0
    have e : KV (putK kvs p.1 p.2) (stored vs q.1 q.2) := by
      have := r0.put p.1 h.2;rw [<- h.1]; exact this
    exact ih e
theorem lh : ∀ (more kvs : List (Key × V)), (vv kvs more).length <= kvs.length + more.length
  | [], kvs => by show kvs.length <= kvs.length + 0; omega
  | p :: r, kvs => by
    have h1 := lh r (putK kvs p.1 p.2);have h2 := x5 kvs p.1 p.2
    show (vv (putK kvs p.1 p.2) r).length <= _
    rw [ZP]; omega
theorem gm {P : Program} {w : World} : ∀ {kvs : List (Key × V)} {ws : List (Value × Value)}, VV (kvs.map fun kv => (kV kv.1, kv.2)) ws -> ∃ rs, Carries (z7 P w) ws rs /\ KV kvs rs
  | [], _, r => by rw [Xc] at r; cases r; exact ⟨[], True.intro, .nil⟩
  | p :: kvs, _, r => by
    rw [ZL] at r
    cases r with
    | @cons a b as bs h t =>
      obtain ⟨rs, c, q⟩ := gm (P := P) (w := w) t;obtain ⟨b1, b2⟩ := b;exact ⟨(p.1, b2) :: rs, ⟨kz h.1, rfl, c⟩, .cons ⟨rfl, h.2⟩ q⟩
def tDisp (trs : List (TE × TE)) : TE := fun σ H Q => ∀ p, H p = none -> pw trs σ (upd H p (.dK [])) fun ps H2 => H2 p = some (.dK []) /\ ∃ kvs : List (Key × V), ps = kvs.map (fun kv => (kV kv.1, kv.2)) /\ kvs.length <= 15 /\ Q (.ref p) (upd H2 p (.dK (vv [] kvs)))
theorem fw {X : Cx} {pos : Pos} {keys : List (Option Expr)} {values : List Expr} {trs : List (TE × TE)} (h : PPs X pos keys values trs) (hall : keys.all (·.isSome) = true) (hl : keys.length = values.length) (h0 : keys ≠ [])
    (h15 : keys.length <= 15) : PE X (.Dict keys values pos) (tDisp trs) := by
  intro pins s σ H Q I q;have hn := I.hok.fresh (Zm s.heap.objs.size);have I1 := I.laid (a := s.heap.objs.size) (o := .dK []) (h' := s.heap.push { cls := .type "dict", data := .dict #[] }) (t' := s.toks) (fun _ _ q => Heap.get?_push_of_some _ q) (Zm _) (ad s.heap I.big);refine wpAny_Dict_walk (knd := z7 X.prog X.w) hall hl h0 h15 (thn (h pins _ σ _ _ I1 (q _ hn)) fun ws s2 ⟨ps, H2, I2, rel, e, kvs, ep, lk, q2⟩ => ?_);subst ep;obtain ⟨rs, c, rk⟩ := gm (P := X.prog) (w := X.w) rel;obtain ⟨z, hd, vs0, r0, dd⟩ := jf I2.hok e;cases r0;refine ⟨rs, c, dd, fun h' dd' hs => ⟨.ref s.heap.objs.size, _, ?_, rfl, q2⟩⟩
  have hz : (vv [] kvs).length <= sizeLine := by
    have h1 := lh kvs [];rw [Yv] at h1;rw [sizeLine_eq]; omega
  have he : ∃ q, h'.get? s.heap.objs.size = some q := let ⟨q, _, _, hq, _⟩ := dd'; ⟨q, hq⟩;exact sf I2 (by rw [e]; exact True.intro) hs he (zdp hz hd (rk.merge .nil) dd')
structure M1 (X : Cx) (o : Expr) (m : Str) (apos : Pos) (e : Expr) (cpos : Pos) : Prop where
  base : attributeBase o m X.env (eval o X.env) = eval o X.env
  few : ((backTo cpos (starEach [e] X.env)).all (fun x => !x.1) && (backToKw cpos (keywordEach [] X.env)).all (fun x => x.1.isSome)
    && decide (([e] : List Expr).length + ([] : List Keyword).length + (if ([] : List Keyword).isEmpty then 0 else 1) < 30)) = true
  line : (apos.endLine == cpos.line) = true
  trees : backTo cpos (starEach [e] X.env) = [(false, eval e X.env)]
def IsD (H : Hp) (a : Addr) : Prop := (∃ kvs, Rd H a (.dK kvs)) \/ ∃ kvs, Rd H a (.dT kvs)
theorem zdw {X : Cx} {pins : List (Addr × Obj)} {σ : St} {H : Hp} {s : Shared} {a : Addr} (I : Inv X pins σ H s) (d : IsD H a) :
    s.TypeIs (.ref a) "dict" /\ (∀ b, Value.ref a = .ref b -> ∃ ob, s.heap.get? b = some ob /\ ob.dict = none) /\ (a == sysModules) = false := by
  rcases d with ⟨kvs, e⟩ | ⟨kvs, e⟩
  . obtain ⟨_, hd, vs, _, dd⟩ := mx I.hok e
    refine ⟨dd.typeIs, fun b q => ?_, hd⟩;cases q;obtain ⟨ob, _, _, h1, h2, _⟩ := dd;exact ⟨ob, h1, h2.2.1⟩
  . obtain ⟨_, hd, xs, _, dd⟩ := jc I.hok e
    refine ⟨dd.typeIs, fun b q => ?_, hd⟩;cases q;obtain ⟨ob, _, _, h1, h2, _⟩ := dd;exact ⟨ob, h1, h2.2.1⟩
section
variable {X : Cx} {pins : List (Addr × Obj)} {σ : St} {H : Hp} {s : Shared} {a : Addr} {y d : V} {u r : Value} {o : Option V} {A : Around} {E : Value -> Shared -> Prop}
theorem d_get1 {Q : Value -> Shared -> Prop} (hu : A.units + 1 < cLine) (I : Inv X pins σ H s) (g : DGet H a y o) (ry : RelV y u) (h : ∀ w' s', Inv X pins σ H s' -> RelV (o.getD .non) w' -> Q w' s') :
    wpAny (model X.prog X.w) A (call (.builtin "dict.get") [.ref a, u]) Q E s := by
  rcases g with ⟨kvs, k, e, ey, l⟩ | ⟨kvs, k, b, e, ey, eb, l⟩
  . subst ey
    obtain ⟨z, hd, vs, rel, dd⟩ := mx I.hok e;refine call_meetsIn PySem.F.slot_dict_get dd.typeIs PySem.F.entry_dict_get (PySem.F.args_dict_get_2 _ _) (meets_dict_get (z7 X.prog X.w) a (kz ry) hd) ⟨_, dd.mapOf, h _ _ (I.tok _) ?_⟩;rw [l];exact (rel.val k).getD rfl
  . subst ey
    cases (show u = Value.ref b from ry);obtain ⟨z, hd, xs, rel, dd⟩ := jc I.hok e;refine call_meetsIn PySem.F.slot_dict_get dd.typeIs PySem.F.entry_dict_get (PySem.F.args_dict_get_2 _ _) (meetsH_dict_get (tupleKind (z7 X.prog X.w)) a b hd) ⟨tupleKind_room_in1 hu, k, xs, qb I.hok eb, dd, h _ _ (I.tok _) ?_⟩;rw [l];exact (rel.val k).getD rfl
end
section
variable {X : Cx} {o e f : Expr} {apos cpos : Pos} {td ty tx : TE}
end
section
variable {X : Cx} {pins : List (Addr × Obj)} {σ : St} {H : Hp} {s : Shared} {a : Addr} {kvs : List (Key × V)} {A : Around} {E : Value -> Shared -> Prop}
end
section
variable {X : Cx} {pins : List (Addr × Obj)} {σ : St} {H : Hp} {s : Shared} {a : Addr} {y : V} {u : Value} {A : Around} {E : Value -> Shared -> Prop}
end
end L2
namespace L2
open PySem PySem.Spec PyProof.Rows
section
variable {X : Cx}
end
section
variable {κ : Type} [DecidableEq κ]
theorem zgh {kvs : List (κ × V)} {k : κ} (h : valV kvs k = none) : ¬ k ∈ kvs.map (·.1) := by
  intro m;obtain ⟨p, hp, e⟩ := Zp.mp m;have q : (kvs.any fun kv => decide (kv.1 = k)) = true := YM.mpr ⟨p, hp, decide_eq_true e⟩;rw [w4, h] at q;exact absurd q (by simp)
theorem ku {kvs : List (κ × V)} {k : κ} {v : V} (h : valV kvs k = some v) : k ∈ kvs.map (·.1) := by
  have q : (kvs.any fun kv => decide (kv.1 = k)) = true := by
    rw [w4, h]
    all_goals rfl
  obtain ⟨p, hp, e⟩ := YM.mp q;exact Zp.mpr ⟨p, hp, of_decide_eq_true e⟩
theorem za3 : ∀ {l : List κ} {k : κ}, l.Nodup -> ¬ k ∈ l -> (l ++ [k]).Nodup
  | [], k, _, _ => by simp
  | a :: r, k, h, hk => by
    obtain ⟨h1, h2⟩ := ZO.mp h
    show (a :: (r ++ [k])).Nodup
    refine ZO.mpr ⟨fun m => ?_, za3 h2 fun m => hk (ZK.mpr (Or.inr m))⟩
    rcases ZH.mp m with q | q
    . exact h1 q
    . exact hk (ZK.mpr (Or.inl (ZC.mp q).symm))
theorem zgx {kvs : List (κ × V)} {k : κ} (v : V) (hn : (kvs.map (·.1)).Nodup) (h : valV kvs k = none) : ((putK kvs k v).map (·.1)).Nodup := by
  rw [m7 v h, Zn];exact za3 hn (zgh h)
theorem dg {p : κ × V} {r : List (κ × V)} {k : κ} (e : p.1 = k) : y6 (p :: r) k = y6 r k := by
  unfold y6;rw [YL, if_neg (by simp [e])]
theorem l8 {p : κ × V} {r : List (κ × V)} {k : κ} (e : ¬ p.1 = k) : y6 (p :: r) k = p :: y6 r k := by
  unfold y6;rw [YL, if_pos (by simp [e])]
theorem cw : ∀ {kvs : List (κ × V)} {k : κ}, ¬ k ∈ kvs.map (·.1) -> y6 kvs k = kvs
  | [], _, _ => rfl
  | p :: r, k, h => by
    have h' : ¬ k ∈ r.map (·.1) := fun m => by
      obtain ⟨q, hq, e⟩ := Zp.mp m;exact h (Zp.mpr ⟨q, ZK.mpr (Or.inr hq), e⟩)
    rw [l8 fun e => h (Zp.mpr ⟨p, ZK.mpr (Or.inl rfl), e⟩), cw h']
theorem du : ∀ {kvs : List (κ × V)} {k : κ}, (kvs.map (·.1)).Nodup -> k ∈ kvs.map (·.1) -> (y6 kvs k).length + 1 = kvs.length
  | [], _, _, m => by simp at m
  | p :: r, k, h, m => by
    have h : (p.1 :: r.map (·.1)).Nodup := h;have m : k = p.1 \/ k ∈ r.map (·.1) := ZK.mp m;obtain ⟨h1, h2⟩ := ZO.mp h
    by_cases e : p.1 = k
    . subst e
      rw [dg rfl, cw h1]
      all_goals rfl
    . have m' : k ∈ r.map (·.1) := m.resolve_left fun z => e z.symm
      have q := du h2 m';rw [l8 e, ZP, ZP];omega
end
end L2
namespace L2
open PySem PySem.Spec PyProof.Rows
def gf (ns : List (Str × NameKind)) (y n : Str) : Bool := match ns.lookup y with
  | some .free => y == n
  | some .local => false
  | some .cell => false
  | _ => true
def vp (ns : List (Str × NameKind)) : List Str -> List Str -> Bool
  | [], [] => true
  | y :: ys, n :: ms => gf ns y n && vp ns ys ms
  | _, _ => false
def nz (ns : List (Str × NameKind)) (env : Env) : Bool := ns.all fun y => !(y.2 == .free) || (env.kindOf y.1 == some .cell || env.kindOf y.1 == some .free)
def ml (ns : List (Str × NameKind)) : Bool := ns.all fun y => !(y.2 == .cell) && (!(y.2 == .local) || ns.lookup y.1 == some .local)
theorem ic {ns : List (Str × NameKind)} : ∀ {N2 N : List Str} {i : Nat} {y : Str}, vp ns N2 N = true -> N2[i]? = some y -> gf ns y y = true /\ (ns.lookup y = some .free -> N[i]? = some y)
  | [], [], _, _, _, e => by simp at e
  | y' :: ys, n :: ms, 0, y, h, e => by
    simp at e; subst e;unfold vp at h;rw [Bool.and_eq_true] at h;refine ⟨?_, fun hf => ?_⟩
    . have h1 := h.1
      unfold gf at h1 ⊢
      split at h1 <;> first | rfl | (exact absurd h1 Bool.false_ne_true) | (exact beq_self_eq_true _)
    . have h1 := h.1
      unfold gf at h1;rw [hf] at h1;have e : y' = n := eq_of_beq h1;simp [e]
  | y' :: ys, n :: ms, i + 1, y, h, e => by
    unfold vp at h;rw [Bool.and_eq_true] at h;obtain ⟨h1, h2⟩ := ic (i := i) (y := y) h.2 (by simpa using e);exact ⟨h1, fun hf => by simpa using h2 hf⟩
  | [], _ :: _, _, _, h, _ => by cases h
  | _ :: _, [], _, _, h, _ => by cases h
theorem md {ns : List (Str × NameKind)} {env : Env} (h : nz ns env = true) {y : Str × NameKind} (hy : y ∈ ns) (hf : y.2 = .free) : env.kindOf y.1 = some .cell \/ env.kindOf y.1 = some .free := by
  have q := ZS.mp h y hy;rw [hf] at q
  simpa using q
theorem ip {ns : List (Str × NameKind)} (h : ml ns = true) : ∀ y ∈ ns, y.2 ≠ .cell := fun y hy e => by
  have q := ZS.mp h y hy;rw [e] at q;simp at q
theorem jp {ns : List (Str × NameKind)} (h : ml ns = true) : ∀ y ∈ ns, y.2 = .local -> ns.lookup y.1 = some .local := fun y hy e => by
  have q := ZS.mp h y hy;rw [e] at q
  simpa using q
theorem sh {env : Env} {x : Str} : ∀ {ns : List (Str × NameKind)}, (ns.map fun (n, k) => if (k == NameKind.free && env.scope.kind == .function && env.kindOf n == some .cell) then (n, NameKind.cell) else (n, k)).lookup x =
    (ns.lookup x).map fun k => if (k == NameKind.free && env.scope.kind == .function && env.kindOf x == some .cell) then NameKind.cell else k
  | [] => rfl
  | (n, k) :: r => by
    have ih := @sh env x r
    show List.lookup x ((if (k == NameKind.free && env.scope.kind == .function && env.kindOf n == some .cell) = true then (n, NameKind.cell) else (n, k)) :: _) = _
    cases hx : x == n with
    | true =>
      have e : x = n := eq_of_beq hx;subst e;simp only [ZF, beq_self_eq_true]
      by_cases hc : (k == NameKind.free && env.scope.kind == .function && env.kindOf x == some .cell) = true
      . rw [if_pos hc]; simp only [ZF, beq_self_eq_true, ZW]; rw [if_pos hc]
      . rw [if_neg hc]; simp only [ZF, beq_self_eq_true, ZW]; rw [if_neg hc]
    | false =>
      simp only [ZF, hx]
      by_cases hc : (k == NameKind.free && env.scope.kind == .function && env.kindOf n == some .cell) = true
      . rw [if_pos hc]; simp only [ZF, hx]; exact ih
      . rw [if_neg hc]; simp only [ZF, hx]; exact ih
theorem gl {scope : Scope} {env : Env} (h : ∀ y ∈ scope.names, y.2 = .free -> ∃ c, env.cells.lookup y.1 = some c) :
    ∃ cl, closureFor scope env = pure cl /\ (∀ x c, cl.lookup x = some c -> env.cells.lookup x = some c) /\ (∀ y ∈ scope.names, y.2 = .free -> ∃ c, cl.lookup y.1 = some c) := by
  have all : ∀ (ns : List (Str × NameKind)) (cs : List (Str × Addr)), (∀ y ∈ ns, y.2 = .free -> ∃ c, env.cells.lookup y.1 = some c) -> (∀ x c, cs.lookup x = some c -> env.cells.lookup x = some c) ->
      ∃ cl, (forIn ns cs fun x r => (if (x.2 == NameKind.free) = true then do let a <- cellOf env x.1; pure (ForInStep.yield ((x.1, a) :: r)) else pure (ForInStep.yield r) : Sem (ForInStep (List (Str × Addr))))) = pure cl /\
        (∀ x c, cl.lookup x = some c -> env.cells.lookup x = some c) /\ (∀ x, (cs.lookup x).isSome = true -> (cl.lookup x).isSome = true) /\ (∀ y ∈ ns, y.2 = .free -> ∃ c, cl.lookup y.1 = some c) := by
    intro ns
    induction ns with
    | nil => intro cs _ hc; exact ⟨cs, rfl, hc, fun _ z => z, fun _ z => nomatch z⟩
    | cons y r ih =>
      intro cs hh hc;have hr : ∀ z ∈ r, z.2 = .free -> ∃ c, env.cells.lookup z.1 = some c := fun z hz => hh z (Zv _ hz)
      by_cases hf : y.2 = .free
      . obtain ⟨c, ec⟩ := hh y ZA hf
        have hc' : ∀ x d, ((y.1, c) :: cs).lookup x = some d -> env.cells.lookup x = some d := fun x d e => by
          rw [ZF] at e
          cases hx : x == y.1 with
          | true =>
            rw [hx] at e;have e2 : x = y.1 := eq_of_beq hx;cases e;rw [e2]; exact ec
          | false =>
            rw [hx] at e;exact hc x d e
        obtain ⟨cl, e1, e2, e3, e4⟩ := ih ((y.1, c) :: cs) hr hc';refine ⟨cl, ?_, e2, fun x hx => e3 x ?_, fun z hz hzf => ?_⟩
        . rw [YR]
          have ek : (y.2 == NameKind.free) = true := by rw [hf]; rfl
          simp only [ek, if_true, cellOf, ec, pure_bind];exact e1
        . rw [ZF]; split <;> first | rfl | exact hx
        . rcases ZK.mp hz with rfl | hz
          . have := e3 z.1 (by rw [ZF, beq_self_eq_true]; rfl)
            exact Yy.mp this
          . exact e4 z hz hzf
      . obtain ⟨cl, e1, e2, e3, e4⟩ := ih cs hr hc
        refine ⟨cl, ?_, e2, e3, fun z hz hzf => ?_⟩
        . rw [YR]
          have ek : (y.2 == NameKind.free) = false := by simpa using hf
          simp only [ek, Bool.false_eq_true, if_false, pure_bind];exact e1
        . rcases ZK.mp hz with rfl | hz
          . exact absurd hzf hf
          . exact e4 z hz hzf
  obtain ⟨cl, e1, e2, _, e4⟩ := all scope.names [] h (fun _ _ z => by cases z);refine ⟨cl, ?_, e2, e4⟩;unfold closureFor
  first
    | (rw [show (forIn scope.names ([] : List (Str × Addr)) _ : Sem (List (Str × Addr))) = pure cl from e1]; rfl)
    | (simp only [bind_pure]; exact e1)
    | (show (forIn scope.names [] _ >>= _) = _; exact (congrArg (fun t => t >>= fun cs => pure cs) e1))
structure Dyn where
  cl : List (Str × Addr)
  C : Addr
  s₀ : Shared
  H₀ : Hp
  fp : List Addr
abbrev yv (X : Cx) (scope : Scope) (N' : List Str) (d : Dyn) : Cx where
  prog := X.prog
  w := X.w
  K := X.K
  mg := X.mg
  base := X.base
  A := X.A
  N := N'
  s₀ := d.s₀
  H₀ := d.H₀
  env := compEnvC scope d.cl d.C X.env
  outer := X.stack
  stack := X.stack
  ex := d.fp
  fn := fun _ => false
  calm := true
  pn := []
  xe := fun _ _ => False
theorem zaq {prog : Program} {w : World} {A : Around} {R : Result -> Shared -> Prop} {s : Shared} {elt target iter : Expr} {ifs : List Expr} {scope : Scope} {pos : Pos} {it acc : Value} {env : Env} (I : Nat -> Shared -> Prop)
    (turn : ∀ n s, I n s -> wpAny (model prog w) A (pyNext it) (fun r s₁ => match r with
      | none => R (.ok .next) s₁
      | some v => wpAny (model prog w) A (letOwnedTupleGo target it v) (fun _ s₁' => wpAny (model prog w) A (assign target env v) (fun _ s₂ =>
          wpAny (model prog w) A (forIn ifs true fun c r => if r = true then do let ok <- isTrue c env (eval c env); pure (ForInStep.yield ok) else pure (ForInStep.yield r)) (fun ok s₃ =>
            if ok = true then wpAny (model prog w) A (eval elt env) (fun x s₄ =>
              wpAny (model prog w) A (call (.builtin "list.append") [acc, x]) (fun _ s₅ => ∃ m, m < n /\ I m s₅) (fun _ _ => False) s₄) (fun _ _ => False) s₃
            else ∃ m, m < n /\ I m s₃) (fun _ _ => False) s₂) (fun _ _ => False) s₁') (fun _ _ => False) s₁) (fun _ _ => False) s)
    (n : Nat) (h : I n s) :
    codeAny (model prog w) A (.compLoop (.ListComp elt [⟨target, iter, ifs, 0⟩] scope pos) 0 it acc env) R s := by
  refine codeAny_loop rfl I (fun n s hI => ?_) n h
  show wpAny _ A ((compTurn (.ListComp elt [⟨target, iter, ifs, 0⟩] scope pos) 0 it acc env).onRaise (fun x => do noteFrame x env; theTreesLotGoes x)) _ _ s
  refine wpAny_noted ?_;rw [compTurn_list];refine wpAny_bind (wpAny_standAt (wpAny_bind (wpAny_mono (turn n s hI) (fun r s₁ h₁ => ?_) fun _ _ f => f.elim)))
  cases r with
  | none => exact wpAny_pure h₁
  | some v =>
    refine wpAny_bind (wpAny_mono h₁ (fun _ s₁' h₁' => ?_) fun _ _ f => f.elim);refine wpAny_bind (wpAny_mono h₁' (fun _ s₂ h₂ => wpAny_bind (wpAny_mono h₂ (fun ok s₃ h₃ => ?_) fun _ _ f => f.elim)) fun _ _ f => f.elim)
    cases ok with
    | false => exact wpAny_pure ⟨rfl, h₃⟩
    | true =>
      exact wpAny_bind (wpAny_bind (wpAny_mono h₃ (fun x s₄ h₄ => wpAny_bind (wpAny_mono h₄ (fun _ s₅ h₅ => wpAny_pure (wpAny_pure ⟨rfl, h₅⟩)) fun _ _ f => f.elim)) fun _ _ f => f.elim))
def PTs (X : Cx) (ifs : List Expr) (t : TT) : Prop :=
  ∀ (pins : List (Addr × Obj)) (s : Shared) (σ : St) (H : Hp) (Q : Bool -> Hp -> Prop), Inv X pins σ H s -> t σ H Q ->
    wpAny (model X.prog X.w) X.A (forIn ifs true fun c r => if r = true then do let ok <- isTrue c X.env (eval c X.env); pure (ForInStep.yield ok) else pure (ForInStep.yield r)) (TP X pins σ Q) X.xe s
def tAll : TT := fun _ H Q => Q true H
theorem yy {X : Cx} : PTs X [] tAll := fun _ _ _ H _ I h => wpAny_tests_nil ⟨H, I, h⟩
theorem zh0 {X : Cx} {c : Expr} {t : TT} (h : PT X c t) : PTs X [c] t := fun pins s σ H Q I q => wpAny_tests_one (h pins s σ H Q I q)
def rc (J : It) (σ : St) (k : Nat) (g : TG) (tt : TT) (te : TE) (H1 : Hp) (Fin : List V -> Hp -> Prop) : Prop :=
  ∃ W : Nat -> Nat -> List V -> Hp -> Prop, (∃ m, W 0 m [] H1) /\ ∀ i m ys H, W i m ys H -> ys.length <= sizeLine /\
    ((J.stop i H /\ Fin ys H) \/ (J.go i H /\ ∃ N : List V -> Hp -> Prop, (∀ ys' H', N ys' H' -> ∃ m', m' < m /\ W (i + 1) m' ys' H') /\ ∀ x H', J.yld i H x H' -> g x (List.replicate k none ++ σ) H' fun σ2 H2 => σ2.drop k = σ /\
      tt σ2 H2 fun b H3 => if b = true then te σ2 H3 fun v H4 => N (ys ++ [v]) H4 else N ys H3))
abbrev lobj (its : List Value) : Obj := { cls := .type "list", data := .seq its.toArray its.length }
section
variable {X : Cx} {pins : List (Addr × Obj)} {σ : St} {H2 : Hp} {s₂ : Shared} {scope : Scope} {ts N2 : List Str} {cl : List (Str × Addr)} {C D : Addr} {fp : List Addr}
theorem zhb (I2 : Inv X pins σ H2 s₂) (hc : X.calm = true) (f2 : ∀ b ∈ fp, FpOk X pins H2 b /\ b < s₂.heap.objs.size) (hkind : scope.kind = .function) (hown : ml scope.names = true) (hfree : nz scope.names X.env = true)
    (hcl1 : ∀ x c, cl.lookup x = some c -> X.env.cells.lookup x = some c) (hcl2 : ∀ y ∈ scope.names, y.2 = .free -> ∃ c, cl.lookup y.1 = some c) (hC : s₂.heap.objs.size <= C) :
    (yv X scope (ts ++ N2) ⟨cl, C, s₂, H2, fp⟩).Ok := by
  refine ⟨I2.ok.mod, hkind, I2.ok.glob, I2.ok.blt, hC, fun x y c e1 e2 => I2.ok.inj x y c (hcl1 _ _ e1) (hcl1 _ _ e2), fun x hx => ?_, fun x c z _ => absurd (show false = true from z) Bool.false_ne_true, fun _ => I2.ok.hd hc, I2.ok.frames, .inl rfl, fun b hb => ?_, I2.bs, Zd I2.ok.bsz I2.sz, fun b o e hb => ?_, fun b hb hfs => ?_, I2.stack, I2.stkFree⟩
  . have hx' : (relabel scope X.env).names.lookup x = some .cell \/ (relabel scope X.env).names.lookup x = some .free := hx
    have e0 : (relabel scope X.env).names.lookup x = _ := sh (env := X.env) (x := x) (ns := scope.names);rw [e0] at hx'
    cases q : scope.names.lookup x with
    | none => rw [q] at hx'; simp at hx'
    | some k =>
      rw [q] at hx';simp only [ZW, Option.some.injEq] at hx';have hm : (x, k) ∈ scope.names := PySem.mem_of_lookup q
      have hk : k = .free := by
        have nc := ip hown _ hm
        split at hx'
        . rename_i hcond
          simp only [Bool.and_eq_true] at hcond;exact eq_of_beq hcond.1.1
        . rcases hx' with z | z
          . exact absurd z nc
          . exact z
      exact hcl2 _ hm hk
  . obtain ⟨⟨f0, f1, f3, f4, f5, f6⟩, hlt⟩ := f2 b hb
    exact ⟨Zs (Zh hlt hC), fun x c e => f5 x c (hcl1 x c e)⟩
  . obtain ⟨⟨f0, f1, f3, f4, f5, f6⟩, hlt⟩ := f2 b hb
    rcases f4 with z | z
    . exact I2.ok.noex b o e z
    . exact absurd (Zh (Heap.lt_size e) (Zd I2.ok.bsz z)) (ZJ _)
  . obtain ⟨⟨f0, f1, f3, f4, f5, f6⟩, hlt⟩ := f2 b hb
    rcases ZK.mp (I2.stkSub b hfs) with z | z
    . exact f1 z
    . exact f3 z
theorem zc5 (I2 : Inv X pins σ H2 s₂) (hc : X.calm = true) (f2 : ∀ b ∈ fp, FpOk X pins H2 b /\ b < s₂.heap.objs.size) (hkind : scope.kind = .function) (hown : ml scope.names = true) (hfree : nz scope.names X.env = true) (hout : vp scope.names N2 X.N = true)
    (hcl1 : ∀ x c, cl.lookup x = some c -> X.env.cells.lookup x = some c) (hcl2 : ∀ y ∈ scope.names, y.2 = .free -> ∃ c, cl.lookup y.1 = some c) (hC : s₂.heap.objs.size <= C) (hDC : D ≠ C) (hD : s₂.heap.objs.size <= D)
    {h₁ : Heap} {tk : Nat} {m : Str -> Option Value} (hn : h₁.Ns C m) (old : ∀ b o, s₂.heap.get? b = some o -> h₁.get? b = some o) (hacc : h₁.get? D = some (lobj [])) :
    Inv (yv X scope (ts ++ N2) ⟨cl, C, s₂, H2, fp⟩) [(D, lobj [])] (List.replicate ts.length none ++ σ) H2 { s₂ with heap := h₁, toks := tk } := by
  have ok := zhb (ts := ts) (N2 := N2) I2 hc f2 hkind hown hfree hcl1 hcl2 hC
  have hlN : ∀ {a b : List Str}, vp scope.names a b = true -> a.length = b.length := by
    intro a
    induction a with
    | nil => intro b h; cases b with | nil => rfl | cons _ _ => cases h
    | cons y ys ih =>
      intro b h
      cases b with
      | nil => cases h
      | cons n ms =>
        unfold vp at h;rw [Bool.and_eq_true] at h;rw [ZP, ZP, ih h.2]
  refine ⟨ok, rfl, I2.bare, Un.kept old, ⟨m, hn, fun i x v e1 e2 e3 => ?_⟩, fun x c e => ?_, ?_, fun x c e => I2.freeC x c (hcl1 x c e), fun p hp => ?_, I2.hok.kept old, ?_⟩
  . by_cases hi : i < ts.length
    . rw [Zg (by simpa using hi), YC] at e2
      split at e2 <;> cases e2
    . have hi' : ts.length <= i := ZD.mp hi
      rw [Zf (by simpa using hi')] at e2;rw [ZI] at e2;have e1' : (ts ++ N2)[i]? = some x := e1;rw [Zf hi'] at e1';obtain ⟨k1, k2⟩ := ic hout e1';have e0 : (relabel scope X.env).names.lookup x = _ := sh (env := X.env) (x := x) (ns := scope.names);have e3' : (relabel scope X.env).names.lookup x = some .local \/ (relabel scope X.env).names.lookup x = some .cell \/ (relabel scope X.env).names.lookup x = some .free := e3;rw [e0] at e3'
      cases q : scope.names.lookup x with
      | none => rw [q] at e3'; simp at e3'
      | some k =>
        have hm : (x, k) ∈ scope.names := PySem.mem_of_lookup q
        have hk : k = .free := by
          unfold gf at k1;rw [q] at k1 e3'
          cases k with
          | free => rfl
          | «local» => cases k1
          | cell => cases k1
          | _ => exfalso; revert e3'; simp
        subst hk;obtain ⟨mo, hmo, hl⟩ := I2.loc;have hkv := md hfree hm rfl;have vis : Vis X.env.scope x := hkv.elim (fun z => .inr (.inl z)) fun z => .inr (.inr z)
        obtain ⟨u, r, l⟩ := hl _ x v (k2 q) e2 vis;refine ⟨u, r, .inr ⟨?_, ?_⟩⟩
        . show (relabel scope X.env).names.lookup x = some .cell \/ (relabel scope X.env).names.lookup x = some .free
          rw [e0, q];simp only [ZW, Option.some.injEq]
          split
          . exact .inl rfl
          . exact .inr rfl
        . rcases l with ⟨kl, _⟩ | ⟨_, c, ec, z⟩
          . exfalso
            rcases hkv with z | z <;> (rw [kl] at z; cases z)
          . obtain ⟨c', ec'⟩ := hcl2 _ hm rfl
            have := hcl1 _ _ ec';rw [ec] at this;cases this;obtain ⟨o, ho, hd⟩ := z;exact ⟨c, ec', o, old _ _ ho, hd⟩
  . obtain ⟨v, o, ho, hd⟩ := I2.cell x c (hcl1 x c e)
    exact ⟨v, o, old _ _ ho, hd⟩
  . exact I2.hok.fresh hC
  . have e : p = (D, lobj []) := by simpa using hp
    subst e;refine ⟨hacc, I2.hok.fresh hD, hDC, fun z => ?_, fun v z => by cases z⟩
    rcases ZK.mp (I2.stkSub D z) with z | z
    . exact absurd (Zh I2.lt (by rw [<- z]; exact hD)) (ZJ _)
    . exact I2.nofs hD z
  . show (List.replicate ts.length none ++ σ).length = (ts ++ N2).length
    rw [Zo, Zo, ZI, I2.len, hlN hout]
theorem zgf (I2 : Inv X pins σ H2 s₂) (f2 : ∀ b ∈ fp, FpOk X pins H2 b) (hD : s₂.heap.objs.size <= D) {σ' : St} {H' : Hp} {s' : Shared} {its : List Value} {ys : List V} {pl : List (Addr × Obj)}
    (J : Inv (yv X scope (ts ++ N2) ⟨cl, C, s₂, H2, fp⟩) pl σ' H' s') (hp : s'.heap.get? D = some (lobj its)) (hn : H' D = none) (hv : Vals ys its) (hz : ys.length <= sizeLine) : Inv X pins σ (upd H' D (.lst ys)) s' := by
  have neD : ∀ b o, s₂.heap.get? b = some o -> b ≠ D := fun b o e => Zs (Zh (Heap.lt_size e) hD)
  have neH : ∀ b o, H2 b = some o -> b ≠ D := fun b o e => Zs (Zh (I2.hok.lt e) hD)
  have u := J.base
  have un : Un (frs X.stack) fp H2 (upd H' D (.lst ys)) s₂.heap s'.heap :=
    ⟨u.keep, u.slot, fun b o e n hx => by rw [zn (neD b o e)]; exact u.free b o e n hx, u.there, fun b xs e => by rw [zn (neH b _ e)]; exact u.tups b xs e, fun b o v e => by rw [zn (neH b _ e)]; exact u.frzs b o v e,
      fun b ps e => by rw [zn (neH b _ e)]; exact u.tbls b ps e⟩
  have hok : HOk X.prog X.w (upd H' D (.lst ys)) s'.heap := fun b o e => by
    by_cases hb : b = D
    . subst hb
      rw [zd] at e;cases e;exact ⟨hz, its, its.length, hv, hp⟩
    . rw [zn hb] at e
      exact (J.hok b o e).stay (fun c v _ q => q) (fun c q => by rw [zn (y0 q hn)]; exact q) fun c xs q => by rw [zn (y0 q hn)]; exact q
  exact I2.call' (ch := fp) J.os un hok J.bare fun b hb => by
    obtain ⟨f0, f1, f3, f4, f5, f6⟩ := f2 b hb;exact ⟨f4, f1, f5, f6⟩
theorem iw {E : Value -> Shared -> Prop} {tg elt iter : Expr} {ifs : List Expr} {pos : Pos} {it : Addr} {tn : Nat -> Heap -> Prop} {J : It} {g : Dyn -> TG} {tt : Dyn -> TT} {te : Dyn -> TE} {RR : Value -> Addr -> Result -> Shared -> Prop} {Fin : List V -> Hp -> Prop}
    (I2 : Inv X pins σ H2 s₂) (hc : X.calm = true) (T : Turn X.prog X.w X.K tg J fp it tn) (st : tn 0 s₂.heap) (f2 : ∀ b ∈ fp, FpOk X pins H2 b) (hkind : scope.kind = .function) (hown : ml scope.names = true) (hfree : nz scope.names X.env = true) (hout : vp scope.names N2 X.N = true)
    (hcl1 : ∀ x c, cl.lookup x = some c -> X.env.cells.lookup x = some c) (hcl2 : ∀ y ∈ scope.names, y.2 = .free -> ∃ c, cl.lookup y.1 = some c)
    (hg : ∀ d, PG (yv X scope (ts ++ N2) d) tg (g d)) (ht : ∀ d, PTs (yv X scope (ts ++ N2) d) ifs (tt d)) (he : ∀ d, PE (yv X scope (ts ++ N2) d) elt (te d))
    (hW : ∀ d, rc J σ ts.length (g d) (tt d) (te d) H2 Fin)
    (hRR : ∀ D C s' H' ys, s₂.heap.objs.size <= C -> C ≠ D -> Inv X pins σ (upd H' D (.lst ys)) s' -> H' D = none -> H' C = none -> (∃ m, s'.heap.Ns C m) -> ys.length <= sizeLine -> Fin ys H' -> RR (.ref D) C (.ok .next) s') :
    wpAny (model X.prog X.w) X.A (newList []) (fun acc s₃ => wpAny (model X.prog X.w) X.A (newFunctionEnv scope X.env.globals cl [] X.env.qual none .none (some X.env)) (fun cenv s₄ =>
      codeAny (model X.prog X.w) X.A (.compStart (.ListComp elt [⟨tg, iter, ifs, 0⟩] scope pos) 0 (.ref it) acc { cenv with scope := relabel scope X.env }) (RR acc cenv.locals) s₄) E s₃) E s₂ := by
  refine wpAny_newObj_type (wpAny_newFunctionEnv (ip hown) (by intro y hy; simp at hy) (fun h₁ hns₁ hsb₁ => ?_) hkind);dsimp only at hns₁ hsb₁ ⊢;generalize hH2 : s₂.heap.push { cls := .type "list", dict := none, data := .seq ([] : List Value).toArray } = HP at hns₁ hsb₁ ⊢;have hC : HP.objs.size = s₂.heap.objs.size + 1 := by rw [<- hH2, Heap.size_push]
  have hDC : s₂.heap.objs.size ≠ HP.objs.size := by rw [hC]; exact Zs (Yt _)
  have hCle : s₂.heap.objs.size <= HP.objs.size := by rw [hC]; exact YW _
  have below : ∀ b, b < s₂.heap.objs.size -> b ≠ HP.objs.size /\ b ≠ s₂.heap.objs.size := fun b hb => ⟨by rw [hC]; exact Zs (YH hb), Zs hb⟩
  have old : ∀ b o, s₂.heap.get? b = some o -> h₁.get? b = some o := fun b o e => hsb₁.extBut b o (below b (Heap.lt_size e)).1 (Heap.get?_push_of_some _ (hH2 ▸ Heap.get?_push_of_some _ e))
  have hacc : h₁.get? s₂.heap.objs.size = some (lobj []) := hsb₁.extBut _ _ hDC (Heap.get?_push_of_some _ (hH2 ▸ Heap.get?_push_size _ rfl))
  have flt : ∀ b ∈ fp, b < s₂.heap.objs.size := fun b hb => by
    obtain ⟨o, e, _⟩ := T.obj _ _ st b hb;exact Heap.lt_size e
  generalize hDD : s₂.heap.objs.size = D at *;generalize hCC : HP.objs.size = C at *;have hDle : s₂.heap.objs.size <= D := Nat.le_of_eq hDD;have I4 := fun (tk : Nat) => zc5 (ts := ts) (D := D) (C := C) (tk := tk) I2 hc (fun b hb => ⟨f2 b hb, by rw [hDD]; exact flt b hb⟩) hkind hown hfree hout hcl1 hcl2 (by rw [hDD]; exact hCle) hDC hDle hns₁ old hacc
  generalize hd : (⟨cl, C, s₂, H2, fp⟩ : Dyn) = d at *;obtain ⟨W, ⟨m0, w0⟩, turn⟩ := hW d
  have Xs : ∀ {pl : List (Addr × Obj)} {H' : Hp}, (∀ b ∈ fp, H' b = none) -> (∀ p ∈ pl, p.1 = D) -> ∀ b ∈ fp, FpOk (yv X scope (ts ++ N2) d) pl H' b := fun {pl H'} hn hp b hb => by
    subst hd;obtain ⟨f0, f1, f3, f4, f5, f6⟩ := f2 b hb;refine ⟨hn b hb, (below b (flt b hb)).1, fun z => ?_, .inl hb, fun x c e => f5 x c (hcl1 x c e), fun p hp' => ?_⟩
    . rcases ZK.mp (I2.stkSub b z) with z | z
      . exact f1 z
      . exact f3 z
    . rw [hp p (by simpa using hp')]
      exact Ne.symm (below b (flt b hb)).2
  have loop : ∀ s₃ : Shared, s₃ = { s₂ with heap := h₁, toks := s₂.toks + ([] : List (Str × Value)).length } ->
      codeAny (model X.prog X.w) X.A (.compLoop (.ListComp elt [⟨tg, iter, ifs, 0⟩] scope pos) 0 (.ref it) (.ref D) (compEnvC scope cl C X.env)) (RR (.ref D) C) s₃ := by
    rintro s₃ rfl
    refine zaq (fun n s' => ∃ i ys H' its, Inv (yv X scope (ts ++ N2) d) [(D, lobj its)] (List.replicate ts.length none ++ σ) H' s' /\ tn i s'.heap /\ (∀ b ∈ fp, H' b = none) /\ Vals ys its /\ W i n ys H') ?_ m0
      ⟨0, [], H2, [], I4 _, T.keep _ _ _ st fun b _ o e => old b o e, fun b hb => (f2 b hb).1, .nil, w0⟩
    rintro n s3 ⟨i, ys, H3, its, I3, st3, fr3, hv3, w3⟩
    obtain ⟨hlen, tr⟩ := turn i n ys H3 w3
    have one : ∀ p ∈ [(D, lobj its)], p.1 = D := fun p hp => by
      have e : p = (D, lobj its) := by simpa using hp
      rw [e]
    have eenv : (yv X scope (ts ++ N2) d).env = compEnvC scope cl C X.env := by subst hd; rfl
    rcases tr with ⟨stop, fin⟩ | ⟨go, N, hN, step⟩
    . refine thn (T.done (yv X scope (ts ++ N2) d) rfl rfl rfl rfl i _ s3 _ H3 (fun _ _ => False) I3 (Xs fr3 one) st3 stop) fun r s4 ⟨hr, J4⟩ => ?_
      subst hr
      show RR (.ref D) C (.ok .next) s4
      obtain ⟨pe, pn, _⟩ := J4.pin (D, lobj its) (by simp);have fC : H3 C = none := by have := J4.free; rw [eenv] at this; exact this
      have nC : ∃ m, s4.heap.Ns C m := by
        obtain ⟨m, z, _⟩ := J4.loc;rw [eenv] at z;exact ⟨m, z⟩
      subst hd;exact hRR D C s4 H3 ys hCle (Ne.symm hDC) (zgf I2 f2 hDle J4 pe pn hv3 hlen) pn fC nC hlen fin
    . refine thn (T.item (yv X scope (ts ++ N2) d) rfl rfl rfl rfl i _ s3 _ H3 (fun _ _ => False) I3 (Xs fr3 one) st3 go) fun r s4 ⟨u, hr, h4⟩ => ?_
      subst hr;refine thn h4 fun _ s5 ⟨x, H5, I5, r5, y5, st5, fr5⟩ => ?_
      have I5' := I5.pinned (Xs fr5 one) (T.obj _ _ st5);rw [<- eenv];refine thn (hg d _ s5 _ H5 x u _ I5' r5 (step x H5 y5)) fun _ s6 ⟨σ6, H6, I6, hdrop, q6⟩ => ?_
      have back : ∀ {ys' : List V} {its' : List Value} {H' : Hp} {s' : Shared} {pl : List (Addr × Obj)}, Inv (yv X scope (ts ++ N2) d) ([(D, lobj its')] ++ pl) σ6 H' s' -> Inv (yv X scope (ts ++ N2) d) [(D, lobj its')] (List.replicate ts.length none ++ σ) H' s' := fun {ys' its' H' s' pl} I' => by
        have hl : σ6.length = (ts ++ N2).length := I'.len;refine (I'.pins_of (pins' := [(D, lobj its')]) fun p hp => I'.pin p (Zu _ (Yi _ hp))).weak ?_ ?_
        . rw [hl]; exact I3.len
        . intro j v e
          by_cases hj : j < ts.length
          . rw [Zg (by simpa using hj), YC] at e
            split at e <;> cases e
          . have hj' : ts.length <= j := ZD.mp hj
            rw [Zf (by simpa using hj'), ZI, <- hdrop, YY] at e;rw [show ts.length + (j - ts.length) = j by omega] at e;exact e
      refine thn (ht d _ s6 σ6 H6 _ I6 q6) fun b s7 ⟨H7, I7, q7⟩ => ?_
      have pinsOf : ∀ {its' : List Value} {H' : Hp} {s' : Shared}, Inv (yv X scope (ts ++ N2) d) ([(D, lobj its')] ++ l7 fp s5.heap) σ6 H' s' -> (∀ b ∈ fp, ∀ o, s5.heap.get? b = some o -> s'.heap.get? b = some o) /\ ∀ b ∈ fp, H' b = none := fun {its' H' s'} I' => by
        refine ⟨fun b hb o e => (I'.pin (b, o) (Zu _ (Zu _ (u6 hb e)))).1, fun b hb => ?_⟩;obtain ⟨o, e, _⟩ := T.obj _ _ st5 b hb;exact (I'.pin (b, o) (Zu _ (Zu _ (u6 hb e)))).2.1
      cases b with
      | false =>
        have q7' : N ys H7 := by simpa using q7
        obtain ⟨m', hm, w7⟩ := hN _ _ q7';obtain ⟨k1, k2⟩ := pinsOf I7
        show ∃ m, m < n /\ _
        exact ⟨m', hm, i + 1, ys, H7, its, back (ys' := ys) I7, T.keep _ _ _ st5 k1, k2, hv3, w7⟩
      | true =>
        have q7' : te d σ6 H7 fun v H4 => N (ys ++ [v]) H4 := by simpa using q7
        show wpAny _ _ _ _ _ _
        refine thn (he d _ s7 σ6 H7 _ I7 q7') fun y s8 ⟨v, H8, I8, r8, n8⟩ => ?_
        obtain ⟨m', hm, w8⟩ := hN _ _ n8;obtain ⟨k1, k2⟩ := pinsOf I8;obtain ⟨pe, pn, pC, pf, pd⟩ := I8.pin (D, lobj its) (by simp);have hsz : its.toArray.size <= sizeLine := by rw [Zr, <- hv3.length]; exact hlen
        refine append_at (hsz := hsz) pe fun h9 sb9 e9 => ?_
        have J8 : Inv (yv X scope (ts ++ N2) d) [] σ6 H8 s8 := I8.pins_of fun p hp => nomatch hp
        have hDs : (yv X scope (ts ++ N2) d).s₀.heap.objs.size <= D := by subst hd; exact hDle
        have J9 : Inv (yv X scope (ts ++ N2) d) [] σ6 H8 { s8 with heap := h9 } := J8.turned (t' := s8.toks) (it := D) (fun b o hb e => sb9.extBut b o hb e) pn pC (.inr hDs)
          (fun x c e => by
            obtain ⟨v', z⟩ := I3.cell x c e;subst hd;obtain ⟨v2, z2⟩ := I2.cell x c (hcl1 x c e)
            exact Zs (Zh z2.lt hDle)) (fun p hp => nomatch hp)
        have e9' : h9.get? D = some (lobj (its ++ [y])) := by
          rw [e9]
          show some ({ cls := .type "list", data := .seq (its.toArray.push y) (its.length + 1) } : Obj) = some { cls := .type "list", data := .seq (its ++ [y]).toArray (its ++ [y]).length }
          rw [Zo, YO, List.push_toArray]
        have J9' : Inv (yv X scope (ts ++ N2) d) ([(D, lobj (its ++ [y]))] ++ []) σ6 H8 { s8 with heap := h9 } := J9.pins_of fun p hp => by
          have e : p = (D, lobj (its ++ [y])) := by simpa using hp
          subst e;exact ⟨e9', pn, pC, pf, fun v z => by cases z⟩
        refine ⟨m', hm, i + 1, ys ++ [v], H8, its ++ [y], back (ys' := ys) J9', ?_, k2, hv3.append (.cons r8 .nil), w8⟩;exact T.keep _ _ _ st5 fun b hb o e => sb9.extBut b o (below b (flt b hb)).2 (k1 b hb o e)
  exact codeAny_compStart_list (loop _ rfl) (T.self _ 0 _ _ _ (T.keep _ _ _ st fun b _ o e => old b o e) (loop _ rfl))
end
def zc6 (k : Nat) (wi : TI) (g : Dyn -> TG) (tt : Dyn -> TT) (te : Dyn -> TE) : TE := fun σ H Q => wi σ H fun J H1 => ∀ d : Dyn, rc J σ k (g d) (tt d) (te d) H1 fun ys H' => ∀ l, H' l = none -> Q (.ref l) (upd H' l (.lst ys))
theorem yx {X : Cx} {tg elt iter : Expr} {ifs : List Expr} {scope : Scope} {pos : Pos} (ts N2 : List Str) {wi : TI} {g : Dyn -> TG} {tt : Dyn -> TT} {te : Dyn -> TE} (hc : X.calm = true) (hi : PI X tg iter wi)
    (hg : ∀ d, PG (yv X scope (ts ++ N2) d) tg (g d)) (ht : ∀ d, PTs (yv X scope (ts ++ N2) d) ifs (tt d)) (he : ∀ d, PE (yv X scope (ts ++ N2) d) elt (te d))
    (hkind : scope.kind = .function) (hown : ml scope.names = true) (hfree : nz scope.names X.env = true) (hout : vp scope.names N2 X.N = true)
    (hs : ∀ x, foldedSetIterable iter X.env x = pure x := by intro _; rfl) : PE X (.ListComp elt [⟨tg, iter, ifs, 0⟩] scope pos) (zc6 ts.length wi g tt te) := by
  intro pins s σ H Q I h;obtain ⟨cl, hclos, hcl1, hcl2⟩ := gl (scope := scope) (env := X.env) fun y hy hf => I.ok.has y.1 (md hfree hy hf)
  rw [eval_ListComp];refine wpAny_comprehension_free (use := none) rfl hs hclos hkind (jp hown) (thn (hi pins s σ H _ I h) fun v s1 h1 => thn h1 fun itv s2 h2 => ?_);obtain ⟨it, fp, tn, J, H2, e, I2, T, st2, f2, hW⟩ := h2;subst e;refine iw (RR := fun acc C => compPost (model X.prog X.w) X.A X.xe none (EP X pins σ Q) acc C) I2 hc T st2 f2 hkind hown hfree hout hcl1 hcl2 hg ht he hW ?_;intro D C s' H' ys hC hCD I' hD hCn hNs hl fin;obtain ⟨m, hm⟩ := hNs;refine ⟨m, hm, fun h' sb => ?_⟩
  have I'' : Inv X pins σ (upd H' D (.lst ys)) { s' with heap := h' } := by
    refine I'.turned (t' := s'.toks) (it := C) (fun b o hb e => sb.extBut b o hb e) (by rw [zn hCD]; exact hCn) (Yl (Zh I2.lt hC)) (.inr (Zd I2.sz hC)) (fun x c e => ?_) fun p hp => ?_
    . obtain ⟨v, q⟩ := I2.cell x c e
      exact Zs (Zh q.lt hC)
    . exact Zs (Zh (Heap.lt_size (I2.pin p hp).1) hC)
  exact ⟨.ref D, _, I'', rfl, fin D hD⟩
def tSetC (i : Nat) (te : TE) : TS := fun D σ H => te σ H fun x H1 => D.nx (σ.set i (some x)) H1
theorem zg3 {X : Cx} {tg elt iter : Expr} {ifs : List Expr} {scope : Scope} {pos spos py : Pos} {i : Nat} {y : Str} (ts N2 : List Str) {wi : TI} {g : Dyn -> TG} {tt : Dyn -> TT} {te : Dyn -> TE} (hN : X.N.Nodup) (hi' : X.N[i]? = some y) (hy : X.env.scope.names.lookup y = some .local) (hc : X.calm = true) (hi : PI X tg iter wi)
    (hg : ∀ d, PG (yv X scope (ts ++ N2) d) tg (g d)) (ht : ∀ d, PTs (yv X scope (ts ++ N2) d) ifs (tt d)) (he : ∀ d, PE (yv X scope (ts ++ N2) d) elt (te d))
    (hkind : scope.kind = .function) (hown : ml scope.names = true) (hfree : nz scope.names X.env = true) (hout : vp scope.names N2 X.N = true)
    (hsw : swapsWith (.ListComp elt [⟨tg, iter, ifs, 0⟩] scope pos) (some (.Name y py)) spos.line X.env = pure true)
    (hs : ∀ x, foldedSetIterable iter X.env x = pure x := by intro _; rfl) : PS X (.Assign [.Name y py] (.ListComp elt [⟨tg, iter, ifs, 0⟩] scope pos) spos) (tSetC i (zc6 ts.length wi g tt te)) := by
  intro pins s σ H D0 I h;obtain ⟨cl, hclos, hcl1, hcl2⟩ := gl (scope := scope) (env := X.env) fun z hz hf => I.ok.has z.1 (md hfree hz hf)
  rw [exec_Assign_Name_used _ _ _ _ hsw];refine wpAny_bind (wpAny_standAt (wpAny_bind ?_))
  show wpAny _ X.A (do let _ <- comprehension (.ListComp elt [⟨tg, iter, ifs, 0⟩] scope pos) scope X.env _ (newList []) false (eval iter X.env) (some (assign (.Name y py) X.env))) _ _ s
  refine wpAny_bind (wpAny_mono (wpAny_comprehension_free (use := some (assign (.Name y py) X.env)) (Q := fun _ s' => SP X pins D0 .next s') rfl hs hclos hkind (jp hown)
    (thn (hi pins s σ H _ I h) fun v s1 h1 => thn h1 fun itv s2 h2 => ?_)) (fun _ s' hq => wpAny_pure (wpAny_pure hq)) fun _ _ e => e)
  obtain ⟨it, fp, tn, J, H2, e, I2, T, st2, f2, hW⟩ := h2;subst e;refine iw (RR := fun acc C => compPost (model X.prog X.w) X.A X.xe (some (assign (.Name y py) X.env)) (fun _ s' => SP X pins D0 .next s') acc C) I2 hc T st2 f2 hkind hown hfree hout hcl1 hcl2 hg ht he hW ?_;intro D C s' H' ys hC hCD I' hD hCn hNs hl fin;obtain ⟨m, hm⟩ := hNs
  show wpAny _ _ _ _ _ _
  have hcl : C ≠ X.env.locals := Yl (Zh I2.lt hC)
  have hcc : ∀ x c, X.env.cells.lookup x = some c -> c ≠ C := fun x c e => by
    obtain ⟨v, q⟩ := I2.cell x c e;exact Zs (Zh q.lt hC)
  refine wpAny_assign_Name (da I' hN hi' (.inl hy) (v := .ref D) (u := .ref D) rfl (fun s'' I'' ⟨a, sb, ha⟩ => ?_) (.inr hy))
  have haC : C ≠ a := by
    rcases ha with z | z
    . rw [z]; exact hcl
    . exact Ne.symm (hcc y a z)
  refine ⟨m, hm.sameBut sb haC, fun h' sb' => ?_⟩
  have I3 : Inv X pins (σ.set i (some (.ref D))) (upd H' D (.lst ys)) { s'' with heap := h' } := by
    refine I''.turned (t' := s''.toks) (it := C) (fun b o hb e => sb'.extBut b o hb e) (by rw [zn hCD]; exact hCn) hcl (.inr (Zd I2.sz hC)) hcc fun p hp => ?_
    exact Zs (Zh (Heap.lt_size (I2.pin p hp).1) hC)
  exact ⟨_, _, I3, fin D hD⟩
section
variable {σ : St} {k : Nat} {g : TG} {tt : TT} {te : TE} {H1 : Hp} {Fin : List V -> Hp -> Prop}
theorem m4 {lo : Int} {n : Nat} (Pv : Nat -> List V -> Hp -> Prop) (h0 : Pv 0 [] H1) (hz : ∀ i ys H, i <= n -> Pv i ys H -> ys.length <= sizeLine)
    (hs : ∀ i ys H, i < n -> Pv i ys H -> g (.int (lo + i)) (List.replicate k none ++ σ) H fun σ2 H2 => σ2.drop k = σ /\ tt σ2 H2 fun b H3 => if b = true then te σ2 H3 fun v H4 => Pv (i + 1) (ys ++ [v]) H4 else Pv (i + 1) ys H3)
    (hd : ∀ ys H, Pv n ys H -> Fin ys H) : rc (Itr lo n) σ k g tt te H1 Fin := by
  refine ⟨fun i m ys H => m = n - i /\ i <= n /\ Pv i ys H, ⟨n, by simp, ZE _, h0⟩, ?_⟩
  rintro i m ys H ⟨rfl, hi, p⟩
  refine ⟨hz i ys H hi p, ?_⟩
  by_cases hlt : i < n
  . refine .inr ⟨hlt, Pv (i + 1), fun ys' H' p' => ⟨n - (i + 1), by omega, rfl, hlt, p'⟩, fun x H' y => ?_⟩
    obtain ⟨e, y⟩ := y;subst e y;exact hs i ys _ hlt p
  . have e : i = n := by omega
    subst e;exact .inl ⟨Zm _, hd ys H p⟩
theorem xm {K : Fg} {a : Addr} {xs : List V} (Pv : Nat -> List V -> Hp -> Prop) (h0 : Pv 0 [] H1) (hz : ∀ i ys H, i <= xs.length -> Pv i ys H -> ys.length <= sizeLine /\ SqL K H a xs)
    (hs : ∀ i x ys H, xs[i]? = some x -> Pv i ys H -> g x (List.replicate k none ++ σ) H fun σ2 H2 => σ2.drop k = σ /\ tt σ2 H2 fun b H3 => if b = true then te σ2 H3 fun v H4 => Pv (i + 1) (ys ++ [v]) H4 else Pv (i + 1) ys H3)
    (hd : ∀ ys H, Pv xs.length ys H -> Fin ys H) : rc (Itl K a) σ k g tt te H1 Fin := by
  refine ⟨fun i m ys H => m = xs.length - i /\ i <= xs.length /\ Pv i ys H, ⟨xs.length, by simp, ZE _, h0⟩, ?_⟩
  rintro i m ys H ⟨rfl, hi, p⟩
  have q := (hz i ys H hi p).2;refine ⟨(hz i ys H hi p).1, ?_⟩
  by_cases hlt : i < xs.length
  . refine .inr ⟨⟨xs, xs[i], q, by simp [hlt]⟩, Pv (i + 1), fun ys' H' p' => ⟨xs.length - (i + 1), by omega, rfl, hlt, p'⟩, fun x H' y => ?_⟩
    obtain ⟨e, y⟩ := y;subst e;exact hs i x ys _ (y xs q) p
  . have e : i = xs.length := by omega
    subst e;exact .inl ⟨⟨xs, q, Zm _⟩, hd ys H p⟩
end
end L2
namespace L2
open PySem PySem.Spec PyProof.Rows
theorem zaa {xs : List V} {us : List Value} (r : Vals xs us) {j : Nat} (h : j < us.length) : ∃ x, xs[j]? = some x /\ RelV x us[j] := by
  have hl := r.length;have hj : j < xs.length := by omega
  obtain ⟨u, hu, rx⟩ := r.get (i := j) (x := xs[j]) (by simp [hj]);refine ⟨xs[j], by simp [hj], ?_⟩;have : us[j]? = some us[j] := by simp [h]
  rw [this] at hu;cases hu;exact rx
section
variable {X : Cx} {pins : List (Addr × Obj)} {σ : St} {H : Hp} {s : Shared} {A : Around} {a b : Addr}
end
def GridL (K : Fg) (H : Hp) (a : Addr) (as : List Addr) (rows : List (List Int)) : Prop := SqL K H a (as.map V.ref) /\ as.length = rows.length /\ ∀ (i : Nat) (r : Addr) (ns : List Int), as[i]? = some r -> rows[i]? = some ns -> SqL K H r (ns.map V.int)
section
variable {X : Cx} {pins : List (Addr × Obj)} {σ : St} {H : Hp} {s : Shared} {A : Around} {a b : Addr}
end
def kit0 (T1 T2 : String) : Option Bool := if (Value.type T1 == Value.type T2) = true then some true else if PySem.W.kitMeta T2 = true then (fastBuiltinMro T1).map (·.contains (Value.type T2)) else none
theorem j2 (K : Fg) (T1 T2 : String) : PySem.W.kitOne K (.type T1) (.type T2) = kit0 T1 T2 := rfl
section
variable {X : Cx}
theorem yt : CallR X (.builtin "isinstance") (fun xs H Q => ∃ x T T1 b, xs = [x, .ty T] /\ TyOf X.K H x (.type T1) /\ kit0 T1 T = some b /\ Q (.bl b) H) := by
  intro pins s σ H xs us Q I r h;obtain ⟨x, T, T1, b, rfl, ty, e, q⟩ := h;obtain ⟨u, v, rfl, rx, ry⟩ := Vals.two r;cases ry;exact eu I rx ty ((j2 X.K T1 T).trans e) fun tk => ⟨.bl b, H, I.tok _, rfl, q⟩
theorem w6 {x : Str} {T : String} {pos : Pos} (hg : Gl X x) (hm : X.mg x = none) (hv : bootBuiltins x = some (.type T)) (hn : x ≠ "__name__" := by decide) (hd : (x == ("__debug__" : Str)) = false := by decide) : PE X (.Name x pos) (tC (.ty T)) :=
  zg7 hg hm hv rfl hn hd
end
theorem yp : bootBuiltins "len" = some (.builtin "len") := by decide +kernel
theorem yd : bootBuiltins "isinstance" = some (.builtin "isinstance") := by decide +kernel
theorem zdx : bootBuiltins "max" = some (.builtin "max") := by decide +kernel
theorem bt_min : bootBuiltins "min" = some (.builtin "min") := by decide +kernel
theorem qt : bootBuiltins "all" = some (.builtin "all") := by decide +kernel
theorem bt_abs : bootBuiltins "abs" = some (.builtin "abs") := by decide +kernel
theorem bd : bootBuiltins "int" = some (.type "int") := by decide +kernel
theorem zbh : bootBuiltins "bool" = some (.type "bool") := by decide +kernel
theorem tu : bootBuiltins "list" = some (.type "list") := by decide +kernel
theorem x8 : bootBuiltins "tuple" = some (.type "tuple") := by decide +kernel
theorem zdc : bootBuiltins "str" = some (.type "str") := by decide +kernel
theorem nv : bootBuiltins "dict" = some (.type "dict") := by decide +kernel
theorem bt_set : bootBuiltins "set" = some (.type "set") := by decide +kernel
theorem bt_zip : bootBuiltins "zip" = some (.type "zip") := by decide +kernel
structure zj (K : Fg) (mg : Str -> Option Value) (name : Str) (st : Stmt) (ps : List Str) : Prop where
  ex : ∃ f fd, mg name = some (.ref f) /\ Fun K name name st f fd /\ Binds K fd ps []
structure FnAt (P : Program) (w : World) (K : Fg) (mg : Str -> Option Value) (base : Heap) (name : Str) (k : Nat) (ps : List Str) (sp : Sp) : Prop where
  ex : ∃ f fd, mg name = some (.ref f) /\ PySem.W.keepIn K (.ref f) = true /\ Binds K fd ps [] /\ FnOk P w K mg base CX0 k f fd ps sp
theorem FnAt.of {P : Program} {w : World} {K : Fg} {mg : Str -> Option Value} {base : Heap} {name : Str} {st : Stmt} {N ps : List Str} {k : Nat} {sp : Sp} (D : zj K mg name st ps) (S : z6 N ps (ze st)) (len : ∀ vs H Q E, sp vs H Q E -> vs.length = ps.length)
    (hbody : ∀ (f : Addr) (cdv : Value) (A : Around) (outer : List Env) (s : Shared) (H : Hp) (vs : List V) (Q : VK) (E : XK), Room k (A.deeper (envOfC name (ze st) s.heap.objs.size f cdv)) -> sp vs H Q E ->
      ∃ t, PSs (cxOf CX0 P w K mg base N name (ze st) f cdv A outer s H E).nox (zy st) t /\ t { nx := fun _ H' => Q .non H', rt := Q } (start N vs) H) : FnAt P w K mg base name (k + 1) ps sp := by
  obtain ⟨f, fd, hm, F, hb⟩ := D.ex;exact ⟨f, fd, hm, F.kp, hb, F.ok S len (hbody f)⟩
theorem def_mk {K : Fg} {h : Heap} {mg : Str -> Option Value} (X : K.In h) (G : h.Ns mainGlobals mg) {name : Str} {st : Stmt} {f : Addr} {oc : Value} {od an : Option Addr} {osl : Array (Option Value)} {kV doc pm cdv ct : Value} {ps : List Str}
    (a : PySem.W.nsIn K mainGlobals name = some (some (.ref f))) (l : K.lookup f = some ⟨oc, od, .func (PySem.W.fnOf name name (ui st) (zy st) (ze st) .none kV doc pm an cdv ct), osl⟩)
    (c : PySem.W.codeIn K cdv name = true) (k : PySem.W.keepIn K (.ref f) = true)
    (hb : ∀ (kV doc pm : Value) (an : Option Addr) (cdv ct : Value) (us : List Value), us.length = ps.length -> bindArgs (PySem.W.fnOf name name (ui st) (zy st) (ze st) .none kV doc pm an cdv ct) ⟨us, []⟩ = pure (ps.zip us)) : zj K mg name st ps :=
  ⟨f, _, PySem.W.mg_of X G a, zdy l c k, (zdy (st := st) l c k).binds hb⟩
section
variable {X : Cx} {x : Str} {k : Nat} {ps : List Str} {sp : Sp} {p pos : Pos} {e : Expr} {es : List Expr} {t : TA}
theorem zp (F : FnAt X.prog X.w X.K X.mg X.base x k ps sp) (hr : Room k X.A) (hg : Gl X x) (ha : PA X (e :: es) t) (hdb : (x == ("__debug__" : Str)) = false := by decide) (he : starEach (e :: es) X.env = (false, eval e X.env) :: starEach es X.env := by rfl)
    (hpl : (backTo pos (starEach es X.env)).any (·.1) = false := by rfl) : PE X (.Call (.Name x p) (e :: es) [] pos) (ce sp [] E0 t) := by
  obtain ⟨f, fd, hm, hk, hb, G⟩ := F.ex;exact zbx G hr hg hm hk hb .nil pass0 ha hdb he hpl
end
theorem cxK {CX : CXT} {P : Program} {w : World} {K : Fg} {mg : Str -> Option Value} {base : Heap} {N : List Str} {qual : Str} {scope : Scope} {f : Addr} {cd : Value} {A : Around} {outer : List Env} {s : Shared} {H : Hp} {E : XK} : (cxOf CX P w K mg base N qual scope f cd A outer s H E).K = K := rfl
section
variable {D : Ends} {σ : St} {H : Hp} {Q : VK} {QT : Bool -> Hp -> Prop} {QA : List V -> Hp -> Prop} {QS : St -> Hp -> Prop} {R : It -> Hp -> Prop} {a b c : TE} {s t : TS} {tt uu : TT} {ta tr : TA} {g : TG} {i : Nat} {v x y z : V} {r r' : R2} {wi : TI}
theorem e_var : tVar i σ H Q = ∃ v, σ[i]? = some (some v) /\ Q v H := rfl
theorem e_C : tC v σ H Q = Q v H := rfl
theorem e_op : tOp r a b σ H Q = a σ H fun x H1 => b σ H1 fun y H2 => r x y H2 Q := rfl
theorem e_un {u : V -> Hp -> VK -> Prop} : tUn u a σ H Q = a σ H fun x H1 => u x H1 Q := rfl
theorem e_rI {C : Int -> Int -> Prop} {f : Int -> Int -> V} : rI C f x y H Q = ∃ i j, x = .int i /\ y = .int j /\ C i j /\ Q (f i j) H := rfl
theorem e_rI0 {f : Int -> Int -> V} : rI0 f x y H Q = ∃ i j, x = .int i /\ y = .int j /\ Q (f i j) H := rfl
theorem e_rU {f : Int -> V} : rU f x H Q = ∃ i, x = .int i /\ Q (f i) H := rfl
theorem e_rEq : rEq x y H Q = (scal x y = true /\ Q (.bl (decide (x = y))) H) := rfl
theorem e_rNe : rNe x y H Q = (scal x y = true /\ Q (.bl (!decide (x = y))) H) := rfl
theorem e_ixL {K : Fg} : rIxL K x y H Q = ∃ p xs i v, x = .ref p /\ y = .int i /\ SqL K H p xs /\ atI xs i = some v /\ Q v H := rfl
theorem e_ixT {K : Fg} : rIxT K x y H Q = ∃ p xs i v, x = .ref p /\ y = .int i /\ SqT K H p xs /\ atI xs i = some v /\ Q v H := rfl
theorem e_set {o i v : V} {Q : Hp -> Prop} : rSetL o i v H Q = ∃ p xs k j, o = .ref p /\ i = .int k /\ H p = some (.lst xs) /\ ixN xs.length k = some j /\ Q (upd H p (.lst (xs.set j v))) := rfl
theorem e_cat : rCat x y H Q = ∃ l b xs zs, x = .ref l /\ y = .ref b /\ H l = some (.lst xs) /\ H b = some (.lst zs) /\ xs.length + zs.length <= sizeLine /\ ∀ p, H p = none -> Q (.ref p) (upd H p (.lst (xs ++ zs))) := rfl
theorem e_test : mr a σ H QT = a σ H fun x H' => ∃ k, x = .bl k /\ QT k H' := rfl
theorem e_B : tB a σ H QT = a σ H fun x H1 => ∃ c, x = .bl c /\ QT c H1 := rfl
theorem e_and : tAnd tt uu σ H QT = tt σ H fun c H1 => if c = true then uu σ H1 QT else QT false H1 := rfl
theorem e_or : tOr tt uu σ H QT = tt σ H fun c H1 => if c = true then QT true H1 else uu σ H1 QT := rfl
theorem e_not : tNot tt σ H QT = tt σ H fun c H1 => QT (!c) H1 := rfl
theorem e_andV : tAndV a b σ H Q = a σ H fun x H1 => ∃ c, x = .bl c /\ if c = true then b σ H1 Q else Q (.bl false) H1 := rfl
theorem e_orV : tOrV a b σ H Q = a σ H fun x H1 => ∃ c, x = .bl c /\ if c = true then Q (.bl true) H1 else b σ H1 Q := rfl
theorem e_notV : tNotV a σ H Q = a σ H fun x H1 => ∃ c, x = .bl c /\ Q (.bl (!c)) H1 := rfl
theorem e_ifE : tIf tt a b σ H Q = tt σ H fun c H1 => if c = true then a σ H1 Q else b σ H1 Q := rfl
theorem e_all : tAll σ H QT = QT true H := rfl
theorem e_next : cj D σ H = D.nx σ H := rfl
theorem e_seq : tSeq s t D σ H = s { D with nx := t D } σ H := rfl
theorem e_brk : tBreak D σ H = D.bk σ H := rfl
theorem e_cnt : tCont D σ H = D.ct σ H := rfl
theorem e_drop : tDrop a D σ H = a σ H fun _ H1 => D.nx σ H1 := rfl
theorem e_ret : tRet a D σ H = a σ H D.rt := rfl
theorem e_retN : tRetN D σ H = D.rt .non H := rfl
theorem e_ifS : tIfS tt s t D σ H = tt σ H fun b H1 => if b = true then s D σ H1 else t D σ H1 := rfl
theorem e_asg : tAsg a g D σ H = a σ H fun x H1 => g x σ H1 D.nx := rfl
theorem zhf : zcn i v σ H QS = QS (σ.set i (some v)) H := rfl
theorem e_setC : tSetC i a D σ H = a σ H fun x H1 => D.nx (σ.set i (some x)) H1 := rfl
theorem e_augS {tget : V -> V -> Hp -> VK -> Prop} {tip : TIp} {tset : TSet} : tAugS a b c tget tip tset D σ H = a σ H fun o H1 => b σ H1 fun i H2 => tget o i H2 fun x H3 => c σ H3 fun y H4 => tip x y H4 fun z H5 => tset o i z H5 fun H6 => D.nx σ H6 := rfl
theorem e_ipI {f : Int -> Int -> Int} : ipI f x y H Q = ∃ i j, x = .int i /\ y = .int j /\ Q (.int (f i j)) H := rfl
theorem e_nil : tNil σ H QA = QA [] H := rfl
theorem e_cons : zcj a ta σ H QA = a σ H fun x H1 => ta σ H1 fun xs H2 => QA (x :: xs) H2 := rfl
theorem e_tup : tTup ta σ H Q = ta σ H fun xs H1 => xs.length <= sizeLine /\ ∀ p, H1 p = none -> Q (.ref p) (upd H1 p (.tup xs)) := rfl
theorem e_lst : tLst ta σ H Q = ta σ H fun xs H1 => xs.length <= sizeLine /\ ∀ p, H1 p = none -> Q (.ref p) (upd H1 p (.lst xs)) := rfl
theorem e_call {sp : Sp} {E : XK} : ce sp [] E ta σ H Q = ta σ H fun vs H1 => sp (vs ++ []) H1 Q E := rfl
theorem e_CB {u : List V -> Hp -> VK -> Prop} : tCB u ta σ H Q = ta σ H fun vs H1 => u vs H1 Q := rfl
theorem e_BM {K : Fg} {T : String} {u : V -> List V -> Hp -> VK -> Prop} : tBM K T u a ta σ H Q = a σ H fun x H1 => tyV K T x H1 /\ ta σ H1 fun xs H2 => u x xs H2 Q := rfl
theorem e_app {vs : List V} : zbc x vs H Q = ∃ l xs y, x = .ref l /\ vs = [y] /\ H l = some (.lst xs) /\ xs.length < sizeLine /\ Q .non (upd H l (.lst (xs ++ [y]))) := rfl
theorem e_rng1 : iRng1 ta σ H R = ta σ H fun vs H1 => ∃ j : Int, vs = [.int j] /\ -(2 ^ 62) <= j /\ j < 2 ^ 62 /\ R (Itr 0 j.toNat) H1 := rfl
theorem e_rng2 : iRng2 ta σ H R = ta σ H fun vs H1 => ∃ i j : Int, vs = [.int i, .int j] /\ (-(2 ^ 62) <= i /\ i < 2 ^ 62 /\ -(2 ^ 62) <= j /\ j < 2 ^ 62) /\ R (Itr i (j - i).toNat) H1 := rfl
theorem e_iL {K : Fg} : iList K a σ H R = a σ H fun x H1 => ∃ p, x = .ref p /\ (∃ xs, SqL K H1 p xs) /\ R (Itl K p) H1 := rfl
def ForW (J : It) (g : TG) (tb : TS) (D : Ends) (σ : St) (H1 : Hp) : Prop := ∃ W : Nat -> Nat -> St -> Hp -> Prop, (∃ m, W 0 m σ H1) /\ ∀ i m σ H, W i m σ H ->
  (J.stop i H /\ D.nx σ H) \/ (J.go i H /\ ∃ N : St -> Hp -> Prop, (∀ σ' H', N σ' H' -> ∃ m', m' < m /\ W (i + 1) m' σ' H') /\ ∀ x H', J.yld i H x H' -> g x σ H' fun σ2 H2 => tb { D with nx := N, ct := N, bk := D.nx } σ2 H2)
theorem e_for : tFor wi g t D σ H = wi σ H fun J H1 => ForW J g t D σ H1 := rfl
theorem e_comp {k : Nat} {g : Dyn -> TG} {tt : Dyn -> TT} {te : Dyn -> TE} : zc6 k wi g tt te σ H Q = wi σ H fun J H1 => ∀ d : Dyn, rc J σ k (g d) (tt d) (te d) H1 fun ys H' => ∀ l, H' l = none -> Q (.ref l) (upd H' l (.lst ys)) := rfl
end
end L2
namespace L2
open PySem PySem.Spec PyProof.Rows
section
variable {X : Cx}
theorem vh (hc : X.calm = true) : CallR X (.builtin "all") (fun xs H Q => ∃ (p : Addr) (bs : List Bool), xs = [.ref p] /\ SqL X.K H p (bs.map V.bl) /\ Q (.bl (bs.all id)) H) := by
  intro pins s σ H xs us Q I r h;obtain ⟨p, bs, rfl, hq, q⟩ := h;obtain ⟨u, rfl, rx⟩ := Vals.one r;cases rx;obtain ⟨its, rv, pl, hz⟩ := I.list hq;have hlt : p < s.heap.objs.size := by obtain ⟨_, e, _⟩ := pl.isList; exact Heap.lt_size e
  have hlen : its.length = bs.length := by have := rv.length; rw [Za] at this; exact this.symm
  refine call_all_walk (wpAny_pyIter_list pl.isList ?_)
  refine ⟨s.heap.objs.size, [s.heap.objs.size, p], [s.heap.objs.size], its.toArray.size, _, _, fun i => (bs[i]?).getD true, rfl, Walks.list (A := X.A.in1) (I.ok.hd hc) _ p (Zs hlt) its.toArray,
    ⟨⟨_, Heap.get?_push_size _ rfl, rfl, rfl⟩, pl.isList.push _⟩, fun i v s' Q' E' hP hQ => ?_, fun h' tk hk => ?_⟩
  . have hi : its[i]? = some v := by simpa using hP
    have hil : i < bs.length := by rw [<- hlen]; exact (Zc.mp hi).1
    have e : bs[i]? = some bs[i] := by simp [hil]
    obtain ⟨u, hu, ru⟩ := rv.get (i := i) (x := V.bl bs[i]) (by rw [Ze, e]; rfl);rw [hi] at hu;cases hu;cases ru;simp only [e, Xd] at hQ;exact wpAny_truthy_bool hQ
  . have e : ((List.range its.toArray.size).all fun i => (bs[i]?).getD true) = bs.all id := by
      rw [Zr, hlen];rw [Bool.eq_iff_iff, ZS, ZS]
      constructor
      . intro z b hb
        obtain ⟨i, hi, rfl⟩ := Zy hb;have := z i (ZX.mpr hi)
        simpa [Zb hi] using this
      . intro z i hi
        have hi' := ZX.mp hi;simp only [Zb hi', Xd];exact z _ (Zl hi')
    rw [e];exact ⟨.bl (bs.all id), H, I.kept fun b x e => hk b x (fun hm => by rw [ZC.mp hm] at e; exact ZJ _ (Heap.lt_size e)) (Heap.get?_push_of_some _ e), rfl, q⟩
end
def Itz (K : Fg) (a b : Addr) : It :=
  ⟨fun i H => ∃ xs ys x y, SqL K H a xs /\ SqL K H b ys /\ xs[i]? = some x /\ ys[i]? = some y,
   fun i H v H' => ∃ T x y, v = .ref T /\ H T = none /\ H' = upd H T (.tup [x, y]) /\ ∀ xs ys, SqL K H a xs -> SqL K H b ys -> xs[i]? = some x /\ ys[i]? = some y,
   fun i H => ∃ xs ys, SqL K H a xs /\ SqL K H b ys /\ (xs.length <= i \/ ys.length <= i)⟩
theorem Inv.turnedLaid {X : Cx} {pins : List (Addr × Obj)} {σ : St} {H : Hp} {s : Shared} {h' : Heap} {t' : Nat} {ch : List Addr} {T : Addr} {o : HO} (I : Inv X pins σ H s) (hf : ∀ b ∈ ch, FpOk X pins H b)
    (k : ∀ b o, b ∉ ch -> s.heap.get? b = some o -> h'.get? b = some o) (hT : s.heap.objs.size <= T) (new : ObjOk X.prog X.w (upd H T o) h' T o) : Inv X pins σ (upd H T o) { s with heap := h', toks := t' } := by
  have nch : ∀ b u, H b = some u -> b ∉ ch := fun b u e z => by rw [(hf b z).1] at e; cases e
  have nT : ∀ b u, H b = some u -> b ≠ T := fun b u e => Zs (Zh (I.hok.lt e) hT)
  have nT' : ∀ b u, s.heap.get? b = some u -> b ≠ T := fun b u e => Zs (Zh (Heap.lt_size e) hT)
  refine I.step (g' := s.gens) (d' := s.drawn) (ch := ch) (fun b hb => ?_) (fun b o _ _ hc e _ => k b o hc e) (fun b o _ _ hc e _ => ⟨o.slots, k b o hc e⟩) (fun b o _ e n => by rw [zn (nT' b o e)]; exact n)
    (fun b o hc e => ⟨o, k b o hc e⟩) (fun b xs e => by rw [zn (nT b _ e)]; exact e) (fun b ob u e => by rw [zn (nT b _ e)]; exact e) (fun b ps e => ⟨#[], by rw [zn (nT b _ e), e]; simp⟩) (fun m hm => ?_) (fun b u e => ?_) I.bare
  . obtain ⟨f0, f1, f2, f3, f4, f5⟩ := hf b hb
    exact ⟨f3, f1, f4, f5⟩
  . obtain ⟨ob, es, ep, ho, r⟩ := hm
    exact ⟨ob, es, ep, k _ ob (fun z => (hf _ z).2.1 rfl) ho, r⟩
  . by_cases hb : b = T
    . subst hb
      rw [zd] at e;cases e;exact new
    . rw [zn hb] at e
      refine (I.hok b u e).stay (fun c v hc q => k c v ?_ q) (fun c q => by rw [zn (nT c _ q)]; exact q) fun c xs q => by rw [zn (nT c _ q)]; exact q
      rcases hc with z | z
      . rw [z]; exact nch b u e
      . exact nch c _ z
def iZip (K : Fg) (ta : TA) : TI := fun σ H R => ta σ H fun vs H1 => ∃ a b, vs = [.ref a, .ref b] /\ (∃ xs, SqL K H1 a xs) /\ (∃ ys, SqL K H1 b ys) /\ R (Itz K a b) H1
theorem e_zip {K : Fg} {ta : TA} {σ : St} {H : Hp} {R : It -> Hp -> Prop} : iZip K ta σ H R = ta σ H fun vs H1 => ∃ a b, vs = [.ref a, .ref b] /\ (∃ xs, SqL K H1 a xs) /\ (∃ ys, SqL K H1 b ys) /\ R (Itz K a b) H1 := rfl
theorem e_gTup {K : Fg} {n : Nat} {t : TGs} {v : V} {σ : St} {H : Hp} {Q : St -> Hp -> Prop} : gTup K n t v σ H Q = ∃ a xs, v = .ref a /\ SqT K H a xs /\ xs.length = n /\ t xs σ H Q := rfl
theorem e_gNil {vs : List V} {σ : St} {H : Hp} {Q : St -> Hp -> Prop} : gNil vs σ H Q = (vs = [] /\ Q σ H) := rfl
theorem zht {t : TG} {u : TGs} {vs : List V} {σ : St} {H : Hp} {Q : St -> Hp -> Prop} : gCons t u vs σ H Q = ∃ v r, vs = v :: r /\ t v σ H fun σ' H' => u r σ' H' Q := rfl
end L2
namespace L2
open PySem PySem.Spec PyProof.Rows
def eqVs : List V -> List V -> Bool
  | [], [] => true
  | x :: xs, y :: ys => eqV x y && eqVs xs ys
  | _, _ => false
theorem ix : ∀ {xs ys : List V}, xs.length = ys.length -> ((List.range xs.length).all fun j => eqV (xs.getD j .non) (ys.getD j .non)) = eqVs xs ys
  | [], [], _ => rfl
  | [], _ :: _, h => by simp at h
  | _ :: _, [], h => by simp at h
  | x :: xs, y :: ys, h => by
    have ih := @ix xs ys (by simpa using h);rw [ZP, List.range_succ_eq_map, Xa, List.all_map]
    show (eqV x y && _) = (eqV x y && eqVs xs ys)
    rw [<- ih];rfl
theorem br : ∀ {xs ys : List V}, xs.length ≠ ys.length -> eqVs xs ys = false
  | [], [], h => by simp at h
  | [], _ :: _, _ => rfl
  | _ :: _, [], _ => rfl
  | x :: xs, y :: ys, h => by
    have ih := @br xs ys (by simpa using h);unfold eqVs;rw [ih, Bool.and_false]
theorem kg {xs : List V} (h : xs.all xh = true) {j : Nat} {x : V} (e : xs[j]? = some x) : xh x = true := ZS.mp h x (Zi e)
theorem cz {A : Around} {s : Shared} {us vs : List Value} {xs ys : List V} (hu : Vals xs us) (hv : Vals ys vs) (fx : xs.all xh = true) (fy : ys.all xh = true) :
    ∀ j (h1 : j < us.toArray.size) (h2 : j < vs.toArray.size), SeqAt.EqAt A s us.toArray[j] vs.toArray[j] (eqV (xs.getD j .non) (ys.getD j .non)) := by
  intro j h1 h2;have h1' : j < us.length := by simpa using h1
  have h2' : j < vs.length := by simpa using h2
  obtain ⟨x, ex, rx⟩ := zaa hu h1';obtain ⟨y, ey, ry⟩ := zaa hv h2';rw [List.getElem_toArray, List.getElem_toArray, Zk, Zk, ex, ey];exact zdh rx ry (kg fx ex) (kg fy ey)
section
variable {X : Cx}
theorem op_neF (hu : X.A.units < cLine) : OpR X (compareOp .NotEq) (fun x y H Q => ∃ (a b : Addr) (xs ys : List V), x = .ref a /\ y = .ref b /\ SqL X.K H a xs /\ SqL X.K H b ys /\ xs.all xh = true /\ ys.all xh = true /\ Q (.bl (!eqVs xs ys)) H) := by
  intro pins s σ H x y v u Q I rx ry h;obtain ⟨a, b, xs, ys, rfl, rfl, ha, hb, fx, fy, q⟩ := h;cases rx; cases ry;obtain ⟨us, r1, p1, z1⟩ := I.list ha;obtain ⟨vs, r2, p2, z2⟩ := I.list hb;have l1 := r1.length;have l2 := r2.length
  by_cases hl : xs.length = ys.length
  . refine SeqAt.RcNeAt.lists p1.isList p2.isList (by simp; omega) hu (cz (A := X.A.in1) (s := s) r1 r2 fx fy) _ _ _ _ ?_
    rw [Zr, <- l1, ix hl];exact ⟨.bl (!eqVs xs ys), H, I, rfl, q⟩
  . refine SeqAt.RcNeAt.lists_lengths p1.isList p2.isList (by simp; omega) hu _ _ _ _ ?_
    rw [br hl] at q;exact ⟨.bl true, H, I, rfl, q⟩
end
section
variable {X : Cx}
end
theorem e_gSub {to ti : TE} {t : TSet} {v : V} {σ : St} {H : Hp} {Q : St -> Hp -> Prop} : gSub to ti t v σ H Q = to σ H fun o H1 => ti σ H1 fun i H2 => t o i v H2 fun H3 => Q σ H3 := rfl
theorem e_rep {x y : V} {H : Hp} {Q : VK} : rRep x y H Q = ∃ l k xs, x = .ref l /\ y = .int k /\ H l = some (.lst xs) /\ -(2 ^ 63) <= k /\ k < 2 ^ 63 /\ xs.length * k.toNat <= sizeLine /\ ∀ p, H p = none -> Q (.ref p) (upd H p (.lst (List.replicate k.toNat xs).flatten)) := rfl
end L2
namespace L2
open PySem PySem.Spec PyProof.Rows
section
variable {σ : St} {k : Nat} {g : TG} {tt : TT} {te : TE} {H1 : Hp} {Fin : List V -> Hp -> Prop}
end
theorem e_slL {K : Fg} {x : V} {lo hi : Option Int} {H : Hp} {Q : VK} : rSlL K x lo hi H Q = ∃ a xs, x = .ref a /\ SqL K H a xs /\ ∀ p, H p = none -> Q (.ref p) (upd H p (.lst (cutV xs lo hi))) := rfl
theorem e_tSl {r : V -> Option Int -> Option Int -> Hp -> VK -> Prop} {te : TE} {tl th : TO} {σ : St} {H : Hp} {Q : VK} : tSl r te tl th σ H Q = te σ H fun x H1 => tl σ H1 fun l H2 => th σ H2 fun u H3 => r x l u H3 Q := rfl
theorem zgu {σ : St} {H : Hp} {Q : Option Int -> Hp -> Prop} : zbp σ H Q = Q none H := rfl
theorem e_part {t : TE} {σ : St} {H : Hp} {Q : Option Int -> Hp -> Prop} : tPart t σ H Q = t σ H fun x H1 => ∃ i, x = .int i /\ Q (some i) H1 := rfl
end L2
namespace L2
open PySem PySem.Spec PyProof.Rows
section
variable {σ : St} {H : Hp} {Q : VK} {a b c : TE} {x : V} {vs : List V} {r r' : R2}
theorem e_BM0 {K : Fg} {T : String} {u : V -> List V -> Hp -> VK -> Prop} : tBM0 K T u a σ H Q = a σ H fun x H1 => tyV K T x H1 /\ u x [] H1 Q := rfl
theorem zh9 : ac r r' a b c σ H Q = a σ H fun x H1 => b σ H1 fun y H2 => r x y H2 fun z H3 => ∃ k, z = .bl k /\ (if k = true then c σ H3 fun w' H4 => r' y w' H4 Q else Q (.bl false) H3) := rfl
theorem zhv : am σ H Q = ∀ p, H p = none -> Q (.ref p) (upd H p (.dK [])) := rfl
theorem au {X : Cx} {pos : Pos} : PE X (.Dict [] [] pos) am := zfo
theorem e_in {K : Fg} {neg : Bool} {y : V} : rIn K neg x y H Q = ∃ p xs, y = .ref p /\ (SqL K H p xs \/ SqT K H p xs) /\ xh x = true /\ xs.all xh = true /\ Q (.bl (if neg then !inV x xs else inV x xs)) H := rfl
end
theorem pj {X : Cx} {x : Str} {i : Int} {pos : Pos} (hg : Gl X x) (hm : ∃ t, X.mg x = some (Value.int i t)) (hd : (x == ("__debug__" : Str)) = false := by decide) : PE X (.Name x pos) (tC (.int i)) := by
  obtain ⟨t, hm⟩ := hm;exact wv hg hm ⟨t, rfl⟩ hd
def Ite (K : Fg) (a : Addr) : It :=
  ⟨fun i H => ∃ xs x, SqL K H a xs /\ xs[i]? = some x,
   fun i H v H' => ∃ T x, v = .ref T /\ H T = none /\ H' = upd H T (.tup [.int i, x]) /\ ∀ xs, SqL K H a xs -> xs[i]? = some x,
   fun i H => ∃ xs, SqL K H a xs /\ xs.length <= i⟩
def iEnum (K : Fg) (ta : TA) : TI := fun σ H R => ta σ H fun vs H1 => ∃ a, vs = [.ref a] /\ (∃ xs, SqL K H1 a xs) /\ R (Ite K a) H1
theorem e_enum {K : Fg} {ta : TA} {σ : St} {H : Hp} {R : It -> Hp -> Prop} : iEnum K ta σ H R = ta σ H fun vs H1 => ∃ a, vs = [.ref a] /\ (∃ xs, SqL K H1 a xs) /\ R (Ite K a) H1 := rfl
section
variable {X : Cx}
end
section
variable {X : Cx}
end
end L2
namespace L2
open PySem PySem.Spec PyProof.Rows
section
variable {X : Cx} {pins : List (Addr × Obj)} {σ : St} {H : Hp} {k : Nat} {f : Addr} {fd : FuncData} {ps : List Str} {sp : Sp}
theorem a8 {s : Shared} {fp : List Addr} {x : V} {u : Value} {n : Int} {Q : Value -> Shared -> Prop} {E : Value -> Shared -> Prop} (F : FnOk X.prog X.w X.K X.mg X.base CX0 k f fd ps sp) (hb : Binds X.K fd ps []) (hr : Room k X.A.in1)
    (I : Inv X pins σ H s) (hf : ∀ b ∈ fp, FpOk X pins H b) (ho : ∀ b ∈ fp, ∃ o, s.heap.get? b = some o /\ ∀ v, o.data ≠ .cell v) (rx : RelV x u)
    (h : sp [x] H (fun v H' => v = .int n /\ H' = H) E0)
    (q : ∀ t s', Inv X pins σ H s' -> (∀ b ∈ fp, ∀ o, s.heap.get? b = some o -> s'.heap.get? b = some o) -> Q (.int n t) s') :
    wpAny (model X.prog X.w) X.A.in1 (call (.ref f) [u]) Q E s := by
  have I1 := I.pinned hf ho;have hl : [u].length = ps.length := F.len [x] _ _ _ h;refine wpAny_call (codeAny_mono (F.run X.A.in1 X.stack s H ⟨[u], []⟩ [u] [x] _ E0 hr I1.env0.in1 (hb s [u] I.kIn hl) (.cons rx .nil) h) fun r s' hq => ?_)
  cases r with
  | error e => exact hq.elim
  | ok fl =>
    cases fl with
    | ret u' =>
      obtain ⟨v, H', I2, rv, e1, e2⟩ := I1.after hq;subst e1 e2;obtain ⟨t, rfl⟩ := rv;refine q t s' I2.unpinned fun b hb o e => ?_
      exact (I2.pin (b, o) (Zu _ (Zu _ (u6 hb e)))).1
    | next => exact False.elim hq
    | brk => exact False.elim hq
    | cont => exact False.elim hq
theorem Inv.turned1 {s : Shared} {h' : Heap} {it : Addr} {t' : Nat} (I : Inv X pins σ H s) (hf : FpOk X pins H it) (k : ∀ b o, b ≠ it -> s.heap.get? b = some o -> h'.get? b = some o) : Inv X pins σ H { s with heap := h', toks := t' } := by
  obtain ⟨f0, f1, f2, f3, f4, f5⟩ := hf;exact I.turned k f0 f1 f3 f4 f5
def tMinK (K : Fg) (sp : Sp) (ta : TA) : TE := fun σ H Q => ta σ H fun vs H1 => ∃ (l : Addr) (xs : List V) (kf : Nat -> Int), vs = [.ref l] /\ SqL K H1 l xs /\ 0 < xs.length /\
  (∀ i x, xs[i]? = some x -> sp [x] H1 (fun v H' => v = .int (kf i) /\ H' = H1) E0) /\ ∀ i x, xs[i]? = some x -> (∀ j, j < xs.length -> kf i <= kf j /\ (j < i -> kf i < kf j)) -> Q x H1
theorem e_minK {K : Fg} {ta : TA} {Q : VK} : tMinK K sp ta σ H Q = ta σ H fun vs H1 => ∃ (l : Addr) (xs : List V) (kf : Nat -> Int), vs = [.ref l] /\ SqL K H1 l xs /\ 0 < xs.length /\
  (∀ i x, xs[i]? = some x -> sp [x] H1 (fun v H' => v = .int (kf i) /\ H' = H1) E0) /\ ∀ i x, xs[i]? = some x -> (∀ j, j < xs.length -> kf i <= kf j /\ (j < i -> kf i < kf j)) -> Q x H1 := rfl
end
end L2
namespace L2
open PySem PySem.Spec PyProof.Rows
def CX1 (P : Program) (w : World) : CXT := fun outer H s E e s' => ∃ (ea C : Addr) (a0 : Value) (B : Heap) (H' : Hp), e = .ref ea /\ s'.os = s.os /\ AllBare s'.gens /\ Un (frs outer) [] H H' s.heap s'.heap /\ HOk P w H' s'.heap /\
  Heap.FlyingW B outer ea (.ref C) a0 s'.heap /\ H' ea = none /\ (∀ b o, H' b = some o -> ∃ ob, B.get? b = some ob) /\ (∀ b o, s.heap.get? b = some o -> b ∉ frs outer -> ∃ ob, B.get? b = some ob /\ (H b = none -> ob = o)) /\ E (.ref C) none H'
theorem pass1 {P : Program} {w : World} {X : Cx} : j9 (CX1 P w) X E0 := fun _ _ _ _ _ _ _ h => by
  obtain ⟨_, _, _, _, _, _, _, _, _, _, _, _, _, _, z⟩ := h;exact z.elim
theorem UpToSlots.get {h h' : Heap} (u : h.UpToSlots h') {b : Addr} {o : Obj} (e : h.get? b = some o) (n : ∀ vs, o.data ≠ .fields vs) : ∃ sl, h'.get? b = some { o with slots := sl } := u b o e n
theorem HOk.flown {P : Program} {w : World} {H : Hp} {h h' B : Heap} (x : HOk P w H h) (bh : B.StaysIn h) (bh' : B.StaysIn h') (dom : ∀ b o, H b = some o -> ∃ ob, B.get? b = some ob) : HOk P w H h' := fun a o e =>
  (x a o e).stay (fun b u hb q => by
    have hB : ∃ ob, B.get? b = some ob := by
      rcases hb with rfl | hb
      . exact dom _ _ e
      . exact dom _ _ hb
    obtain ⟨ob, hob⟩ := hB;have := bh b ob hob;rw [q] at this;cases this
    exact bh' b u hob) (fun _ q => q) fun _ _ q => q
theorem jk {P : Program} {w : World} {H : Hp} {h : Heap} {a : Addr} {o : HO} (x : ObjOk P w H h a o) : ∃ ob, h.get? a = some ob := by
  cases o with
  | lst xs => obtain ⟨_, _, _, _, e⟩ := x; exact ⟨_, e⟩
  | tup xs => obtain ⟨_, _, _, o, e, _⟩ := x; exact ⟨_, e⟩
  | dK kvs => obtain ⟨_, _, _, _, o, _, _, e, _⟩ := x; exact ⟨_, e⟩
  | dT kvs => obtain ⟨_, _, _, _, o, _, _, e, _⟩ := x; exact ⟨_, e⟩
  | set S n => obtain ⟨o, _, _, _, e, _⟩ := x; exact ⟨_, e⟩
  | ins C dx fs => obtain ⟨_, _, _, e, _⟩ := x; exact ⟨_, e⟩
  | own y => exact x
  | xd fs => obtain ⟨_, ⟨_, _, _, e, _⟩, _⟩ := x; exact ⟨_, e⟩
  | rng lo hi => obtain ⟨_, _, _, e⟩ := x; exact ⟨_, e⟩
  | frz ob u => obtain ⟨e, _⟩ := x; exact ⟨_, e⟩
  | tbl ps => exact ⟨_, (show h.get? a = some _ from x)⟩
  | met f y => exact ⟨_, (show h.get? a = some _ from x)⟩
  | ext φ => obtain ⟨_, e, _⟩ := x; exact e
section
variable {X : Cx} {pins : List (Addr × Obj)} {σ : St} {H : Hp} {s : Shared}
theorem cu {fs : List Addr} {H0 H1 : Hp} {h0 h1 h2 B : Heap} (u : Un fs [] H0 H1 h0 h1) (dom2 : ∀ b o, h0.get? b = some o -> b ∉ fs -> ∃ ob, B.get? b = some ob /\ (H0 b = none -> ob = o))
    (bh' : B.StaysIn h2) (sl : h1.UpToSlots h2) (hfr : ∀ b ∈ fs, ∀ o, h1.get? b = some o -> ∀ vs, o.data ≠ .fields vs) : Un fs [] H0 H1 h0 h2 where
  keep := fun b o e n hb _ => by
    obtain ⟨ob, e1, e2⟩ := dom2 b o e hb;rw [e2 n] at e1;exact bh' b o e1
  slot := fun b o e n hb hx => by
    obtain ⟨s1, e1⟩ := u.slot b o e n hb hx;obtain ⟨s2, e2⟩ := sl b _ e1 (hfr b hb _ e1);exact ⟨s2, e2⟩
  free := u.free
  there := fun b o e hx => by
    by_cases hb : b ∈ fs
    . obtain ⟨o1, e1⟩ := u.there b o e hx
      obtain ⟨s2, e2⟩ := sl b _ e1 (hfr b hb _ e1);exact ⟨_, e2⟩
    . obtain ⟨ob, e1, _⟩ := dom2 b o e hb
      exact ⟨ob, bh' b ob e1⟩
  tups := u.tups
  frzs := u.frzs
  tbls := u.tbls
theorem bj {P : Program} {w : World} {K : Fg} {mg : Str -> Option Value} {base : Heap} {N : List Str} {qual : Str} {scope : Scope} {f : Addr} {cd : Value} {A : Around} {outer : List Env} {s0 : Shared} {H0 : Hp} {E : XK} {h' : Heap} {e C : Addr} {args : List Value}
    (hX : X = cxOf (CX1 P w) P w K mg base N qual scope f cd A outer s0 H0 E) (I : Inv X pins σ H s) (hx : Heap.MadeExcOf s.heap h' e (.ref C) args) (hE : E (.ref C) none H) (tk : Nat) : X.xe (.ref e) { s with heap := h', toks := tk } := by
  subst hX
  show wpAny _ _ (leaving _ (.ref e)) _ _ _
  have hst : s.heap.FunFrames base (envOfC qual scope s0.heap.objs.size f cd :: outer) := I.stack;have hin : ∀ env ∈ (envOfC qual scope s0.heap.objs.size f cd :: outer), ∀ b, env.frame = some b -> b ∈ (envOfC qual scope s0.heap.objs.size f cd :: outer).filterMap (·.frame) := fun env he b hb => Yp.mpr ⟨env, he, hb⟩
  have getB : ∀ b o, s.heap.get? b = some o -> b ∉ (envOfC qual scope s0.heap.objs.size f cd :: outer).filterMap (·.frame) -> (PySem.W.hideAll s.heap ((envOfC qual scope s0.heap.objs.size f cd :: outer).filterMap (·.frame))).get? b = some o := fun b o q n => PySem.W.hideAll_get _ q n
  refine wpAny_leaves_madeW (s := { s with heap := h', toks := tk }) (h := s.heap) I.ok.frames rfl (fun b o q => PySem.W.of_hideAll _ q) (PySem.W.funFrames_hide hst hin) hx fun h'' t x1 x2 x3 x4 => ?_
  have dom : ∀ b o, H b = some o -> ∃ ob, (PySem.W.hideAll s.heap ((envOfC qual scope s0.heap.objs.size f cd :: outer).filterMap (·.frame))).get? b = some ob := fun b o q => by
    have hlt := I.hok.lt q
    have hnf : b ∉ (envOfC qual scope s0.heap.objs.size f cd :: outer).filterMap (·.frame) := fun z => by
      have := I.stkFree b z;rw [q] at this; cases this
    obtain ⟨ob, hob⟩ := jk (I.hok b o q);exact ⟨ob, getB b ob hob hnf⟩
  have un : Un (frs outer) [] H0 H s0.heap s.heap := I.base
  have dom2 : ∀ b o, s0.heap.get? b = some o -> b ∉ frs outer -> ∃ ob, (PySem.W.hideAll s.heap ((envOfC qual scope s0.heap.objs.size f cd :: outer).filterMap (·.frame))).get? b = some ob /\ (H0 b = none -> ob = o) := fun b o q n => by
    have hnf : b ∉ (envOfC qual scope s0.heap.objs.size f cd :: outer).filterMap (·.frame) := fun z => by
      rcases ZK.mp (I.stkSub b z) with y | y
      . have h1 : s0.heap.objs.size <= b := by rw [y]; exact I.ok.above
        exact absurd (Zh (Heap.lt_size q) h1) (ZJ _)
      . exact n y
    obtain ⟨o1, e1⟩ := un.there b o q (by simp);refine ⟨o1, getB b o1 e1 hnf, fun z => ?_⟩;have := un.keep b o q z n (by simp);rw [e1] at this;exact Option.some.inj this
  have hfr : ∀ b ∈ frs outer, ∀ o, s.heap.get? b = some o -> ∀ vs, o.data ≠ .fields vs := fun b hb o q => by
    obtain ⟨_, o', e', n'⟩ := hst.mem (b := b) (by
      obtain ⟨env, he, hf⟩ := Yp.mp hb
      exact Yp.mpr ⟨env, Zv _ he, hf⟩)
    rw [q] at e'; cases e';exact n'
  have sl : s.heap.UpToSlots h'' := (Heap.UpToSlots.of_keeps hx.keeps).trans x4;refine ⟨e, C, _, _, H, rfl, I.os, I.bare, cu un dom2 x1.1 sl hfr, HOk.flown I.hok (fun b o q => PySem.W.of_hideAll _ q) x1.1 dom, x1, ?_, dom, dom2, hE⟩
  cases q : H e with
  | none => rfl
  | some o =>
    obtain ⟨ob, hob⟩ := jk (I.hok e o q);rw [hx.new] at hob; cases hob
theorem Inv.track {ea : Addr} {oe : Obj} {o : HO} (I : Inv X pins σ H s) (he : s.heap.get? ea = some oe) (hn : H ea = none) (new : X.s₀.heap.get? ea = none) (hL : ea ≠ X.env.locals) (hC : ∀ x c, X.env.cells.lookup x = some c -> c ≠ ea) (hp : ∀ p ∈ X.pn ++ pins, p.1 ≠ ea)
    (ok : ObjOk X.prog X.w (upd H ea o) s.heap ea o) : Inv X pins σ (upd H ea o) s := by
  have ne0 : ∀ b u, H b = some u -> b ≠ ea := fun b u q z => by rw [z, hn] at q; cases q
  have new' : ∀ b u, X.s₀.heap.get? b = some u -> b ≠ ea := fun b u q z => by rw [z, new] at q; cases q
  refine ⟨I.ok, I.os, I.bare, ⟨I.base.keep, I.base.slot, fun b u q n hx => ?_, I.base.there, fun b xs q => ?_, fun b u v q => ?_, fun b ps q => ?_⟩, I.loc, I.cell, ?_, fun x c q => ?_, fun p h => ?_, fun b u q => ?_, I.len⟩
  . rw [zn (new' b u q)]; exact I.base.free b u q n hx
  . have := I.base.tups b xs q; rw [zn (ne0 b _ this)]; exact this
  . have := I.base.frzs b u v q; rw [zn (ne0 b _ this)]; exact this
  . obtain ⟨m, this⟩ := I.base.tbls b ps q; exact ⟨m, by rw [zn (ne0 b _ this)]; exact this⟩
  . rw [zn (Ne.symm hL)]; exact I.free
  . rw [zn (hC x c q)]; exact I.freeC x c q
  . obtain ⟨h1, h2, h3⟩ := I.pin p h
    exact ⟨h1, by rw [zn (hp p h)]; exact h2, h3⟩
  . by_cases hb : b = ea
    . subst hb; rw [zd] at q; cases q; exact ok
    . rw [zn hb] at q
      exact (I.hok b u q).stay (fun _ _ _ z => z) (fun c z => by rw [zn (ne0 c _ z)]; exact z) fun c xs z => by rw [zn (ne0 c _ z)]; exact z
def ExcO (ea C : Addr) : HO := .ext fun h => ∃ o, h.get? ea = some o /\ o.cls = .ref C /\ ∃ vs, o.data = .fields vs
abbrev Cx.suite (X : Cx) (e : Value) : Cx := { X with A := X.A.mark (some e), calm := false, xe := fun _ _ => False }
theorem Inv.suite (I : Inv X pins σ H s) (e : Value) : Inv (X.suite e) pins σ H s :=
  ⟨⟨I.ok.mod, I.ok.kind, I.ok.glob, I.ok.blt, I.ok.above, I.ok.inj, I.ok.has, I.ok.cab, (fun z => by cases z), I.ok.frames, I.ok.stk, I.ok.exf, I.ok.bs, I.ok.bsz, I.ok.noex, I.ok.exfs, I.ok.funs, I.ok.frf⟩, I.os, I.bare, I.base, I.loc, I.cell, I.free, I.freeC, I.pin, I.hok, I.len⟩
theorem Inv.unsuite {e : Value} (I : Inv (X.suite e) pins σ H s) (hd : X.calm = true -> X.A.handled = none) : Inv X pins σ H s :=
  ⟨⟨I.ok.mod, I.ok.kind, I.ok.glob, I.ok.blt, I.ok.above, I.ok.inj, I.ok.has, I.ok.cab, hd, I.ok.frames, I.ok.stk, I.ok.exf, I.ok.bs, I.ok.bsz, I.ok.noex, I.ok.exfs, I.ok.funs, I.ok.frf⟩, I.os, I.bare, I.base, I.loc, I.cell, I.free, I.freeC, I.pin, I.hok, I.len⟩
end
abbrev VE : List Value := [.type "ValueError", .type "Exception", .type "BaseException", .type "object"]
structure Err (K : Fg) (C : Addr) : Prop where
  ok : PySem.W.excIn K C VE "ValueError.__new__" = true
theorem Err.obj {K : Fg} {C : Addr} {h : Heap} (c : Err K C) (X : K.In h) : ∃ bm N nm q bs hdct sn sub ab col dd k0 k1 k2 k3 k5 mN, h.get? C = some (excClassObj nm q C N bs bm hdct sn sub ab col dd k0 k1 k2 k3 k5 "ValueError.__new__") /\
    h.Ns N mN /\ mN "__init__" = none /\ OwnTail h VE bm /\ ∀ v b, PySem.W.mroIn K C v = some b -> (Value.ref C :: bm).contains v = b := by
  have q := c.ok;unfold PySem.W.excIn at q
  split at q
  case h_2 => cases q
  case h_1 dd cd sl ho =>
    split at q
    case h_2 => cases q
    case h_1 C' bm k0 k1 k2 k3 n k5 hm hs =>
      simp only [Bool.and_eq_true, beq_iff_eq, Bool.not_eq_true'] at q
      have hmro : ∀ v b, PySem.W.mroIn K C v = some b -> (Value.ref C' :: bm).contains v = b := fun v b e => by
        unfold PySem.W.mroIn PySem.W.clsIn at e;rw [ho] at e;simp only [Option.bind_some, hm, List.isEmpty_cons, Bool.false_eq_true, if_false, Option.some.injEq] at e;exact e
      obtain ⟨⟨⟨⟨⟨e1, e2⟩, hdel⟩, ht⟩, hok⟩, hni⟩ := q;subst e1;subst e2;obtain ⟨nm, bs, mro, ns, qn, hd, sn, sub, ab, col, del⟩ := cd;have hm' : mro = Value.ref C' :: bm := hm;have hdel' : del = false := hdel;subst hm';subst hdel'
      have hsl : sl = #[k0, k1, k2, k3, some (.builtin "ValueError.__new__"), k5] := by
        cases sl with
        | mk l =>
          have hs' : l = [k0, k1, k2, k3, some (.builtin "ValueError.__new__"), k5] := hs;rw [hs']
      subst hsl;exact ⟨bm, ns, nm, qn, bs, hd, sn, sub, ab, col, dd, k0, k1, k2, k3, k5, _, X _ _ ho, .of_isNs (PySem.W.isNs_of_in X hok), PySem.W.nsMap_none_of_in X hok hni, PySem.W.tail_of_in X ht, hmro⟩
section
variable {M : Model} {A : Around} {E : Value -> Shared -> Prop}
theorem g9 {h : Heap} {g : Array GenState} {d : Drawn} {t : Nat} {os : OsState} {e C D : Addr} {oe : Obj} {Q : Bool -> Shared -> Prop} {b : Bool} {K : Fg} (X : K.In h) (cC : Err K C) (cD : Err K D) (he : h.get? e = some oe) (hcls : oe.cls = .ref C)
    (hsub : PySem.W.mroIn K C (.ref D) = some b) (hq : Q b ⟨h, g, d, t, os⟩) : wpAny M A (excMatches (.ref e) (.ref D)) Q E ⟨h, g, d, t, os⟩ := by
  obtain ⟨bm, N, nm, q, bs, hdct, sn, sub, ab, col, dd, k0, k1, k2, k3, k5, mN, hC, hN, hni, T, hm⟩ := cC.obj X;obtain ⟨bm', N', nm', q', bs', hdct', sn', sub', ab', col', dd', k0', k1', k2', k3', k5', mN', hD, hN', hni', T', hm'⟩ := cD.obj X;have hcB : (Value.ref D :: bm').contains (.type "BaseException") = true := by rw [YZ, T'.hasType (X := "BaseException") (b := true) (by decide +kernel), Bool.or_true]
  have hcD := hm _ _ hsub;have f := tc_notTuple;unfold excMatches
  repeat (first | (with_reducible refine wpAny_loadPart_at he ?_; rw [hcls]) | with_reducible refine wpAny_loadPart_at hD ?_ | (with_reducible refine wpAny_isSubtype_exc hD ?_; rw [hcB]) | (with_reducible refine wpAny_isSubtype_exc hC ?_; rw [hcD]) | wp_step)
  cases b <;> (try wp_walk) <;> exact hq
end
end L2
namespace L2
open PySem PySem.Spec PyProof.Rows
theorem PS.nox {X : Cx} {st : Stmt} {t : TS} (h : PS X.nox st t) : PS X st t := fun pins s σ H D I hw =>
  wpAny_mono (h pins s σ H D (I.wish _) hw) (fun _ _ z => z.unwish) fun _ _ z => z.elim
def tryXe (X : Cx) (pn : List (Addr × Obj)) (J : St -> Value -> Hp -> Prop) : Value -> Shared -> Prop := fun e s' =>
  ∃ pins σ H s, Inv { X with pn := pn, xe := fun _ _ => False } pins σ H s /\ CX1 X.prog X.w X.stack H s (fun c _ H' => J σ c H') e s'
abbrev i8 (X : Cx) (pn : List (Addr × Obj)) (J : St -> Value -> Hp -> Prop) : Cx := { X with pn := pn, xe := tryXe X pn J }
def Takes (X : Cx) (J : St -> Value -> Hp -> Prop) : Prop := ∀ pins σ H s e s', Inv X pins σ H s -> CX1 X.prog X.w X.stack H s (fun c _ H' => J σ c H') e s' -> X.xe e s'
theorem zed {X : Cx} {pn : List (Addr × Obj)} {J : St -> Value -> Hp -> Prop} : Takes (i8 X pn J) J := fun pins σ H s e s' I h =>
  ⟨pins, σ, H, s, Inv.unwish (X := { X with pn := pn, xe := fun _ _ => False }) (E := tryXe X pn J) I, h⟩
structure FnAtX (P : Program) (w : World) (K : Fg) (mg : Str -> Option Value) (base : Heap) (name : Str) (k : Nat) (ps : List Str) (sp : Sp) : Prop where
  ex : ∃ f fd, mg name = some (.ref f) /\ PySem.W.keepIn K (.ref f) = true /\ Binds K fd ps [] /\ FnOk P w K mg base (CX1 P w) k f fd ps sp
theorem FnAtX.of {P : Program} {w : World} {K : Fg} {mg : Str -> Option Value} {base : Heap} {name : Str} {st : Stmt} {N ps : List Str} {k : Nat} {sp : Sp} (D : zj K mg name st ps) (S : z6 N ps (ze st)) (len : ∀ vs H Q E, sp vs H Q E -> vs.length = ps.length)
    (hbody : ∀ (f : Addr) (cdv : Value) (A : Around) (outer : List Env) (s : Shared) (H : Hp) (vs : List V) (Q : VK) (E : XK), Room k (A.deeper (envOfC name (ze st) s.heap.objs.size f cdv)) -> sp vs H Q E ->
      ∃ t, PSs (cxOf (CX1 P w) P w K mg base N name (ze st) f cdv A outer s H E) (zy st) t /\ t { nx := fun _ H' => Q .non H', rt := Q } (start N vs) H) : FnAtX P w K mg base name (k + 1) ps sp := by
  obtain ⟨f, fd, hm, F, hb⟩ := D.ex;refine ⟨f, fd, hm, F.kp, hb, ?_⟩;obtain ⟨oc, od, kV, doc, pm, an, cdv, ct, osl, rfl, lk, hcd⟩ := F.ex;exact fn_of lk hcd S len (hbody f cdv)
section
variable {X : Cx} {x : Str} {k : Nat} {ps : List Str} {sp : Sp} {p pos : Pos} {e : Expr} {es : List Expr} {t : TA}
def zd1 (sp : Sp) (J : St -> Value -> Hp -> Prop) (t : TA) : TE := fun σ H Q => t σ H fun vs H1 => sp vs H1 Q fun c _ H' => J σ c H'
theorem zh4 {J : St -> Value -> Hp -> Prop} {σ : St} {H : Hp} {Q : VK} : zd1 sp J t σ H Q = t σ H fun vs H1 => sp vs H1 Q fun c _ H' => J σ c H' := rfl
theorem zgm {J : St -> Value -> Hp -> Prop} (F : FnAtX X.prog X.w X.K X.mg X.base x k ps sp) (hr : Room k X.A) (hx : Takes X J) (hg : Gl X x) (ha : PA X (e :: es) t) (hdb : (x == ("__debug__" : Str)) = false := by decide) (he : starEach (e :: es) X.env = (false, eval e X.env) :: starEach es X.env := by rfl)
    (hpl : (backTo pos (starEach es X.env)).any (·.1) = false := by rfl) : PE X (.Call (.Name x p) (e :: es) [] pos) (zd1 sp J t) := by
  obtain ⟨f, fd, hm, hk, hb, G⟩ := F.ex;intro pins s σ H Q I h;refine wpAny_Call_Name_kw (nw I hg hm ?_ hdb);refine PySem.W.callWith_K (h₀ := X.base) I.ok.mod.kin hk (thn (ha pos pins s σ H _ I h) fun us s1 ⟨vs, H1, I1, r, q⟩ => ⟨I1.kIn, ?_⟩) he hpl;have hl : (us ++ []).length = ps.length := by rw [Ye, <- r.length]; exact G.len _ _ _ _ q
  refine wpAny_call (codeAny_mono (G.run X.A X.stack s1 H1 ⟨us, []⟩ us vs Q _ hr I1.env0 (by have := hb s1 us I1.kIn hl; rw [Ye] at this; exact this) r q) fun r' s' hq => ?_)
  cases r' with
  | error e => exact hx pins σ H1 s1 e s' I1 hq
  | ok fl =>
    cases fl with
    | ret u => exact I1.after hq
    | next => exact False.elim hq
    | brk => exact False.elim hq
    | cont => exact False.elim hq
theorem zf4 (F : FnAtX X.prog X.w X.K X.mg X.base x k ps sp) (hr : Room k X.A) (hg : Gl X x) (ha : PA X (e :: es) t) (hdb : (x == ("__debug__" : Str)) = false := by decide) (he : starEach (e :: es) X.env = (false, eval e X.env) :: starEach es X.env := by rfl)
    (hpl : (backTo pos (starEach es X.env)).any (·.1) = false := by rfl) : PE X (.Call (.Name x p) (e :: es) [] pos) (ce sp [] E0 t) := by
  obtain ⟨f, fd, hm, hk, hb, G⟩ := F.ex;exact zbx G hr hg hm hk hb .nil pass1 ha hdb he hpl
end
section
variable {X : Cx} {C : Addr} {x : Str} {np cpos pos : Pos}
def zey (X : Cx) (C : Addr) (R : Hp -> Prop) : Prop := ∀ pins σ H s h' e args tk, Inv X pins σ H s -> Heap.MadeExcOf s.heap h' e (.ref C) args -> R H -> X.xe (.ref e) { s with heap := h', toks := tk }
theorem sk {P : Program} {w : World} {K : Fg} {mg : Str -> Option Value} {base : Heap} {N : List Str} {qual : Str} {scope : Scope} {f : Addr} {cd : Value} {A : Around} {outer : List Env} {s0 : Shared} {H0 : Hp} {E : XK}
    (hX : X = cxOf (CX1 P w) P w K mg base N qual scope f cd A outer s0 H0 E) : zey X C (fun H => E (.ref C) none H) := fun pins σ H s h' e args tk I hx hE => bj hX I hx hE tk
def zec (R : Hp -> Prop) (ta : TA) : TS := fun _ σ H => ta σ H fun vs H1 => vs.length <= sizeLine /\ R H1
theorem zh2 {R : Hp -> Prop} {ta : TA} {D : Ends} {σ : St} {H : Hp} : zec R ta D σ H = ta σ H fun vs H1 => vs.length <= sizeLine /\ R H1 := rfl
theorem my {e : Expr} {es : List Expr} {R : Hp -> Prop} {ta : TA} (hc : X.calm = true) (c : Err X.K C) (hg : Gl X x) (hm : X.mg x = some (.ref C)) (hr : zey X C R) (ha : PA X (e :: es) ta) (hdb : (x == ("__debug__" : Str)) = false := by decide)
    (he : starEach (e :: es) X.env = (false, eval e X.env) :: starEach es X.env := by rfl) (hpl : (backTo cpos (starEach es X.env)).any (·.1) = false := by rfl) :
    PS X (.Raise (some (.Call (.Name x np) (e :: es) [] cpos)) none pos) (zec R ta) := by
  intro pins s σ H D I h;obtain ⟨bm, N, nm, q, bs, hdct, sn, sub, ab, col, dd, k0, k1, k2, k3, k5, mN, hC, hN, hni, T, _⟩ := c.obj I.ok.mod.kin
  refine wpAny_Raise_call_subU (C := C) (nm := nm) (q := q) (N := N) (bs := bs) (bm := bm) (hdct := hdct) (sn := sn) (sub := sub) (ab := ab) (col := col) (dd := dd) (k0 := k0) (k1 := k1) (k2 := k2) (k3 := k3) (k5 := k5)
    PySem.F.excBase_ValueError (by decide +kernel) PySem.F.excBase_ValueError (mN := mN) (T.hasType PySem.F.excBase_ValueError.hasBase) (I.ok.hd hc) (by rw [he]; show (false || (backTo cpos (starEach es X.env)).any (·.1)) = false; rw [hpl]; rfl) hni (nw I hg hm ⟨rfl, ?_⟩ hdb)
  have hrun := ha cpos pins s σ H _ I h;rw [he] at hrun ⊢;refine Calls.evalArgs_plain (wpAny_mono hrun (fun us s1 h1 => ?_) fun _ _ z => z);obtain ⟨vs, H1, I1, r1, hz, q1⟩ := h1;exact ⟨rfl, by rw [<- r1.length]; exact hz, I1.bk _ _ hC, hN.keeps I1.bk, T.keeps I1.bk, fun h' e hx => hr pins σ H1 s1 h' e us s1.toks I1 hx q1⟩
end
section
variable {X : Cx} {pins : List (Addr × Obj)} {σ : St} {H : Hp} {s : Shared}
theorem Inv.intry (I : Inv X pins σ H s) (J : St -> Value -> Hp -> Prop) : Inv (i8 X (X.pn ++ pins) J) [] σ H s :=
  ⟨⟨I.ok.mod, I.ok.kind, I.ok.glob, I.ok.blt, I.ok.above, I.ok.inj, I.ok.has, I.ok.cab, I.ok.hd, I.ok.frames, I.ok.stk, I.ok.exf, I.ok.bs, I.ok.bsz, I.ok.noex, I.ok.exfs, I.ok.funs, I.ok.frf⟩, I.os, I.bare, I.base, I.loc, I.cell, I.free, I.freeC, fun p hp => I.pin p (by simpa using hp), I.hok, I.len⟩
theorem Inv.outtry {pl : List (Addr × Obj)} {E : Value -> Shared -> Prop} (I : Inv { X with pn := X.pn ++ pins, xe := E } pl σ H s) : Inv X pins σ H s :=
  ⟨⟨I.ok.mod, I.ok.kind, I.ok.glob, I.ok.blt, I.ok.above, I.ok.inj, I.ok.has, I.ok.cab, I.ok.hd, I.ok.frames, I.ok.stk, I.ok.exf, I.ok.bs, I.ok.bsz, I.ok.noex, I.ok.exfs, I.ok.funs, I.ok.frf⟩, I.os, I.bare, I.base, I.loc, I.cell, I.free, I.freeC, fun p hp => I.pin p (Yi _ hp), I.hok, I.len⟩
theorem SP.outtry {J : St -> Value -> Hp -> Prop} {D : Ends} {f : Flow} {s' : Shared} (h : SP (i8 X (X.pn ++ pins) J) [] D f s') : SP X pins D f s' := by
  cases f with
  | next => obtain ⟨a, b, I, q⟩ := h; exact ⟨a, b, I.outtry, q⟩
  | brk => obtain ⟨a, b, I, q⟩ := h; exact ⟨a, b, I.outtry, q⟩
  | cont => obtain ⟨a, b, I, q⟩ := h; exact ⟨a, b, I.outtry, q⟩
  | ret u => obtain ⟨v, a, b, I, r, q⟩ := h; exact ⟨v, a, b, I.outtry, r, q⟩
theorem oq {M : Model} {A : Around} {E : Value -> Shared -> Prop} {i : Nat} {n : Str} {pos : Pos} {Q : Unit -> Shared -> Prop} (I : Inv X pins σ H s) (hN : X.N.Nodup) (hi : X.N[i]? = some n) (hx : X.env.scope.names.lookup n = some .local)
    (h : ∀ s', Inv X pins (σ.set i none) H s' -> Q () s') : wpAny M A (do bindName X.env n .none; unbindBehindTheSuite X.env n pos) Q E s := by
  refine wpAny_bind (wpAny_bindName (mz I hN hi (.inl hx) (v := .non) rfl (fun s1 I1 => ?_) (.inr hx)));obtain ⟨m, hn, hl⟩ := id I1.loc;have hiσ : i < σ.length := by rw [I.len]; exact (Zc.mp hi).1
  obtain ⟨u, ru, lk⟩ := hl i n .non hi (by rw [Yb hiσ]) (.inl hx)
  have hm : ∃ u, m n = some u := by
    rcases lk with ⟨_, e⟩ | ⟨k, _⟩
    . exact ⟨u, e⟩
    . exfalso
      have hk : X.env.kindOf n = some .local := hx
      rcases k with k | k <;> (rw [hk] at k; cases k)
  obtain ⟨u', hu'⟩ := hm;have hcls : (X.env.scope.kind == .class || (X.env.scope.kind == .module && X.env.locals != X.env.globals)) = false := by rw [I.ok.kind]; rfl
  unfold unbindBehindTheSuite;refine wpAny_onRaise (wpAny_unbindName_local hx hn hu' hcls fun h' u2 hn' sb => ?_);obtain ⟨oL, _, _, hoL, _⟩ := id hn;have J : Inv X pins (σ.set i (some .non)) H s1 := I1;refine h _ ⟨J.ok, J.os, J.bare, ⟨fun b o e z hb hx' => ?_, fun b o e z hb hx' => ?_, J.base.free, fun b o e hx' => ?_, J.base.tups, J.base.frzs, J.base.tbls⟩, ⟨_, hn', fun j y v' e1 e2 e3 => ?_⟩, fun y c e => ?_, J.free, J.freeC, fun p hp => ?_, fun b ob e => ?_, by simpa using I.len⟩
  . exact (sb.2 b (Zs (Zh (Heap.lt_size e) J.ok.above))).trans (J.base.keep b o e z hb hx')
  . obtain ⟨sl, e1⟩ := J.base.slot b o e z hb hx'
    exact ⟨sl, (sb.2 b (Zs (Zh (Heap.lt_size e) J.ok.above))).trans e1⟩
  . obtain ⟨o', e1⟩ := J.base.there b o e hx'
    exact ⟨o', (sb.2 b (Zs (Zh (Heap.lt_size e) J.ok.above))).trans e1⟩
  . by_cases hj : j = i
    . subst hj
      rw [Yb hiσ] at e2;cases e2
    . rw [Yj (Ne.symm hj)] at e2
      obtain ⟨w', r', q⟩ := hl j y v' e1 (by rw [Yj (Ne.symm hj)]; exact e2) e3;refine ⟨w', r', ?_⟩
      rcases q with ⟨k, e⟩ | ⟨k, c, e, z⟩
      . refine .inl ⟨k, ?_⟩
        have : y ≠ n := fun e => hj (j5 hN e1 (e ▸ hi))
        simp [this, e]
      . exact .inr ⟨k, c, e, z.sameBut sb (J.cne y c e)⟩
  . obtain ⟨w', z⟩ := J.cell y c e
    exact ⟨w', z.sameBut sb (J.cne y c e)⟩
  . obtain ⟨e, z, ne, nf, d⟩ := J.pin p hp
    exact ⟨(sb.2 p.1 ne).trans e, z, ne, nf, d⟩
  . refine (J.hok b ob e).stay (fun c w' hc q => (sb.2 c ?_).trans q) (fun _ q => q) fun _ _ q => q
    rintro rfl
    rcases hc with hc | hc
    . rw [<- hc, J.free] at e; cases e
    . rw [J.free] at hc; cases hc
def iu (i : Nat) (D : Ends) : Ends := { nx := fun σ H => D.nx (σ.set i none) H, rt := D.rt, bk := fun σ H => D.bk (σ.set i none) H, ct := fun σ H => D.ct (σ.set i none) H }
def zd9 (K : Fg) (D0 : Addr) (i : Nat) (tb : (St -> Value -> Hp -> Prop) -> List (Addr × Obj) -> TS) (ts : Value -> TS) : TS := fun D σ H => ∃ J : St -> Value -> Hp -> Prop, (∀ pn, tb J pn D σ H) /\
  ∀ σ1 c H1, J σ1 c H1 -> ∃ C, c = .ref C /\ Err K C /\ PySem.W.mroIn K C (.ref D0) = some true /\ ∀ e ea, H1 ea = none -> ts e (iu i D) (σ1.set i (some (.ref ea))) (upd H1 ea (ExcO ea C))
theorem zes {body : List Stmt} {b0 : Stmt} {suite : List Stmt} {x n : Str} {np hpos pos : Pos} {D0 : Addr} {i : Nat} {tb : (St -> Value -> Hp -> Prop) -> List (Addr × Obj) -> TS} {ts : Value -> TS} (cD : Err X.K D0) (hg : Gl X x) (hm : X.mg x = some (.ref D0)) (hN : X.N.Nodup) (hi : X.N[i]? = some n) (hx : X.env.scope.names.lookup n = some .local)
    (hb : ∀ J pn, PSs (i8 X pn J) body (tb J pn)) (hs : ∀ e, PSs (X.suite e) (b0 :: suite) (ts e)) (hst : X.stack = X.env :: X.outer := by rfl) (hf : X.env.frame = some X.env.locals := by rfl) (hex : X.ex = [] := by rfl) (hdb : (x == ("__debug__" : Str)) = false := by decide) :
    PS X (.Try body [.ExceptHandler (some (.Name x np)) (some n) (b0 :: suite) hpos] [] [] pos) (zd9 X.K D0 i tb ts) := by
  intro pins s σ H D I h;obtain ⟨J, hbody, hcatch⟩ := h;refine wpAny_Try_except (wpAny_mono (hb J (X.pn ++ pins) [] s σ H D (I.intry J) (hbody _)) (fun f s1 h1 => ?_) fun e s1 h1 => ?_)
  . have h2 := SP.outtry h1
    cases f with
    | next =>
      obtain ⟨a, b, I1, q⟩ := h2;exact wpAny_execs_nil ⟨a, b, I1, q⟩
    | brk => exact h2
    | cont => exact h2
    | ret u => exact h2
  . obtain ⟨pins', σ1, H1, s2, I2, hcx⟩ := h1
    have J2 : Inv X pins σ1 H1 s2 := I2.outtry;obtain ⟨ea, C, a0, B, H', e1, os, bare, un, hok, fl, hea, dom, dom2, hJ⟩ := hcx;subst e1;obtain ⟨C2, eC, cC, hsub, hsuite⟩ := hcatch σ1 _ H' hJ;obtain rfl : C = C2 := by injection eC
    have hfr0 : X.A.frames = some (X.env :: X.outer) := by rw [<- hst]; exact I.ok.frames
    have fl0 : Heap.FlyingW B (X.env :: X.outer) ea (.ref C) a0 s1.heap := by rw [<- hst]; exact fl
    have hfr : ∀ b ∈ frs X.stack, ∀ o, s1.heap.get? b = some o -> ∀ vs, o.data ≠ .fields vs := fun b hb o q => by
      obtain ⟨_, o', e', n'⟩ := fl.2.2.1.mem hb;rw [q] at e'; cases e';exact n'
    have old_ne : ∀ b o, s2.heap.get? b = some o -> b ≠ ea := fun b o q z => by
      by_cases hbf : b ∈ frs X.stack
      . obtain ⟨oe, vs, T, oT, ts', he, _, hd, _⟩ := fl.2.2.2
        rw [<- z] at he;exact hfr b hbf oe he vs hd
      . obtain ⟨ob, k1, _⟩ := dom2 b o q hbf
        rw [z, fl.2.1] at k1; cases k1
    refine wpAny_looks_onW hfr0 hf fl0 fun h4 held4 sm4 => ?_
    refine wpAny_landsW held4 fun h5 fl5 sm5 => ?_
    have at5 : ∀ {h6 : Heap} {sx : Shared}, sx.heap = h6 -> sx.os = s1.os -> sx.gens = s1.gens -> B.StaysIn h6 -> s1.heap.UpToSlots h6 -> Inv X pins σ1 H' sx := fun {h6 sx} e1 e2 e3 k1 k2 => by
      subst e1;exact J2.call' (ch := []) (e2.trans os) (cu un dom2 k1 k2 hfr) (HOk.flown hok fl.1 k1 dom) (by rw [e3]; exact bare) (fun b z => absurd z (by simp))
    have I5 : Inv X pins σ1 H' { s1 with heap := h5 } := at5 (sx := { s1 with heap := h5 }) rfl rfl rfl fl5.1 (sm4.trans sm5);obtain ⟨oe5, he5, hc5⟩ := fl5.there;refine wpAny_handleBy_cons (codeAny_handlers_test (nw (I5.suite (.ref ea)) hg hm ?_ hdb)) (by intro q; cases q);refine g9 I5.kIn cC cD he5 hc5 hsub ?_
    show codeAny _ _ _ _ _
    refine codeAny_handlers_suite_as ?_;refine lands_againW fl5 fun h6 fl6 sm6 => ?_
    have I6 : Inv X pins σ1 H' { s1 with heap := h6 } := at5 (sx := { s1 with heap := h6 }) rfl rfl rfl fl6.1 ((sm4.trans sm5).trans sm6)
    have I7 : Inv X pins σ1 (upd H' ea (ExcO ea C)) { s1 with heap := h6 } := by
      obtain ⟨oe, vs, T, oT, ts', he, ⟨hcl, _⟩, hd, _⟩ := fl6.2.2.2;refine I6.track he hea ?_ ?_ (fun y c q => ?_) (fun p hp => ?_) ?_
      . cases q : X.s₀.heap.get? ea with
        | none => rfl
        | some o =>
          obtain ⟨o', q'⟩ := J2.base.there ea o q (by rw [hex]; simp);exact absurd rfl (old_ne ea o' q')
      . obtain ⟨m, ⟨o, _, _, ho, _⟩, _⟩ := J2.loc
        exact Ne.symm (old_ne _ o ho)
      . obtain ⟨v, o, ho, _⟩ := J2.cell y c q
        exact old_ne c o ho
      . exact old_ne _ _ (J2.pin p hp).1
      . refine ⟨⟨oe, he, hcl, vs, hd⟩, ⟨oe, he⟩, fun h1 h2 k1 k2 => ?_⟩
        obtain ⟨o, z1, z2⟩ := k1;exact ⟨o, k2 o z1, z2⟩
    refine mz (X := X.suite (.ref ea)) (I7.suite (.ref ea)) hN hi (.inl hx) (v := .ref ea) rfl (fun s8 I8 => ?_) (.inr hx);refine wpAny_mono (hs (.ref ea) pins s8 _ _ (iu i D) I8 (hsuite _ ea hea)) (fun f s9 h9 => ?_) fun _ _ z => z.elim
    show wpAny _ _ _ _ _ _
    cases f with
    | next =>
      obtain ⟨σ9, H9, I9, q9⟩ := h9;exact oq (I9.unsuite I.ok.hd) hN hi hx fun s' I' => ⟨_, _, I', q9⟩
    | brk =>
      obtain ⟨σ9, H9, I9, q9⟩ := h9;exact oq (I9.unsuite I.ok.hd) hN hi hx fun s' I' => ⟨_, _, I', q9⟩
    | cont =>
      obtain ⟨σ9, H9, I9, q9⟩ := h9;exact oq (I9.unsuite I.ok.hd) hN hi hx fun s' I' => ⟨_, _, I', q9⟩
    | ret u =>
      obtain ⟨v9, σ9, H9, I9, r9, q9⟩ := h9;exact oq (I9.unsuite I.ok.hd) hN hi hx fun s' I' => ⟨_, _, _, I', r9, q9⟩
def tTry0 (K : Fg) (D0 : Addr) (tb : (St -> Value -> Hp -> Prop) -> List (Addr × Obj) -> TS) (ts : Value -> TS) : TS := fun D σ H => ∃ J : St -> Value -> Hp -> Prop, (∀ pn, tb J pn D σ H) /\
  ∀ σ1 c H1, J σ1 c H1 -> ∃ C, c = .ref C /\ Err K C /\ PySem.W.mroIn K C (.ref D0) = some true /\ ∀ e, ts e D σ1 H1
theorem suK {e : Value} : (X.suite e).K = X.K := rfl
theorem noxK : X.nox.K = X.K := rfl
theorem tryK {pn : List (Addr × Obj)} {J : St -> Value -> Hp -> Prop} : (i8 X pn J).K = X.K := rfl
theorem zg2 {K : Fg} {D0 : Addr} {i : Nat} {tb : (St -> Value -> Hp -> Prop) -> List (Addr × Obj) -> TS} {ts : Value -> TS} {D : Ends} : zd9 K D0 i tb ts D σ H = ∃ J : St -> Value -> Hp -> Prop, (∀ pn, tb J pn D σ H) /\
  ∀ σ1 c H1, J σ1 c H1 -> ∃ C, c = .ref C /\ Err K C /\ PySem.W.mroIn K C (.ref D0) = some true /\ ∀ e ea, H1 ea = none -> ts e (iu i D) (σ1.set i (some (.ref ea))) (upd H1 ea (ExcO ea C)) := rfl
theorem e_try0 {K : Fg} {D0 : Addr} {tb : (St -> Value -> Hp -> Prop) -> List (Addr × Obj) -> TS} {ts : Value -> TS} {D : Ends} : tTry0 K D0 tb ts D σ H = ∃ J : St -> Value -> Hp -> Prop, (∀ pn, tb J pn D σ H) /\
  ∀ σ1 c H1, J σ1 c H1 -> ∃ C, c = .ref C /\ Err K C /\ PySem.W.mroIn K C (.ref D0) = some true /\ ∀ e, ts e D σ1 H1 := rfl
end
end L2
namespace L2
open PySem PySem.Spec PyProof.Rows
structure ErrQ (K : Fg) (C : Addr) : Prop extends Err K C where
  ga : PySem.W.findIn K (.ref C) "__getattribute__" = some (some (.builtin "BaseException.__getattribute__"))
  gn : PySem.W.findIn K (.ref C) "__getattr__" = some none
  gc : PySem.W.findIn K (.ref C) "__class__" = some (some (.builtin "object.__class__"))
section
variable {prog : Program} {w : World} {A : Around} {E : Value -> Shared -> Prop} {h : Heap} {g : Array GenState} {d : Drawn} {t : Nat} {os : OsState} {a C : Addr} {o : Obj} {K : Fg}
theorem zcf {R : Result -> Shared -> Prop} (X : K.In h) (c : ErrQ K C) (hx : h.get? a = some o) (hc : o.cls = .ref C) (hq : R (.ok (.ret (.ref C))) ⟨h, g, d, t, os⟩) :
    codeAny (model prog w) A (.call (.builtin "getset_descriptor.__get__") ⟨[.builtin "object.__class__", .ref a, .ref C], []⟩) R ⟨h, g, d, t, os⟩ := by
  obtain ⟨bm, N, nm, q, bs, hdct, sn, sub, ab, col, dd, k0, k1, k2, k3, k5, mN, hC, hN, hni, T, _⟩ := c.obj X;have hT5 : (⟨h, g, d, t, os⟩ : Shared).TypeIs (.builtin "object.__class__") "getset_descriptor" := F.typeOf_object_class;have hcO : (Value.ref C :: bm).contains (.type (".".intercalate ("object.__class__".cutAt '.').dropLast)) = true := by rw [F.owner_object_class, YZ, T.hasType (X := "object") (b := true) (by decide +kernel), Bool.or_true]
  refine codeAny_call_builtin F.slot_gs_get.plain F.entry_gs_get (F.slot_gs_get.check _ _ _ _ _ _ _ _ hT5 (F.args_gs_get _ _ _) ?_)
  repeat (any_goals (first | assumption | (with_reducible refine wpAny_loadPart_at hx ?_; rw [hc]) | (with_reducible refine wpAny_isSubtype_exc hC ?_; rw [hcO]) | wp_step))
  refine ⟨Code.quiet_builtin _ (by decide +kernel), codeAny_builtin F.entry_object_class ?_⟩
  repeat (any_goals (first | assumption | (with_reducible refine wpAny_loadPart_at hx ?_; rw [hc]) | wp_step))
theorem zac {tk : Tok} {Q : Fin -> Shared -> Prop} (X : K.In h) (c : ErrQ K C) (hx : h.get? a = some o) (hc : o.cls = .ref C) (hq : Q (.done (.ret (.ref C))) ⟨h, g, d, t, os⟩) :
    wpAny (model prog w) A (Builtin.«object.__getattribute__» ⟨[.ref a, .str "__class__" tk], []⟩) Q E ⟨h, g, d, t, os⟩ := by
  have hT5 : (⟨h, g, d, t, os⟩ : Shared).TypeIs (.builtin "object.__class__") "getset_descriptor" := F.typeOf_object_class;have L1 := PySem.W.looks_findIn (M := model prog w) X c.gc;have f5 := F.typeOf_object_class;have f6 := F.slot_gs_get.lookup;have f7 := F.slot_gs_set.lookup
  repeat (any_goals (first | assumption | (with_reducible refine wpAny_loadPart_at hx ?_; rw [hc]) | with_reducible refine L1.at ?_ | wp_step))
  refine zcf X c hx hc ?_
  repeat (any_goals (first | assumption | wp_step))
theorem aq {M : Model} {nameV : Value} {Q : Unit -> Shared -> Prop} (X : K.In h) (c : ErrQ K C) (hx : h.get? a = some o) (hc : o.cls = .ref C) (hq : Q () ⟨h, g, d, t, os⟩) : wpAny M A (checkBuiltinCall "BaseException.__getattribute__" ⟨[.ref a, nameV], []⟩) Q E ⟨h, g, d, t, os⟩ := by
  obtain ⟨bm, N, nm, q, bs, hdct, sn, sub, ab, col, dd, k0, k1, k2, k3, k5, mN, hC, hN, hni, T, _⟩ := c.obj X;have hk : builtinKind "BaseException.__getattribute__" = some .slot := by decide +kernel
  have hsplit : splitId "BaseException.__getattribute__" = some ("BaseException", "__getattribute__") := by decide +kernel
  have hcB : (Value.ref C :: bm).contains (.type "BaseException") = true := by rw [YZ, T.hasType (X := "BaseException") (b := true) (by decide +kernel), Bool.or_true]
  have ha := F.args_bexc_ga (.ref a) nameV;simp only [checkBuiltinCall, hk, hsplit];refine wpAny_bind ?_;unfold isInstance
  repeat (first | (with_reducible refine wpAny_loadPart_at hx ?_; rw [hc]) | (with_reducible refine wpAny_isSubtype_exc hC ?_; rw [hcB]) | wp_step)
  exact hq
theorem zav {tk : Tok} {R : Result -> Shared -> Prop} (X : K.In h) (c : ErrQ K C) (hx : h.get? a = some o) (hc : o.cls = .ref C) (hq : R (.ok (.ret (.ref C))) ⟨h, g, d, t, os⟩) :
    codeAny (model prog w) A (.call (.builtin "BaseException.__getattribute__") ⟨[.ref a, .str "__class__" tk], []⟩) R ⟨h, g, d, t, os⟩ :=
  codeAny_call_builtin F.attrBase_ValueError.ga.plain F.entry_bexc_ga (aq X c hx hc (zac X c hx hc hq))
theorem zep {tk : Tok} {Q : Value -> Shared -> Prop} (X : K.In h) (c : ErrQ K C) (hx : h.get? a = some o) (hc : o.cls = .ref C) (hq : Q (.ref C) ⟨h, g, d, t, os⟩) : wpAny (model prog w) A (getAttrBy (.ref a) (.str "__class__" tk) false) Q E ⟨h, g, d, t, os⟩ := by
  have f3 := F.attrBase_ValueError.ga.bind (.ref a);have L1 := PySem.W.looks_findIn (M := model prog w) X c.ga;have L2' := PySem.W.looks_findIn (M := model prog w) X c.gn;have hx2 : (Value.builtin "BaseException.__getattribute__" == Value.builtin "object.__getattribute__") = false := by decide +kernel
  have hx1 : (onTheHeap (Value.ref C) && Value.builtin "BaseException.__getattribute__" == Value.builtin "object.__getattribute__") = false := by rw [hx2]; rfl
  repeat (any_goals (first | assumption | (with_reducible refine wpAny_loadPart_at hx ?_; rw [hc]) | with_reducible refine L1.at ?_ | with_reducible refine L2'.at ?_ | wp_step))
  refine zav X c hx hc ?_
  repeat (any_goals (first | assumption | wp_step))
theorem zau {Q : Option Value -> Shared -> Prop} (X : K.In h) (c : ErrQ K C) (hx : h.get? a = some o) (hc : o.cls = .ref C) (hq : Q (some (.ref C)) ⟨h, g, d, t + 1, os⟩) : wpAny (model prog w) A (getAttr? (.ref a) "__class__") Q E ⟨h, g, d, t, os⟩ := by
  unfold getAttr? getAttrBy?
  repeat (any_goals (first | assumption | with_reducible apply zep X c hx hc | wp_step))
end
def ExcAt (a C : Addr) (h : Heap) : Prop := ∃ o, h.get? a = some o /\ o.cls = .ref C
theorem jx {K : Fg} {a C : Addr} (c : ErrQ K C) : PySem.W.KitX K (.ref a) (.ref C) (ExcAt a C) where
  ty := fun M h X p => by
    obtain ⟨o, h1, h2⟩ := p;exact h2 ▸ (PySem.W.Looks.ld h1).andThen .now
  it := fun M h X p => by
    obtain ⟨bm, N, nm, q, bs, hdct, sn, sub, ab, col, dd, k0, k1, k2, k3, k5, mN, hC, hN, hni, T, _⟩ := c.obj X;intro A' Q' E' s' k q;unfold isType loadHead;exact wpAny_bind (wpAny_loadPart (k _ _ hC) (wpAny_pure q))
  ne := fun h tp dd its n sl X htp => by
    obtain ⟨bm, N, nm, q, bs, hdct, sn, sub, ab, col, dd, k0, k1, k2, k3, k5, mN, hC, hN, hni, T, _⟩ := c.obj X;refine Bool.eq_false_iff.mpr fun q => ?_
    have e : C = tp := Value.ref.inj (beq_iff_eq.mp q);subst e;rw [hC] at htp;have hcl := congrArg Obj.cls (Option.some.inj htp)
    revert hcl
    show Value.type "type" = Value.type "tuple" -> False
    intro hcl
    injection hcl with hcl
    exact absurd hcl (by decide)
  ca := fun {_ _ _ _ _ s} X p k => by
    obtain ⟨o, h1, h2⟩ := p;obtain ⟨h, g, d, t, os⟩ := s;exact zau X c h1 h2 k
section
variable {X : Cx} {pins : List (Addr × Obj)} {σ : St} {H : Hp} {s : Shared}
theorem Inv.exc {ea C : Addr} (I : Inv X pins σ H s) (h : H ea = some (ExcO ea C)) : ExcAt ea C s.heap := by
  have q : ObjOk X.prog X.w H s.heap ea (ExcO ea C) := I.hok ea _ h;obtain ⟨⟨o, h1, h2, _⟩, _⟩ := q;exact ⟨o, h1, h2⟩
theorem bf : CallR X (.builtin "isinstance") (fun xs H Q => ∃ ea C D b, xs = [.ref ea, .ref D] /\ H ea = some (ExcO ea C) /\ ErrQ X.K C /\ PySem.W.kitOne X.K (.ref C) (.ref D) = some b /\ Q (.bl b) H) := by
  intro pins s σ H xs us Q I r h;obtain ⟨ea, C, D, b, rfl, he, c, e, q⟩ := h;obtain ⟨u, v, rfl, rx, ry⟩ := Vals.two r;cases rx; cases ry;exact PySem.W.kia_one (jx c) I.kIn (I.exc he) e (fun z => nomatch z) fun tk => ⟨.bl b, H, I.tok _, rfl, q⟩
theorem cx : CallR X (.builtin "isinstance") (fun xs H Q => ∃ ea C T b, xs = [.ref ea, .ty T] /\ H ea = some (ExcO ea C) /\ ErrQ X.K C /\ PySem.W.kitOne X.K (.ref C) (.type T) = some b /\ Q (.bl b) H) := by
  intro pins s σ H xs us Q I r h;obtain ⟨ea, C, D, b, rfl, he, c, e, q⟩ := h;obtain ⟨u, v, rfl, rx, ry⟩ := Vals.two r;cases rx; cases ry;exact PySem.W.kia_one (jx c) I.kIn (I.exc he) e (fun z => nomatch z) fun tk => ⟨.bl b, H, I.tok _, rfl, q⟩
theorem e8 : ∀ {Ds : List Addr} {us : List Value}, Vals (Ds.map V.ref) us -> us = Ds.map Value.ref
  | [], _, .nil => rfl
  | D :: Ds, _, .cons r t => by
    rw [e8 t];cases r;rfl
theorem m8 : CallR X (.builtin "isinstance") (fun xs H Q => ∃ (ea C tp : Addr) (Ds : List Addr) (b : Bool), xs = [.ref ea, .ref tp] /\ H ea = some (ExcO ea C) /\ ErrQ X.K C /\ SqT X.K H tp (Ds.map V.ref) /\ PySem.W.kitAny X.K (.ref C) (Ds.map Value.ref) = some b /\ Q (.bl b) H) := by
  intro pins s σ H xs us Q I r h;obtain ⟨ea, C, tp, Ds, b, rfl, he, c, ht, e, q⟩ := h;obtain ⟨u, v, rfl, rx, ry⟩ := Vals.two r;cases rx; cases ry;obtain ⟨its, rv, ⟨o, ho, hc, n, hd⟩, hz⟩ := I.tuple ht;have ei := e8 rv;subst ei;obtain ⟨ocls, odict, odata, oslots⟩ := o;dsimp only at hc hd;subst hc hd;exact PySem.W.kia_tup (jx c) I.kIn (I.exc he) ho e (fun z => nomatch z) fun tk => ⟨.bl b, H, I.tok _, rfl, q⟩
end
theorem d7 : bootBuiltins "ValueError" = some (.type "ValueError") := by decide +kernel
theorem cy {K : Fg} {h : Heap} {mg : Str -> Option Value} (X : K.In h) (G : h.Ns mainGlobals mg) {name : Str} {C : Addr} (e : PySem.W.nsIn K mainGlobals name = some (some (.ref C))) (q : PySem.W.excIn K C VE "ValueError.__new__" = true)
    (g1 : PySem.W.findIn K (.ref C) "__getattribute__" = some (some (.builtin "BaseException.__getattribute__"))) (g2 : PySem.W.findIn K (.ref C) "__getattr__" = some none) (g3 : PySem.W.findIn K (.ref C) "__class__" = some (some (.builtin "object.__class__"))) :
    mg name = some (.ref C) /\ ErrQ K C := ⟨PySem.W.mg_of X G e, ⟨⟨q⟩, g1, g2, g3⟩⟩
theorem zgj {K : Fg} {C : Addr} : PySem.W.kitOne K (.ref C) (.ref C) = some true := by
  unfold PySem.W.kitOne;rw [if_pos (by simp)]
theorem u3 {K : Fg} {C D : Addr} {cd : ClassData} {b : Bool} (h0 : (Value.ref C == Value.ref D) = false) (h1 : PySem.W.clsIn K D = some cd) (h2 : PySem.W.typeIn K (.ref D) = some (.type "type")) (h3 : PySem.W.subIn K (.ref C) (.ref D) = some b) : PySem.W.kitOne K (.ref C) (.ref D) = some b := by
  unfold PySem.W.kitOne PySem.W.kitCls;rw [if_neg (by rw [h0]; simp)]
  show (if ((PySem.W.clsIn K D).isSome && PySem.W.typeIn K (.ref D) == some (.type "type")) = true then PySem.W.subIn K (.ref C) (.ref D) else none) = some b
  rw [h1, h2, if_pos (by simp)];exact h3
theorem zhj {K : Fg} {C : Addr} {b : Bool} (h3 : PySem.W.subIn K (.ref C) (.type "ValueError") = some b) : PySem.W.kitOne K (.ref C) (.type "ValueError") = some b := by
  unfold PySem.W.kitOne PySem.W.kitCls;rw [if_neg (by simp)]
  show (if PySem.W.kitMeta "ValueError" = true then PySem.W.subIn K (.ref C) (.type "ValueError") else none) = some b
  rw [if_pos (by decide +kernel)];exact h3
def zef (K : Fg) (C : Addr) : List Addr -> Prop
  | [] => True
  | D :: Ds => PySem.W.kitOne K (.ref C) (.ref D) = some false /\ zef K C Ds
theorem o7 {K : Fg} {C : Addr} : ∀ {Ds : List Addr}, zef K C Ds -> PySem.W.kitAny K (.ref C) (Ds.map Value.ref) = some false
  | [], _ => rfl
  | D :: Ds, h => by
    show PySem.W.kitAny K (.ref C) (Value.ref D :: Ds.map Value.ref) = some false
    unfold PySem.W.kitAny;rw [h.1];exact o7 h.2
theorem Same.seqT {K : Fg} {H H' : Hp} {a : Addr} {xs : List V} (e : Same H H') (h : SqT K H a xs) : SqT K H' a xs := by
  rcases h with (h | ⟨o, h⟩) | h
  . exact .inl (.inl (e _ _ h))
  . exact .inl (.inr ⟨o, e _ _ h⟩)
  . exact .inr h
end L2
namespace L2
open PySem PySem.Spec PyProof.Rows
inductive Tr where
  | lf (v : V) | ls (ts : List Tr) | tp (ts : List Tr)
mutual
def TrAt (K : Fg) (H : Hp) : Tr -> V -> Prop
  | .lf v, x => x = v /\ xh v = true
  | .ls ts, x => ∃ a xs, x = .ref a /\ SqL K H a xs /\ TrsAt K H ts xs
  | .tp ts, x => ∃ a xs, x = .ref a /\ SqT K H a xs /\ TrsAt K H ts xs
def TrsAt (K : Fg) (H : Hp) : List Tr -> List V -> Prop
  | [], xs => xs = []
  | t :: ts, xs => ∃ y ys, xs = y :: ys /\ TrAt K H t y /\ TrsAt K H ts ys
end
mutual
def eqTr : Tr -> Tr -> Bool
  | .lf v, .lf w => eqV v w
  | .ls ts, .ls us => zc2 ts us
  | .tp ts, .tp us => zc2 ts us
  | _, _ => false
def zc2 : List Tr -> List Tr -> Bool
  | [], [] => true
  | t :: ts, u :: us => eqTr t u && zc2 ts us
  | _, _ => false
end
mutual
def deep : Tr -> Nat
  | .lf _ => 0
  | .ls ts => il ts + 1
  | .tp ts => il ts + 1
def il : List Tr -> Nat
  | [] => 0
  | t :: ts => max (deep t) (il ts)
end
theorem TrsAt.len {K : Fg} {H : Hp} : ∀ {ts : List Tr} {xs : List V}, TrsAt K H ts xs -> ts.length = xs.length
  | [], xs, h => by rw [TrsAt] at h; rw [h]; rfl
  | t :: ts, xs, h => by
    rw [TrsAt] at h;obtain ⟨y, ys, rfl, _, h⟩ := h;simp [TrsAt.len h]
theorem TrsAt.get {K : Fg} {H : Hp} : ∀ {ts : List Tr} {xs : List V} {j : Nat} {x : V}, TrsAt K H ts xs -> xs[j]? = some x -> ∃ t, ts[j]? = some t /\ TrAt K H t x
  | [], xs, j, x, h, e => by rw [TrsAt] at h; subst h; simp at e
  | t :: ts, xs, 0, x, h, e => by
    rw [TrsAt] at h;obtain ⟨y, ys, rfl, h1, h⟩ := h;cases e;exact ⟨t, rfl, h1⟩
  | t :: ts, xs, j + 1, x, h, e => by
    rw [TrsAt] at h;obtain ⟨y, ys, rfl, h1, h⟩ := h;exact TrsAt.get (ts := ts) (j := j) h e
theorem TrsAt.of {K : Fg} {H : Hp} : ∀ {ts : List Tr} {xs : List V}, ts.length = xs.length -> (∀ (j : Nat) (t : Tr) (x : V), ts[j]? = some t -> xs[j]? = some x -> TrAt K H t x) -> TrsAt K H ts xs
  | [], [], _, _ => by rw [TrsAt]
  | t :: ts, x :: xs, hl, h => by
    rw [TrsAt];exact ⟨x, xs, rfl, h 0 t x rfl rfl, TrsAt.of (by simpa using hl) fun j t x e1 e2 => h (j + 1) t x e1 e2⟩
section
variable {X : Cx} {pins : List (Addr × Obj)} {σ : St} {H : Hp} {s : Shared}
end
section
variable {X : Cx}
def SameK : Tr -> Tr -> Prop
  | .ls _, .ls _ => True
  | .tp _, .tp _ => True
  | _, _ => False
theorem SameK.of {t t' : Tr} (h : SameK t t') : (∃ ts us, t = .ls ts /\ t' = .ls us) \/ ∃ ts us, t = .tp ts /\ t' = .tp us := by
  cases t <;> cases t' <;> first | exact .inl ⟨_, _, rfl, rfl⟩ | exact .inr ⟨_, _, rfl, rfl⟩ | exact h.elim
def rEqD (K : Fg) (n : Nat) (neg : Bool) (x y : V) (H : Hp) (Q : VK) : Prop := ∃ t t', SameK t t' /\ TrAt K H t x /\ TrAt K H t' y /\ deep t <= n /\ deep t' <= n /\ Q (.bl (neg ^^ eqTr t t')) H
end
section
variable {X : Cx} {pins : List (Addr × Obj)} {σ : St} {H : Hp} {s : Shared}
open Classical in
end
section
variable {X : Cx}
def inTr (t : Tr) (ts : List Tr) : Bool := ts.any fun u => eqTr u t
def rInD (K : Fg) (n : Nat) (neg : Bool) : R2 := fun x y H Q => ∃ p xs ts t, y = .ref p /\ (SqL K H p xs \/ SqT K H p xs) /\ TrsAt K H ts xs /\ TrAt K H t x /\ deep t <= n /\ il ts <= n /\ Q (.bl (neg ^^ inTr t ts)) H
end
mutual
theorem TrAt.mono {K : Fg} {H H' : Hp} (S : Same H H') : ∀ {t : Tr} {x : V}, TrAt K H t x -> TrAt K H' t x
  | .lf v, x, h => by rw [TrAt] at h ⊢; exact h
  | .ls ts, x, h => by
    rw [TrAt] at h ⊢;obtain ⟨a, xs, e, sq, h⟩ := h;exact ⟨a, xs, e, S.seq sq, TrsAt.mono S h⟩
  | .tp ts, x, h => by
    rw [TrAt] at h ⊢;obtain ⟨a, xs, e, sq, h⟩ := h;exact ⟨a, xs, e, Same.seqT S sq, TrsAt.mono S h⟩
theorem TrsAt.mono {K : Fg} {H H' : Hp} (S : Same H H') : ∀ {ts : List Tr} {xs : List V}, TrsAt K H ts xs -> TrsAt K H' ts xs
  | [], xs, h => by rw [TrsAt] at h ⊢; exact h
  | t :: ts, xs, h => by
    rw [TrsAt] at h ⊢;obtain ⟨y, ys, e, h1, h2⟩ := h;exact ⟨y, ys, e, TrAt.mono S h1, TrsAt.mono S h2⟩
end
theorem TrAt.lf {K : Fg} {H : Hp} {v : V} (f : xh v = true) : TrAt K H (.lf v) v := by rw [TrAt]; exact ⟨rfl, f⟩
theorem TrAt.ls {K : Fg} {H : Hp} {a : Addr} {xs : List V} {ts : List Tr} (h : SqL K H a xs) (q : TrsAt K H ts xs) : TrAt K H (.ls ts) (.ref a) := by rw [TrAt]; exact ⟨a, xs, rfl, h, q⟩
theorem TrAt.tp {K : Fg} {H : Hp} {a : Addr} {xs : List V} {ts : List Tr} (h : SqT K H a xs) (q : TrsAt K H ts xs) : TrAt K H (.tp ts) (.ref a) := by rw [TrAt]; exact ⟨a, xs, rfl, h, q⟩
theorem TrsAt.nil {K : Fg} {H : Hp} : TrsAt K H [] [] := by rw [TrsAt]
theorem TrsAt.cons {K : Fg} {H : Hp} {t : Tr} {ts : List Tr} {x : V} {xs : List V} (h : TrAt K H t x) (q : TrsAt K H ts xs) : TrsAt K H (t :: ts) (x :: xs) := by rw [TrsAt]; exact ⟨x, xs, rfl, h, q⟩
theorem TrsAt.flat {K : Fg} {H : Hp} : ∀ {xs : List V}, xs.all xh = true -> TrsAt K H (xs.map Tr.lf) xs
  | [], _ => TrsAt.nil
  | x :: xs, f => by
    rw [Xa, Bool.and_eq_true] at f;exact TrsAt.cons (TrAt.lf f.1) (TrsAt.flat f.2)
theorem TrsAt.append {K : Fg} {H : Hp} : ∀ {ts us : List Tr} {xs ys : List V}, TrsAt K H ts xs -> TrsAt K H us ys -> TrsAt K H (ts ++ us) (xs ++ ys)
  | [], us, xs, ys, h, q => by rw [TrsAt] at h; subst h; exact q
  | t :: ts, us, xs, ys, h, q => by
    rw [TrsAt] at h;obtain ⟨y, zs, rfl, h1, h2⟩ := h;exact TrsAt.cons h1 (TrsAt.append h2 q)
theorem e_eqD {K : Fg} {n : Nat} {neg : Bool} {x y : V} {H : Hp} {Q : VK} : rEqD K n neg x y H Q = ∃ t t', SameK t t' /\ TrAt K H t x /\ TrAt K H t' y /\ deep t <= n /\ deep t' <= n /\ Q (.bl (neg ^^ eqTr t t')) H := rfl
theorem e_inD {K : Fg} {n : Nat} {neg : Bool} {x y : V} {H : Hp} {Q : VK} : rInD K n neg x y H Q = ∃ p xs ts t, y = .ref p /\ (SqL K H p xs \/ SqT K H p xs) /\ TrsAt K H ts xs /\ TrAt K H t x /\ deep t <= n /\ il ts <= n /\ Q (.bl (neg ^^ inTr t ts)) H := rfl
end L2
namespace L2
open PySem PySem.Spec PyProof.Rows
def chr1 (c : Nat) : Str := ⟨#[c]⟩
def Itw (x : Str) : It := ⟨fun i _ => i < x.cps.size, fun i H v H' => H' = H /\ ∃ c, x.cps[i]? = some c /\ v = .str (chr1 c), fun i _ => x.cps.size <= i⟩
theorem zdq {P : Program} {w : World} {K : Fg} {tg : Expr} (it : Addr) (x : Str) (t : Tok) : Turn P w K tg (Itw x) [it] it (fun i h => h.IsStrIter it "str_ascii_iterator" x t i) where
  mem := by simp
  obj := fun i h st b hb => by
    have e : b = it := by simpa using hb
    subst e;obtain ⟨o, e, c, d⟩ := st;exact ⟨o, e, fun v z => by rw [d] at z; cases z⟩
  keep := fun i h h' st k => by
    obtain ⟨o, e, r⟩ := st;exact ⟨o, k it (by simp) o e, r⟩
  item := by
    intro X hP hw hK hc i pins s σ H E I hf st hg;subst hP hw hK;have hi : i < x.cps.size := hg;obtain ⟨f0, f1, f2, f3, f4, f5⟩ := hf it (by simp);refine wpAny_pyNext_ascii_item st (c := x.cps[i]) (by simp [hi]) fun h' st' sb => ?_
    have I1 : Inv X pins σ H { s with heap := h', toks := s.toks + 1 } := I.turned (t' := s.toks + 1) (fun b o hb e => (sb.2 b hb).trans e) f0 f1 f3 f4 f5;obtain ⟨o, e, c, d⟩ := id st';exact ⟨_, rfl, gq (s := { s with heap := h', toks := s.toks + 1 }) e c d (by decide) ⟨.str (chr1 x.cps[i]), H, I1, ⟨_, rfl⟩, ⟨rfl, _, by simp [hi], rfl⟩, st', fun b hb => (hf b hb).1⟩⟩
  done := by
    intro X hP hw hK hc i pins s σ H E I hf st hg;subst hP hw hK;have hi : x.cps.size <= i := hg;obtain ⟨f0, f1, f2, f3, f4, f5⟩ := hf it (by simp);exact wpAny_pyNext_ascii_end (I.ok.hd hc) st (by simp [hi]) fun h' eb => ⟨rfl, I.turned (t' := s.toks) (fun b o hb e => eb b o hb e) f0 f1 f3 f4 f5⟩
  self := fun _ _ _ _ _ st h => wpAny_pyIter_striter_ascii st h
theorem zea {P : Program} {w : World} {K : Fg} {tg : Expr} (it : Addr) (x : Str) (t : Tok) : Turn P w K tg (Itw x) [it] it (fun i h => h.IsStrIter it "str_iterator" x t i) where
  mem := by simp
  obj := fun i h st b hb => by
    have e : b = it := by simpa using hb
    subst e;obtain ⟨o, e, c, d⟩ := st;exact ⟨o, e, fun v z => by rw [d] at z; cases z⟩
  keep := fun i h h' st k => by
    obtain ⟨o, e, r⟩ := st;exact ⟨o, k it (by simp) o e, r⟩
  item := by
    intro X hP hw hK hc i pins s σ H E I hf st hg;subst hP hw hK;have hi : i < x.cps.size := hg;obtain ⟨f0, f1, f2, f3, f4, f5⟩ := hf it (by simp);refine wpAny_pyNext_wide_item st (c := x.cps[i]) (by simp [hi]) fun h' st' sb => ?_
    have I1 : Inv X pins σ H { s with heap := h', toks := s.toks + 1 } := I.turned (t' := s.toks + 1) (fun b o hb e => (sb.2 b hb).trans e) f0 f1 f3 f4 f5;obtain ⟨o, e, c, d⟩ := id st';exact ⟨_, rfl, gq (s := { s with heap := h', toks := s.toks + 1 }) e c d (by decide) ⟨.str (chr1 x.cps[i]), H, I1, ⟨_, rfl⟩, ⟨rfl, _, by simp [hi], rfl⟩, st', fun b hb => (hf b hb).1⟩⟩
  done := by
    intro X hP hw hK hc i pins s σ H E I hf st hg;subst hP hw hK;have hi : x.cps.size <= i := hg;obtain ⟨f0, f1, f2, f3, f4, f5⟩ := hf it (by simp);exact wpAny_pyNext_wide_end (I.ok.hd hc) st (by simp [hi]) fun h' eb => ⟨rfl, I.turned (t' := s.toks) (fun b o hb e => eb b o hb e) f0 f1 f3 f4 f5⟩
  self := fun _ _ _ _ _ st h => wpAny_pyIter_striter_wide st h
def iStr (a : TE) : TI := fun σ H R => a σ H fun x H1 => ∃ z, x = .str z /\ R (Itw z) H1
theorem pi_str {X : Cx} {tg l : Expr} {tl : TE} (hl : PE X l tl) : PI X tg l (iStr tl) := by
  intro pins s σ H R I h;refine thn (hl pins s σ H _ I h) fun v s1 ⟨x, H1, I1, r1, q1⟩ => ?_
  obtain ⟨z, e, q⟩ := q1;subst e;obtain ⟨t, rfl⟩ := r1;refine wpAny_pyIter_strU ?_
  have fin : ∀ {tn : Nat -> Heap -> Prop}, Turn X.prog X.w X.K tg (Itw z) [s1.heap.objs.size] s1.heap.objs.size tn -> tn 0 (s1.heap.push { cls := .type (strIterType z), data := .fields #[.str z t, .int 0 0] }) ->
      PIE X pins σ tg R (.ref s1.heap.objs.size) { s1 with heap := s1.heap.push { cls := .type (strIterType z), data := .fields #[.str z t, .int 0 0] } } := fun {tn} T h0 => by
    refine ⟨s1.heap.objs.size, [s1.heap.objs.size], _, _, H1, rfl, I1.kept (t' := s1.toks) fun b o e => Heap.get?_push_of_some _ e, T, h0, fun b hb => ?_, q⟩;have e : b = s1.heap.objs.size := by simpa using hb
    subst e;exact I1.fpOk (Zm _) (I1.hok.fresh (Zm _))
  cases ha : z.cps.all (· < 128) with
  | true =>
    have e : strIterType z = "str_ascii_iterator" := by simp [strIterType, ha]
    refine fin (zdq _ z t) ?_;exact ⟨_, Heap.get?_push_size _ rfl, by rw [e], rfl⟩
  | false =>
    have e : strIterType z = "str_iterator" := by simp [strIterType, ha]
    refine fin (zea _ z t) ?_;exact ⟨_, Heap.get?_push_size _ rfl, by rw [e], rfl⟩
theorem e_iStr {a : TE} {σ : St} {H : Hp} {R : It -> Hp -> Prop} : iStr a σ H R = a σ H fun x H1 => ∃ z, x = .str z /\ R (Itw z) H1 := rfl
def xl (z : Str) (n : Nat) : Str := ⟨(List.replicate n z.cps.toList).flatten.toArray⟩
theorem zd0 : ∀ (n : Nat) (a acc : Array Nat), (List.replicate n a).foldl (· ++ ·) acc = acc ++ (List.replicate n a.toList).flatten.toArray := by
  intro n
  induction n with
  | zero => intro a acc; simp
  | succ n ih =>
    intro a acc;rw [YT, Xi, ih, YT, List.flatten_cons]
    apply Array.ext'
    simp
theorem mul_is (z : Str) (n : Int) : Txt.mul z n = xl z n.toNat := by
  unfold Txt.mul xl
  by_cases h : n < 1
  . rw [if_pos h, show n.toNat = 0 by omega]; rfl
  . rw [if_neg h]
    by_cases h2 : (n == 1 || z.length == 0) = true
    . rw [if_pos h2]
      rcases Bool.or_eq_true _ _ ▸ h2 with q | q
      . have : n = 1 := by simpa using q
        subst this
        show z = _
        have : (1 : Int).toNat = 1 := rfl;rw [this];simp
      . have e : z.cps.size = 0 := by simpa [Str.length] using q
        have e2 : z.cps = #[] := Array.eq_empty_of_size_eq_zero e;obtain ⟨c⟩ := z;simp only at e2;subst e2;simp
    . rw [if_neg h2, zd0]
      simp
section
variable {X : Cx}
def rMulS : R2 := fun x y H Q => ∃ z n, x = .str z /\ y = .int n /\ -(2 ^ 62) <= n /\ n < 2 ^ 31 /\ z.length * n.toNat <= 2 ^ 20 /\ Q (.str (xl z n.toNat)) H
theorem fv : OpR X (binaryOp .Mult) rMulS := by
  intro pins s σ H x y v u Q I rx ry h;obtain ⟨z, n, rfl, rfl, h1, h2, h3, q⟩ := h;obtain ⟨t, rfl⟩ := rx;obtain ⟨t', rfl⟩ := ry;refine SB.mul ⟨?_, fun h4 h5 => ?_, fun h4 h5 => ?_⟩ fun tk k => ?_
  . rw [decide_eq_false (by omega), decide_eq_false (by omega)]; rfl
  . intro h6
    have h7 : (z.length : Int) * n <= 2 ^ 20 := by
      have : ((z.length * n.toNat : Nat) : Int) <= ((2 ^ 20 : Nat) : Int) := by exact_mod_cast h3
      rw [Xj, Yn (by omega)] at this;exact this
    have h8 : (2 ^ 63 - 1 : Int) / n * n <= z.length * n := Int.mul_le_mul_of_nonneg_right (by omega) (by omega);have h9 := Int.emod_add_mul_ediv (2 ^ 63 - 1 : Int) n;have h10 : (2 ^ 63 - 1 : Int) % n < n := ZU _ (by omega);rw [Int.mul_comm] at h8;omega
  . have : z.length * n.toNat <= sizeLine := Zd h3 (by decide)
    show decide (z.length * n.toNat > sizeLine) = false
    exact decide_eq_false (by omega)
  . rw [mul_is]
    exact ⟨.str (xl z n.toNat), H, I.tok _, ⟨_, rfl⟩, q⟩
theorem e_mulS {x y : V} {H : Hp} {Q : VK} : rMulS x y H Q = ∃ z n, x = .str z /\ y = .int n /\ -(2 ^ 62) <= n /\ n < 2 ^ 31 /\ z.length * n.toNat <= 2 ^ 20 /\ Q (.str (xl z n.toNat)) H := rfl
end
theorem hu9 {A : Around} {k : Nat} (hr : Room k A) : A.units + 1 + 8 <= cLine := by have := hr.un; omega
theorem e_ixS {x y : V} {H : Hp} {Q : VK} : rIxS x y H Q = ∃ z i c, x = .str z /\ y = .int i /\ z.length <= sizeLine /\ atI z.cps.toList i = some c /\ Q (.str ⟨#[c]⟩) H := rfl
theorem e_iT {K : Fg} {a : TE} {σ : St} {H : Hp} {R : It -> Hp -> Prop} : iTup K a σ H R = a σ H fun x H1 => ∃ p, x = .ref p /\ (∃ xs, SqT K H1 p xs) /\ R (Itt K p) H1 := rfl
section
variable {X : Cx}
def rJoin (K : Fg) : V -> List V -> Hp -> VK -> Prop := fun x vs H Q => ∃ sep b texts, x = .str sep /\ vs = [.ref b] /\ SqL K H b (texts.map V.str) /\ JoinOk sep texts = true /\ Q (.str (Txt.join sep texts)) H
theorem e_join {K : Fg} {x : V} {vs : List V} {H : Hp} {Q : VK} : rJoin K x vs H Q = ∃ sep b texts, x = .str sep /\ vs = [.ref b] /\ SqL K H b (texts.map V.str) /\ JoinOk sep texts = true /\ Q (.str (Txt.join sep texts)) H := rfl
end
section
variable {σ : St} {k : Nat} {g : TG} {tt : TT} {te : TE} {H1 : Hp} {Fin : List V -> Hp -> Prop}
theorem zf7 {K : Fg} {a : Addr} {xs : List V} (Pv : Nat -> List V -> Hp -> Prop) (h0 : Pv 0 [] H1) (hz : ∀ i ys H, i <= xs.length -> Pv i ys H -> ys.length <= sizeLine /\ SqT K H a xs)
    (hs : ∀ i x ys H, xs[i]? = some x -> Pv i ys H -> g x (List.replicate k none ++ σ) H fun σ2 H2 => σ2.drop k = σ /\ tt σ2 H2 fun b H3 => if b = true then te σ2 H3 fun v H4 => Pv (i + 1) (ys ++ [v]) H4 else Pv (i + 1) ys H3)
    (hd : ∀ ys H, Pv xs.length ys H -> Fin ys H) : rc (Itt K a) σ k g tt te H1 Fin := by
  refine ⟨fun i m ys H => m = xs.length - i /\ i <= xs.length /\ Pv i ys H, ⟨xs.length, by simp, ZE _, h0⟩, ?_⟩
  rintro i m ys H ⟨rfl, hi, p⟩
  have q := (hz i ys H hi p).2;refine ⟨(hz i ys H hi p).1, ?_⟩
  by_cases hlt : i < xs.length
  . refine .inr ⟨⟨xs, xs[i], q, by simp [hlt]⟩, Pv (i + 1), fun ys' H' p' => ⟨xs.length - (i + 1), by omega, rfl, hlt, p'⟩, fun x H' y => ?_⟩
    obtain ⟨e, y⟩ := y;subst e;exact hs i x ys _ (y xs q) p
  . have e : i = xs.length := by omega
    subst e;exact .inl ⟨⟨xs, q, Zm _⟩, hd ys H p⟩
end
theorem zw {e : Expr} {es : List Expr} {env : Env} (h : ∀ e' p, e ≠ .Starred e' p) : starEach (e :: es) env = (false, eval e env) :: starEach es env := by
  cases e <;> first | rfl | exact absurd rfl (h _ _)
def iSeq (K : Fg) (tl : TE) : TI := fun σ H R => tl σ H fun x H1 => ∃ a, x = .ref a /\ (((∃ xs, SqL K H1 a xs) /\ R (Itl K a) H1) \/ ((∃ xs, SqT K H1 a xs) /\ R (Itt K a) H1))
theorem e_iSeq {K : Fg} {tl : TE} {σ : St} {H : Hp} {R : It -> Hp -> Prop} : iSeq K tl σ H R = tl σ H fun x H1 => ∃ a, x = .ref a /\ (((∃ xs, SqL K H1 a xs) /\ R (Itl K a) H1) \/ ((∃ xs, SqT K H1 a xs) /\ R (Itt K a) H1)) := rfl
section
variable {X : Cx}
def rTupL (K : Fg) : List V -> Hp -> VK -> Prop := fun xs H Q => ∃ p ys, xs = [.ref p] /\ SqL K H p ys /\ ∀ l, H l = none -> Q (.ref l) (upd H l (.tup ys))
theorem xz : CallR X (.type "tuple") (rTupL X.K) := fun pins s σ H xs us Q I r h => by
  obtain ⟨p, ys, e, hq, q⟩ := h;exact d0 pins s σ H xs us Q I r ⟨p, ys, e, .inl ⟨hq, q⟩⟩
theorem e_tupL {K : Fg} {xs : List V} {H : Hp} {Q : VK} : rTupL K xs H Q = ∃ p ys, xs = [.ref p] /\ SqL K H p ys /\ ∀ l, H l = none -> Q (.ref l) (upd H l (.tup ys)) := rfl
end
theorem e_disp {trs : List (TE × TE)} {σ : St} {H : Hp} {Q : VK} : tDisp trs σ H Q = ∀ p, H p = none -> pw trs σ (upd H p (.dK [])) fun ps H2 => H2 p = some (.dK []) /\ ∃ kvs : List (Key × V), ps = kvs.map (fun kv => (kV kv.1, kv.2)) /\ kvs.length <= 15 /\ Q (.ref p) (upd H2 p (.dK (vv [] kvs))) := rfl
theorem zgt {σ : St} {H : Hp} {Q : List (V × V) -> Hp -> Prop} : pw [] σ H Q = Q [] H := rfl
theorem zg6 {tk tv : TE} {r : List (TE × TE)} {σ : St} {H : Hp} {Q : List (V × V) -> Hp -> Prop} : pw ((tk, tv) :: r) σ H Q = tk σ H fun x H1 => tv σ H1 fun y H2 => pw r σ H2 fun ps H3 => Q ((x, y) :: ps) H3 := rfl
end L2
namespace L2
open PySem PySem.Spec PyProof.Rows
section
variable {X : Cx}
def rMinL (K : Fg) (xs : List V) (H : Hp) (Q : VK) : Prop := ∃ (p : Addr) (ns : List Int), xs = [.ref p] /\ SqL K H p (ns.map V.int) /\ 0 < ns.length /\ ∀ m, m ∈ ns -> (∀ a ∈ ns, m <= a) -> Q (.int m) H
def rMaxL (K : Fg) (xs : List V) (H : Hp) (Q : VK) : Prop := ∃ (p : Addr) (ns : List Int), xs = [.ref p] /\ SqL K H p (ns.map V.int) /\ 0 < ns.length /\ ∀ m, m ∈ ns -> (∀ a ∈ ns, a <= m) -> Q (.int m) H
theorem e_minL {K : Fg} {xs : List V} {H : Hp} {Q : VK} : rMinL K xs H Q = ∃ (p : Addr) (ns : List Int), xs = [.ref p] /\ SqL K H p (ns.map V.int) /\ 0 < ns.length /\ ∀ m, m ∈ ns -> (∀ a ∈ ns, m <= a) -> Q (.int m) H := rfl
theorem e_maxL {K : Fg} {xs : List V} {H : Hp} {Q : VK} : rMaxL K xs H Q = ∃ (p : Addr) (ns : List Int), xs = [.ref p] /\ SqL K H p (ns.map V.int) /\ 0 < ns.length /\ ∀ m, m ∈ ns -> (∀ a ∈ ns, a <= m) -> Q (.int m) H := rfl
end
end L2
namespace L2
open PySem PySem.Spec PyProof.Rows
section
variable {prog : Program} {w : World} {A : Around} {E : Value -> Shared -> Prop} {s : Shared}
end
section
variable {X : Cx}
end
end L2
namespace L2
open PySem PySem.Spec PyProof.Rows
def seen (val : Nat -> Str) : Nat -> List Str
  | 0 => []
  | i + 1 => if val i ∈ seen val i then seen val i else seen val i ++ [val i]
theorem av (val : Nat -> Str) : ∀ i, (seen val i).length <= i
  | 0 => Zm _
  | i + 1 => by
    have := av val i;unfold seen
    split
    . omega
    . rw [Zo, YO]; omega
theorem zfy (val : Nat -> Str) (i : Nat) (k : Str) : (decide (k ∈ seen val i) || decide (k = val i)) = decide (k ∈ seen val (i + 1)) := by
  conv => rhs; unfold seen
  split
  . rename_i h
    by_cases e : k = val i
    . subst e; simp [h]
    . simp [e]
  . simp
theorem zc0 (val : Nat -> Str) (i : Nat) : (if decide (val i ∈ seen val i) = true then (seen val i).length else (seen val i).length + 1) = (seen val (i + 1)).length := by
  conv => rhs; unfold seen
  by_cases h : val i ∈ seen val i
  . simp [h]
  . simp [h]
section
variable {prog : Program} {w : World} {A : Around} {R : Result -> Shared -> Prop} {I : Addr} {fp wr : List Addr} {G : Array GenState -> Array GenState -> Prop} {n : Nat} {P : Nat -> Value -> Prop} {St : Nat -> Shared -> Prop}
theorem ak (W : WalksS prog w A.in1 I fp wr G n P St) (T : Addr) (hT : T ∉ fp) (val : Nat -> Str) (hval : ∀ i v, P i v -> ∃ t, v = .str (val i) t) (hb : n + 1 < scanBound) :
    ∀ (k i : Nat) (s : Shared), n - i = k -> i <= n -> St i s -> s.heap.SetOf (PySem.strKind prog w) T (fun k' => decide (k' ∈ seen val i)) (seen val i).length ->
      (∀ s', Moved (T :: wr) G s s' -> s'.heap.SetOf (PySem.strKind prog w) T (fun k' => decide (k' ∈ seen val n)) (seen val n).length -> R (.ok (.ret .none)) s') ->
      codeAny (model prog w) A (.builtin "set.update.loop" ⟨[.ref T, .ref I], []⟩) R s := by
  have hTw : T ∉ wr := fun h => hT (W.sub _ h)
  have sub : ∀ b ∈ wr, b ∈ T :: wr := fun b h => Zv _ h
  intro k
  induction k with
  | zero =>
    intro i s hk hi hst hS hR;obtain rfl : i = n := by omega
    refine codeAny_builtin PyProof.Rows.F.entry_set_update_loop ?_;rw [Around.under_plainId PyProof.Rows.F.plain_set_update_loop _]
    show wpAny _ A.in1 (pyNext (.ref I) >>= _) _ _ s
    refine wpAny_bind (W.done s _ _ hst fun s' hm => ?_);refine wpAny_pure (hR s' (hm.mono sub) ?_);obtain ⟨o, es, ep, t, ho, r⟩ := hS;exact ⟨o, es, ep, t, hm.heap T _ hTw ho, r⟩
  | succ k ih =>
    intro i s hk hi hst hS hR;have hlt : i < n := by omega
    refine codeAny_builtin PyProof.Rows.F.entry_set_update_loop ?_;rw [Around.under_plainId PyProof.Rows.F.plain_set_update_loop _]
    show wpAny _ A.in1 (pyNext (.ref I) >>= _) _ _ s
    refine wpAny_bind (W.item i s _ _ hlt hst fun v s' hP hst' hm => ?_);obtain ⟨t, rfl⟩ := hval i v hP
    have hS' : s'.heap.SetOf (PySem.strKind prog w) T (fun k' => decide (k' ∈ seen val i)) (seen val i).length := by
      obtain ⟨o, es, ep, tb, ho, r⟩ := hS;exact ⟨o, es, ep, tb, hm.heap T _ hTw ho, r⟩
    show wpAny _ A.in1 (holding [Value.str (val i) t] (setAdd T (.str (val i) t)) >>= _) _ _ s'
    refine wpAny_bind (wpAny_holding ?_);unfold setAdd;refine wpAny_holding (wpAny_bind ((PySem.strKind prog w).pyHash (k := val i) (strKind_is _ _ _ _) ?_));have room : (seen val i).length + 1 < scanBound := by have := av val i; omega
    refine wpAny_setAddHashed_of (knd := PySem.strKind prog w) (s := { s' with toks := s'.toks + 1 }) (strKind_is _ _ _ _) rfl hS' room fun h' hsb hS2 => ?_
    have hSi : h'.SetOf (PySem.strKind prog w) T (fun k' => decide (k' ∈ seen val (i + 1))) (seen val (i + 1)).length := by
      have e1 := zc0 val i;have e2 : (fun k' => decide (k' ∈ seen val (i + 1))) = fun k' => (decide (k' ∈ seen val i) || decide (k' = val i)) := funext fun k' => (zfy val i k').symm
      rw [<- e1, e2];exact hS2
    refine wpAny_pure ⟨plainId_quiet PyProof.Rows.F.plain_set_update_loop _, ih (i + 1) _ (by omega) hlt (W.frame _ s' _ _ hst' (YW _) fun b hb o e => ?_) hSi fun s2 hm2 hS2' => ?_⟩
    . rw [hsb.2 b (fun z : b = T => hT (z ▸ hb))]; exact e
    . refine hR s2 (Moved.trans W.gtrans ((hm.mono sub).then_heap (YW _) fun b o hb e => ?_) hm2) hS2'
      rw [hsb.2 b (fun z : b = T => hb (z ▸ ZA))]; exact e
end
abbrev setO (led : Bool) : Obj := { cls := .type "set", dict := none, data := .set #[] 0 (.fresh 0 0 led) }
section
variable {prog : Program} {w : World} {A : Around} {E : Value -> Shared -> Prop} {s : Shared}
def za6 (prog : Program) (w : World) (s : Shared) (val : Nat -> Str) (n : Nat) (h' : Heap) : Prop :=
  h'.SetOf (PySem.strKind prog w) s.heap.objs.size (fun k' => decide (k' ∈ seen val n)) (seen val n).length /\ ∀ b o, b < s.heap.objs.size -> s.heap.get? b = some o -> h'.get? b = some o
set_option maxHeartbeats 3200000 in
theorem cb {l : Addr} {items : Array Value} {val : Nat -> Str} {Q : Value -> Shared -> Prop} (hh : A.handled = none) (hl : s.heap.IsList l items) (hv : ∀ (i : Nat) v, items[i]? = some v -> ∃ t, v = .str (val i) t) (hb : items.size + 1 < scanBound)
    (h : ∀ (h' : Heap) (tk : Nat), za6 prog w s val items.size h' -> Q (.ref s.heap.objs.size) { s with heap := h', toks := tk }) : wpAny (model prog w) A (call (.type "set") [.ref l]) Q E s := by
  obtain ⟨c, tl, hmro⟩ := F.called_set.mro;have hmade := F.called_set.made;have hsub := F.called_set.sub;refine wpAny_call (codeAny_of_tree ?_)
  show wpAny _ _ (callAny (.type "set") _) _ _ _
  refine wpAny_pure ⟨Code.quiet_builtin _ (by decide +kernel), codeAny_builtin F.entry_type_call ?_⟩;rw [Around.under_plain (weight_type_call_type "set" [.ref l] []) rfl];have h1 := F.called_set.notType;have h2 := F.called_set.canCreate;have hct := F.typeCall_set_1 (.ref l)
  repeat (any_goals (first | assumption | wp_step))
  refine codeAny_mono (code_set_new_1 (.ref l) (E := E) (Q₁ := fun obj s₁ => ∃ led : Bool, obj = .ref s.heap.objs.size /\ s₁ = { s with heap := s.heap.push (setO led) }) fun led => ⟨led, rfl, rfl⟩) fun r s₁ hr => ?_
  match r, hr with
  | .error e, hr => exact hr
  | .ok .next, hr => exact hr.elim
  | .ok .brk, hr => exact hr.elim
  | .ok .cont, hr => exact hr.elim
  | .ok (.ret obj), hr =>
    obtain ⟨led, rfl, rfl⟩ := hr;have hS : (s.heap.push (setO led)).get? s.heap.objs.size = some (setO led) := Heap.get?_push_size _ rfl;have hT : Shared.TypeIs { s with heap := s.heap.push (setO led) } (.ref s.heap.objs.size) "set" := ⟨_, hS, rfl⟩;have hli := F.called_set.init.lookup;have hbi := F.called_set.init.bind (.ref s.heap.objs.size)
    repeat (any_goals (first | assumption | wp_step))
    refine codeAny_mono (codeAny_call_builtin (R := wants (fun r s₂ => r = .none /\ ∃ h' tk, s₂ = { s with heap := h', toks := tk } /\ za6 prog w s val items.size h') E) F.called_set.init.plain F.entry_set_init (check_set_init_1 hT ?_)) fun r₂ s₂ hr₂ => ?_
    . obtain ⟨ol, hol, hcl, nl, hdl⟩ := id hl
      have hl1 : (s.heap.push (setO led)).IsList l items := hl.push _;obtain ⟨ocls, odict, odata, oslots⟩ := ol;simp only at hcl hdl;subst hcl; subst hdl;have hol' : (s.heap.push (setO led)).get? l = some { cls := .type "list", dict := odict, data := .seq items nl, slots := oslots } := Heap.get?_push_of_some _ hol;have hsls := F.sub_list_set;have hslf := F.sub_list_frozenset;have hne : (Value.type "list" == Value.type "dict") = false := by decide
      unfold Builtin.«set.__init__» noKeywords Builtin.Frozenset.updateFrom;generalize hPI : pyIter = PI
      wp_walk
      subst hPI;refine wpAny_pyIter_list hl1 ?_;refine wpAny_bind (wpAny_runValue ?_);have hlS : l < s.heap.objs.size := Heap.lt_size hol;have hsz : (s.heap.push (setO led)).objs.size = s.heap.objs.size + 1 := size_push' ..;have hneI : l ≠ (s.heap.push (setO led)).objs.size := by rw [hsz]; exact Zs (YH hlS)
      have hSf : s.heap.objs.size ∉ [(s.heap.push (setO led)).objs.size, l] := by
        rw [hsz];simp only [ZK, Zx, or_false, not_or];exact ⟨Zs (Yt _), Yl hlS⟩
      refine ak ((Walks.list (by simp [hh]) _ l hneI items).toS) s.heap.objs.size hSf val hv hb (items.size - 0) 0 _ (by omega) (ZE _) ⟨⟨_, Heap.get?_push_size _ rfl, rfl, rfl⟩, hl1.push _⟩ ?_ ?_
      . have hget : ((s.heap.push (setO led)).push { cls := .type "list_iterator", data := .fields #[.ref l, .int 0 0] }).get? s.heap.objs.size = some (setO led) := Heap.get?_push_of_some _ hS
        exact (PyProof.Rows.setObjOf_fresh (knd := PySem.strKind prog w) led).setOf hget (by unfold scanBound; omega)
      . intro s' hm hS'
        rw [Moved.eq_with hm];refine wpAny_pure ?_;refine wpAny_pure ⟨rfl, s'.heap, s'.toks, rfl, hS', fun b o hb e => hm.heap b o ?_ (Heap.get?_push_of_some _ (Heap.get?_push_of_some _ e))⟩;rw [hsz];simp only [ZK, Zx, or_false, not_or];exact ⟨Zs hb, Zs (YH hb)⟩
    . match r₂, hr₂ with
      | .error e, hr₂ => exact hr₂
      | .ok .next, hr₂ => exact hr₂.elim
      | .ok .brk, hr₂ => exact hr₂.elim
      | .ok .cont, hr₂ => exact hr₂.elim
      | .ok (.ret r), hr₂ =>
        obtain ⟨rfl, h', tk, rfl, hd⟩ := hr₂
        repeat (any_goals (first | assumption | wp_step))
        exact h _ _ hd
end
end L2
namespace L2
open PySem PySem.Spec PyProof.Rows
theorem zfv {zs : List Str} {us : List Value} (r : Vals (zs.map V.str) us) (i : Nat) (v : Value) (h : us[i]? = some v) : ∃ t, v = .str (zs.getD i ⟨#[]⟩) t := by
  have hl := r.length;rw [Za] at hl;have hi : i < zs.length := by rw [hl]; exact (Zc.mp h).1
  obtain ⟨u, hu, ru⟩ := r.get (i := i) (x := V.str zs[i]) (by simp [hi]);rw [h] at hu;cases hu;obtain ⟨t, rfl⟩ := ru;exact ⟨t, by simp [Zk, hi]⟩
section
variable {X : Cx}
def zba (K : Fg) (t : TA) : TE := fun σ H Q => t σ H fun vs H1 => ∃ (p : Addr) (zs : List Str), vs = [.ref p] /\ SqL K H1 p (zs.map V.str) /\ zs.length <= 1000 /\ Q (.int (seen (fun i => zs.getD i ⟨#[]⟩) zs.length).length) H1
theorem zfx {K : Fg} {t : TA} {σ : St} {H : Hp} {Q : VK} : zba K t σ H Q = t σ H fun vs H1 => ∃ (p : Addr) (zs : List Str), vs = [.ref p] /\ SqL K H1 p (zs.map V.str) /\ zs.length <= 1000 /\ Q (.int (seen (fun i => zs.getD i ⟨#[]⟩) zs.length).length) H1 := rfl
theorem ze3 {e : Expr} {t : TA} {p1 p2 q1 q2 : Pos} (hc : X.calm = true) (hgL : Gl X "len") (hmL : X.mg "len" = none) (hgR : Gl X "set") (hmR : X.mg "set" = none) (ha : PA X [e] t)
    (he : starEach [e] X.env = (false, eval e X.env) :: starEach [] X.env := by rfl) (he2 : starEach [.Call (.Name "set" p2) [e] [] q2] X.env = (false, eval (.Call (.Name "set" p2) [e] [] q2) X.env) :: starEach [] X.env := by rfl) :
    PE X (.Call (.Name "len" p1) [.Call (.Name "set" p2) [e] [] q2] [] q1) (zba X.K t) := by
  intro pins s σ H Q I h;refine wpAny_Call_Name_kw (r6 I hgL hmL yp ?_);refine PyProof.Rows.callWith_builtin1 ?_ he2 rfl;rw [he2]
  show wpAny _ _ (spliced ((false, eval (.Call (.Name "set" p2) [e] [] q2) X.env) :: backTo q1 (starEach [] X.env))) _ _ s
  refine Calls.spliced_cons ?_;refine wpAny_Call_Name_kw (r6 I hgR hmR bt_set ?_);refine PyProof.Rows.callWith_type1 (thn (ha q2 pins s σ H _ I h) fun us s1 ⟨vs, H1, I1, r1, q⟩ => ?_) he rfl;obtain ⟨p, zs, rfl, hq, hz, q⟩ := q;obtain ⟨u, rfl, rx⟩ := Vals.one r1;cases rx;obtain ⟨its, rv, pl, _⟩ := I1.list hq;have hlen : its.length = zs.length := by have := rv.length; rw [Za] at this; exact this.symm
  refine cb (val := fun i => zs.getD i ⟨#[]⟩) (I1.ok.hd hc) pl.isList (fun i v hv => zfv rv i v (by simpa using hv)) (by rw [Zr, hlen]; exact ZR (Xe hz) (by decide)) fun h' tk hd => ?_
  refine Calls.spliced_nil ?_;obtain ⟨hS, kp⟩ := hd;rw [show its.toArray.size = zs.length by rw [Zr, hlen]] at hS;have I2 : Inv X pins σ H1 { s1 with heap := h', toks := tk } := I1.kept fun b o e => kp b o (Heap.lt_size e) e
  obtain ⟨o, es, ep, t, ho, ex, hd, _, _, hz2, hf, hn⟩ := hS;have h3 : ((es.size : Nat) : Int) < 2 ^ 63 := by unfold scanBound at hz2; omega
  refine call_len_set ho ex hd hf h3 ⟨.int es.size, H1, I2.tok _, ⟨_, rfl⟩, ?_⟩;rw [hn];exact q
def rLeS (x y : V) (H : Hp) (Q : VK) : Prop := ∃ i j, x = .str i /\ y = .str j /\ Q (.bl (!decide (j.cps.toList < i.cps.toList))) H
theorem e_leS {x y : V} {H : Hp} {Q : VK} : rLeS x y H Q = ∃ i j, x = .str i /\ y = .str j /\ Q (.bl (!decide (j.cps.toList < i.cps.toList))) H := rfl
theorem zeh : OpR X (compareOp .LtE) rLeS := by
  intro pins s σ H x y v u Q I rx ry h;obtain ⟨i, j, rfl, rfl, q⟩ := h;obtain ⟨t, rfl⟩ := rx;obtain ⟨t', rfl⟩ := ry;exact PySem.P.le_str (yj I q rfl)
end
section
variable {σ : St} {k : Nat} {g : TG} {tt : TT} {te : TE} {H1 : Hp} {Fin : List V -> Hp -> Prop}
theorem zfn {z : Str} (Pv : Nat -> List V -> Hp -> Prop) (h0 : Pv 0 [] H1) (hz : ∀ i ys H, i <= z.cps.size -> Pv i ys H -> ys.length <= sizeLine)
    (hs : ∀ i c ys H, z.cps[i]? = some c -> Pv i ys H -> g (.str (chr1 c)) (List.replicate k none ++ σ) H fun σ2 H2 => σ2.drop k = σ /\ tt σ2 H2 fun b H3 => if b = true then te σ2 H3 fun v H4 => Pv (i + 1) (ys ++ [v]) H4 else Pv (i + 1) ys H3)
    (hd : ∀ ys H, Pv z.cps.size ys H -> Fin ys H) : rc (Itw z) σ k g tt te H1 Fin := by
  refine ⟨fun i m ys H => m = z.cps.size - i /\ i <= z.cps.size /\ Pv i ys H, ⟨z.cps.size, by simp, ZE _, h0⟩, ?_⟩
  rintro i m ys H ⟨rfl, hi, p⟩
  refine ⟨hz i ys H hi p, ?_⟩
  by_cases hlt : i < z.cps.size
  . refine .inr ⟨hlt, Pv (i + 1), fun ys' H' p' => ⟨z.cps.size - (i + 1), by omega, rfl, hlt, p'⟩, fun x H' y => ?_⟩
    obtain ⟨e, c, e2, y⟩ := y;subst e y;exact hs i c ys _ e2 p
  . have e : i = z.cps.size := by omega
    subst e;exact .inl ⟨Zm _, hd ys H p⟩
end
def intE : Expr -> Option Int
  | .Constant (.int i) _ _ => some i
  | _ => none
def cf : List Expr -> Option (List Int)
  | [] => some []
  | e :: es => (intE e).bind fun i => (cf es).map fun is => i :: is
def jd : List Int -> List V
  | [] => []
  | i :: is => .int i :: jd is
theorem e_vI0 : jd [] = [] := rfl
theorem e_vI {i : Int} {is : List Int} : jd (i :: is) = .int i :: jd is := rfl
def tInts (ns : List Int) : TA := fun _ H Q => Q (jd ns) H
theorem e_ints {ns : List Int} {σ : St} {H : Hp} {Q : List V -> Hp -> Prop} : tInts ns σ H Q = Q (jd ns) H := rfl
theorem zbv {X : Cx} : ∀ {es : List Expr} {ns : List Int}, cf es = some ns -> PA X es (tInts ns)
  | [], ns, h => by
    cases h;exact zb
  | e :: es, ns, h => by
    unfold cf at h
    cases e with
    | Constant c j p =>
      cases c with
      | int i =>
        cases e2 : cf es with
        | none => rw [e2] at h; cases h
        | some is =>
          rw [e2] at h;cases h;exact za zc (zbv e2)
      | _ => cases h
    | _ => cases h
end L2
namespace L2
open PySem PySem.Spec PyProof.Rows
section
variable {X : Cx}
def rIsB (x y : V) (H : Hp) (Q : VK) : Prop := ∃ b c, x = .bl b /\ y = .bl c /\ Q (.bl (b == c)) H
theorem e_isB {x y : V} {H : Hp} {Q : VK} : rIsB x y H Q = ∃ b c, x = .bl b /\ y = .bl c /\ Q (.bl (b == c)) H := rfl
end
end L2
namespace L2
open PySem PySem.Spec PyProof.Rows
theorem zbf {α : Type} {l : List α} {k : Nat} {x : α} (h : l[k]? = some x) : l.drop k = x :: l.drop (k + 1) := by
  obtain ⟨hk, e⟩ := Zc.mp h;rw [List.drop_eq_getElem_cons hk, e]
theorem y3 {X : Cx} {body : List Stmt} {k : Nat} {st : Stmt} {t ts : TS} (hs : PS X st t) (h : body[k]? = some st) (hr : PSs X (body.drop (k + 1)) ts) : PSs X (body.drop k) (tSeq t ts) := by
  rw [zbf h];exact zk hs hr
theorem zbt {X : Cx} {body : List Stmt} {k : Nat} {st : Stmt} {t : TS} (hs : PS X st t) (h : body[k]? = some st) (hl : body[k + 1]? = none) : PSs X (body.drop k) t := by
  rw [zbf h, List.drop_eq_nil_of_le (List.getElem?_eq_none_iff.mp hl)];exact zi hs
theorem zbe {X : Cx} {body : List Stmt} {t : TS} (h : PSs X (body.drop 0) t) : PSs X body t := h
end L2
namespace L2
open PySem PySem.Spec PyProof.Rows
section
variable {prog : Program} {w : World} {A : Around} {E : Value -> Shared -> Prop} {s : Shared}
theorem zgk {t b : Addr} {vs ws : List Value} {Q : Value -> Shared -> Prop} (ht : IsTup s.heap t vs.toArray) (hb : IsTup s.heap b ws.toArray) (hv : vs = []) (h0 : Q (.ref b) s) :
    wpAny (model prog w) A (binaryOp .Add (.ref t) (.ref b)) Q E s := by
  obtain ⟨⟨cls, dd, data, sl⟩, ho, hc, n, hd⟩ := id ht;obtain ⟨⟨cls2, dd2, data2, sl2⟩, ho2, hc2, n2, hd2⟩ := id hb;simp only at hc hd hc2 hd2;subst hc hd hc2 hd2
  exact concat_meets ⟨_, ho, rfl⟩ ⟨_, ho2, rfl⟩ noFill_tuple_add seq_tuple_add PySem.F.slot_tuple_add PySem.F.entry_tuple_add (PySem.F.args_tuple_add_2 _ _)
    (tuple_addW0 t b vs.toArray ws.toArray n n2 dd dd2 sl sl2 (by simp [hv])) ⟨ho, ho2, h0⟩
end
theorem zfp {H : Hp} {a : Addr} {o : HO} (n : H a = none) : Same H (upd H a o) := fun b u e => by
  rw [zn (fun z => by rw [z, n] at e; cases e)]; exact e
section
variable {X : Cx}
def rCatH : R2 := fun x y H Q => ∃ a b xs ys, x = .ref a /\ y = .ref b /\ H a = some (.tup xs) /\ H b = some (.tup ys) /\ xs.length + ys.length <= sizeLine /\ ∀ H' p, Same H H' -> H' p = some (.tup (xs ++ ys)) -> Q (.ref p) H'
theorem e_catH {x y : V} {H : Hp} {Q : VK} : rCatH x y H Q = ∃ a b xs ys, x = .ref a /\ y = .ref b /\ H a = some (.tup xs) /\ H b = some (.tup ys) /\ xs.length + ys.length <= sizeLine /\ ∀ H' p, Same H H' -> H' p = some (.tup (xs ++ ys)) -> Q (.ref p) H' := rfl
theorem ny : OpR X (binaryOp .Add) rCatH := by
  intro pins s σ H x y v u Q I rx ry h;obtain ⟨a, b, xs, ys, rfl, rfl, ha, hb, hz, q⟩ := h
  by_cases e1 : xs = []
  . subst e1
    cases rx;cases ry;obtain ⟨its, r1, p1, _⟩ := I.tuple (SqT.of ha);obtain ⟨its2, r2, p2, _⟩ := I.tuple (SqT.of hb);exact zgk p1 p2 (r1.nil_iff.mpr rfl) ⟨.ref b, H, I, rfl, q H b (Same.refl _) hb⟩
  . refine zhq pins s σ H (.ref a) (.ref b) v u Q I rx ry ⟨a, b, xs, ys, rfl, rfl, .of ha, .of hb, e1, hz, fun e2 => ?_, fun e2 p hp => ?_⟩
    . subst e2
      exact q H a (Same.refl _) (by rw [ha, Ye])
    . exact q _ p (zfp hp) zd
theorem zfw {x : V} {vs : List V} {H : Hp} {Q : VK} : zbq x vs H Q = ∃ l b xs zs, x = .ref l /\ vs = [.ref b] /\ H l = some (.lst xs) /\ H b = some (.lst zs) /\ xs.length + zs.length <= sizeLine /\ Q .non (upd H l (.lst (xs ++ zs))) := rfl
end
section
open HT
variable {prog : Program} {w : World} {A : Around} {E : Value -> Shared -> Prop} {s : Shared}
end
section
variable {X : Cx}
def rSlH : V -> Option Int -> Option Int -> Hp -> VK -> Prop := fun x lo hi H Q => ∃ a xs, x = .ref a /\ H a = some (.tup xs) /\ ∀ H' p, Same H H' -> H' p = some (.tup (cutV xs lo hi)) -> Q (.ref p) H'
theorem e_slH {x : V} {lo hi : Option Int} {H : Hp} {Q : VK} : rSlH x lo hi H Q = ∃ a xs, x = .ref a /\ H a = some (.tup xs) /\ ∀ H' p, Same H H' -> H' p = some (.tup (cutV xs lo hi)) -> Q (.ref p) H' := rfl
theorem e_slT {K : Fg} {x : V} {lo hi : Option Int} {H : Hp} {Q : VK} : rSlT K x lo hi H Q = ∃ a xs, x = .ref a /\ SqT K H a xs /\ ¬ (HT.sIx xs.length 0 lo = 0 /\ HT.sIx xs.length xs.length hi = xs.length) /\ ∀ p, H p = none -> Q (.ref p) (upd H p (.tup (cutV xs lo hi))) := rfl
theorem fj {xs : List V} {k : Nat} (h : k <= xs.length) : cutV xs none (some (k : Int)) = xs.take k := by
  unfold cutV;rw [HT.sIx_none, HT.sIx_nat];simp [Nat.min_eq_left h]
theorem lm {xs : List V} {k : Nat} (h : k <= xs.length) : cutV xs (some (k : Int)) none = xs.drop k := by
  unfold cutV;rw [HT.sIx_none, HT.sIx_nat, Nat.min_eq_left h];exact ZG (by rw [ZT]; omega)
end
end L2
namespace L2
open PySem PySem.Spec PyProof.Rows
section
variable {σ : St} {k : Nat} {g : TG} {tt : TT} {te : TE} {H1 : Hp} {Fin : List V -> Hp -> Prop}
end
end L2
namespace L2
open PySem PySem.Spec PyProof.Rows
theorem d3 (l : Addr) (items : Array Value) (n : Nat) (dd : Option Addr) (sl : Array (Option Value)) (x : Value) (e : Value -> Bool) (j : Nat) (hj : j < items.size)
    (hit : e items[j] = true) (hno : ∀ m (hm : m < items.size), m < j -> e items[m] = false) :
    Meets (Builtin.«tuple.index» ⟨[.ref l, x], []⟩)
      (fun A R s => s.heap.get? l = some { cls := .type "tuple", dict := dd, data := .seq items n, slots := sl } /\ (∀ y, y ∈ items -> SeqAt.EqAt A.in1 s y x (e y)) /\ R (.ok (.ret (.int j s.toks))) { s with toks := s.toks + 1 }) :=
  .of_wp fun prog w A R s h => by
    obtain ⟨hp, g, d, tk, os⟩ := s; obtain ⟨hl, he, h⟩ := h
    wp_walk using AutoSeq1.wpAny_loadPart' hl
    show wpAny (model prog w) A.in1 (forIn [:min items.size items.size] ((none, ()) : Option PySem.Fin × Unit) fun (i : Nat) _ => (match items[i]? with
      | some y => do
        let __do_lift <- eqBool y x
        if __do_lift = true then do
            let __do_lift <- retInt (i : Int)
            pure (ForInStep.done (some __do_lift, ()))
          else pure (ForInStep.yield (none, ()))
      | _ => pure (ForInStep.yield (none, ())) : Sem (ForInStep (Option PySem.Fin × Unit)))) _ _ _
    rw [Std.Legacy.Range.forIn_eq_forIn_range'];refine wpAny_forIn_list _ (fun rest b s' => b = (none, ()) /\ s' = (⟨hp, g, d, tk, os⟩ : Shared) /\ ∃ i, i <= j /\ rest = List.range' i (items.size - i)) _ ?turn ?fin _ _ ⟨rfl, rfl, 0, ZE _, by simp [Std.Legacy.Range.size]⟩
    case turn =>
      rintro k rest b s' ⟨rfl, rfl, i, hi, er⟩
      have hlt : i < items.size := by omega
      rw [show items.size - i = (items.size - (i + 1)) + 1 by omega, List.range'_succ] at er
      injection er with e1 e2
      subst e1;have ei : items[k]? = some items[k] := by simp [hlt]
      rw [ei];refine wpAny_bind (he _ (Array.getElem_mem hlt) prog w _ _ ?_)
      by_cases hk : k = j
      . subst hk
        rw [hit, if_pos rfl];refine wpAny_bind ?_;unfold retInt
        wp_walk
        exact ⟨_, rfl, h⟩
      . rw [hno k hlt (by omega)]
        wp_walk
        exact ⟨rfl, rfl, k + 1, by omega, e2⟩
    case fin =>
      rintro b s' ⟨rfl, rfl, i, hi, er⟩
      have : (List.range' i (items.size - i)).length = 0 := by rw [<- er]; rfl
      rw [List.length_range'] at this;omega
section
variable {X : Cx}
structure FirstAt (xs : List V) (y : V) (j : Nat) : Prop where
  flat : xh y = true
  flats : xs.all xh = true
  hit : ∃ z, xs[j]? = some z /\ eqV z y = true
  no : ∀ (m : Nat) (z : V), m < j -> xs[m]? = some z -> eqV z y = false
theorem FirstAt.lt {xs : List V} {y : V} {j : Nat} (h : FirstAt xs y j) : j < xs.length := by
  obtain ⟨z, e, _⟩ := h.hit;exact (Zc.mp e).1
theorem zd3 {xs : List V} {us : List Value} {y z : V} {m : Nat} (r : Vals xs us) (fs : xs.all xh = true) (e : xs[m]? = some z) (hm : m < us.toArray.size) : eqU y us.toArray[m] = eqV z y := by
  obtain ⟨w, hw, rw'⟩ := r.get e
  have : us.toArray[m] = w := by
    have h2 := (Zc.mp hw).2
    simpa using h2
  rw [this];exact bu rw' (ZS.mp fs _ (Zi e))
def zbw (K : Fg) : V -> List V -> Hp -> VK -> Prop := fun x vs H Q => ∃ p xs y j, x = .ref p /\ vs = [y] /\ SqT K H p xs /\ FirstAt xs y j /\ Q (.int (j : Nat)) H
def zg8 (K : Fg) : V -> List V -> Hp -> VK -> Prop := fun x vs H Q => ∃ p xs y j, x = .ref p /\ vs = [y] /\ SqL K H p xs /\ FirstAt xs y j /\ Q (.int (j : Nat)) H
theorem zf8 {K : Fg} {x : V} {vs : List V} {H : Hp} {Q : VK} : zbw K x vs H Q = ∃ p xs y j, x = .ref p /\ vs = [y] /\ SqT K H p xs /\ FirstAt xs y j /\ Q (.int (j : Nat)) H := rfl
theorem zgc {K : Fg} {x : V} {vs : List V} {H : Hp} {Q : VK} : zg8 K x vs H Q = ∃ p xs y j, x = .ref p /\ vs = [y] /\ SqL K H p xs /\ FirstAt xs y j /\ Q (.int (j : Nat)) H := rfl
theorem zdo : MtR X "tuple.index" (zbw X.K) := by
  intro pins s σ H x vs v us Q I rx rvs h;obtain ⟨p, xs, y, j, rfl, rfl, hq, hF, q⟩ := h;cases rx;obtain ⟨u, rfl, ru⟩ := ua rvs;obtain ⟨its, r, pl, hz⟩ := I.tuple hq;obtain ⟨⟨cls, dd, data, sl⟩, ho, hc, n, hd⟩ := id pl;simp only at hc hd;subst hc hd;have hl := r.length;have hjl : j < its.toArray.size := by rw [Zr, <- hl]; exact hF.lt
  obtain ⟨z, e, hit⟩ := hF.hit;refine call_meets PySem.F.slot_tuple_index ⟨_, ho, rfl⟩ PySem.F.entry_tuple_index (PySem.F.args_tuple_index_2 _ _) (d3 p its.toArray n dd sl u (eqU y) j hjl ?_ ?_) ⟨ho, fun w hw => mh ru hF.flat r hF.flats w (by simpa using hw), ⟨.int j, H, I.tok _, ⟨_, rfl⟩, q⟩⟩
  . rw [zd3 r hF.flats e]; exact hit
  . intro m hm hmj
    have hml : m < xs.length := by rw [hl]; simpa using hm
    rw [zd3 r hF.flats (Zb hml)];exact hF.no m _ hmj (Zb hml)
end
section
variable {X : Cx}
theorem hu10 {A : Around} {k : Nat} (hr : Room k A) : A.units + 1 < cLine := by have := hu9 hr; omega
def rInK (neg : Bool) : R2 := fun y x H Q => ∃ a o, x = .ref a /\ DGet H a y o /\ Q (.bl (neg ^^ o.isSome)) H
theorem e_inK {neg : Bool} {y x : V} {H : Hp} {Q : VK} : rInK neg y x H Q = ∃ a o, x = .ref a /\ DGet H a y o /\ Q (.bl (neg ^^ o.isSome)) H := rfl
theorem op_inK (hu : X.A.units + 1 < cLine) : OpR X (compareOp .In) (rInK false) := by
  intro pins s σ H x y v u Q I rx ry h;obtain ⟨a, o, rfl, g, q⟩ := h;cases ry;exact d_in hu I g rx fun s3 I3 => ⟨.bl o.isSome, H, I3, rfl, by simpa using q⟩
def rSetD : TSet := fun o i v H Q => ∃ a H', o = .ref a /\ DPut H a i v H' /\ Q H'
theorem e_setD {o i v : V} {H : Hp} {Q : Hp -> Prop} : rSetD o i v H Q = ∃ a H', o = .ref a /\ DPut H a i v H' /\ Q H' := rfl
theorem vm (hu : X.A.units + 1 < cLine) : PSet X rSetD := by
  intro pins s σ H o i v ov iv u Q I ro ri rv h;obtain ⟨a, H', rfl, g, q⟩ := h;cases ro;exact zdd hu I g ri rv fun s4 I4 => ⟨H', I4, q⟩
theorem zgy {σ : St} {H : Hp} {Q : VK} : zej σ H Q = ∀ p, H p = none -> Q (.ref p) (upd H p (.dT [])) := rfl
theorem e_dget {td ty : TE} {σ : St} {H : Hp} {Q : VK} : tDGet td ty σ H Q = td σ H fun x H1 => ty σ H1 fun y H2 => ∃ a v, x = .ref a /\ DGet H2 a y (some v) /\ Q v H2 := rfl
theorem d9 {prog : Program} {w : World} (d : Addr) (hd : (d == sysModules) = false) :
    MeetsIn prog w (Builtin.«dict.__len__» ⟨[.ref d], []⟩) (fun _ R s => ∃ o es ep, s.heap.get? d = some o /\ o.data = .dict es ep /\ R (.ok (.ret (.int es.size s.toks))) { s with toks := s.toks + 1 }) :=
  .of_wp fun A R s ⟨o, es, ep, ho, hdat, h⟩ => by
    show wpAny _ _ (dictSize d >>= _) _ _ s
    unfold dictSize;refine wpAny_bind (wpAny_bind (wpAny_dictEntries ho hdat (wpAny_pure ?_)))
    show wpAny _ _ (Builtin.Dict.pendingCount d >>= _) _ _ s
    refine wpAny_bind (wpAny_pendingCount_other hd ?_);refine wpAny_ret_mkInt ?_;rw [Nat.add_zero]; exact h
theorem zhy {prog : Program} {w : World} {A : Around} {E : Value -> Shared -> Prop} {s : Shared} {d : Addr} {o : Obj} {es : Array DictEntry} {ep : Nat} {Q : Value -> Shared -> Prop} (hd : (d == sysModules) = false) (ht : s.TypeIs (.ref d) "dict") (ho : s.heap.get? d = some o) (hdat : o.data = .dict es ep) (hfit : (es.size : Int) < 2 ^ 63)
    (h : Q (.int es.size (s.toks + 1)) { s with toks := s.toks + 1 + 1 }) : wpAny (model prog w) A (call (.builtin "len") [.ref d]) Q E s := by
  refine Calls.call_function_entry kind_len plain_len entry_len (args_len1 _) ?_;unfold Builtin.«len»;refine wpAny_bind (m := oneArg "len" _) (wpAny_pure ?_)
  refine wpAny_bind (m := callSpecial? (.ref d) (Str.ofString "__len__")) (wpAny_callSpecial?_slot (name := Str.ofString "__len__") ht PySem.F.slot_dict_len
    (call_meetsIn PySem.F.slot_dict_len ht PySem.F.entry_dict_len (PySem.F.args_dict_len_1 _) (d9 d hd) ⟨o, es, ep, ho, hdat, ?_⟩))
  show wpAny _ _ _ _ _ { s with toks := s.toks + 1 }
  refine wpAny_bind (wpAny_holding (wpAny_pure ?_));refine wpAny_bind (wpAny_letGo ?_)
  show wpAny _ _ (if ((es.size : Nat) : Int) < 0 then _ else _) _ _ _
  rw [if_neg (by omega)]
  show wpAny _ _ (if ((es.size : Nat) : Int) ≥ 2 ^ 63 then _ else _) _ _ _
  rw [if_neg (by omega)];exact wpAny_bind (wpAny_mkInt (wpAny_pure ⟨_, rfl, h⟩))
theorem dn : CallR X (.builtin "len") (fun xs H Q => ∃ a kvs, xs = [V.ref a] /\ H a = some (.dT kvs) /\ Q (.int kvs.length) H) := by
  intro pins s σ H xs us Q I r h;obtain ⟨a, kvs, rfl, ha, q⟩ := h;obtain ⟨u, rfl, ru⟩ := ua r;cases ru;obtain ⟨z, hd, ys, rel, dd⟩ := cg I.hok ha;have ht := dd.typeIs (s := s);obtain ⟨o, es, ep, ho, hc, hdat, he, _⟩ := id dd
  have hl : es.size = kvs.length := by
    rw [size_of_entries he];exact (Paired.length rel).symm
  have hn := nn;refine zhy hd ht ho hdat (by omega) ?_;rw [hl];exact ⟨.int kvs.length, H, I.tok _, ⟨_, rfl⟩, q⟩
end
end L2
namespace L2
open PySem PySem.Spec PyProof.Rows
section
variable {X : Cx}
def tBMT (r : V -> List V -> Hp -> VK -> Prop) (to : TE) (t : TA) : TE := fun σ H Q => to σ H fun x H1 => (∃ p xs, x = .ref p /\ Rd H1 p (.tup xs)) /\ t σ H1 fun xs H2 => r x xs H2 Q
theorem e_BMT {r : V -> List V -> Hp -> VK -> Prop} {to : TE} {t : TA} {σ : St} {H : Hp} {Q : VK} : tBMT r to t σ H Q = to σ H fun x H1 => (∃ p xs, x = .ref p /\ Rd H1 p (.tup xs)) /\ t σ H1 fun xs H2 => r x xs H2 Q := rfl
theorem pe_bmT {o e : Expr} {es : List Expr} {to : TE} {t : TA} {name : Str} {apos cpos : Pos} {id : String} {r : V -> List V -> Hp -> VK -> Prop} (pa : PlainAttrs "tuple") (slot : Slot "tuple" name id) (hty : typeOf (.builtin id) = pure (.type "method_descriptor")) (hm : MtR X id r) (ho : PE X o to) (ha : PA X (e :: es) t)
    (hbase : attributeBase o name X.env (eval o X.env) = eval o X.env := by rfl)
    (hfew : ((backTo cpos (starEach (e :: es) X.env)).all (fun x => !x.1) && (backToKw cpos (keywordEach [] X.env)).all (fun x => x.1.isSome)
      && decide ((e :: es).length + ([] : List Keyword).length + (if ([] : List Keyword).isEmpty then 0 else 1) < 30)) = true := by rfl)
    (hline : (apos.endLine == cpos.line) = true := by rfl) (hs : starEach (e :: es) X.env = (false, eval e X.env) :: starEach es X.env := by rfl) (hplain : (backTo cpos (starEach es X.env)).any (·.1) = false := by rfl) :
    PE X (.Call (.Attribute o name apos) (e :: es) [] cpos) (tBMT r to t) := by
  intro pins s σ H Q I h;refine wpAny_Call_method_late hbase hfew hline rfl (thn (ho pins s σ H _ I h) fun v s1 ⟨x, H1, I1, r1, ⟨p, ys, ex, hp⟩, q1⟩ => ?_);subst ex;obtain rfl : v = Value.ref p := r1;obtain ⟨z, its, rr, ob, e1, c1, n1, d1, f1⟩ := (show ObjOk X.prog X.w H1 s1.heap p (.tup ys) from hp.ok I1.hok);have h1 : s1.TypeIs (.ref p) "tuple" := ⟨ob, e1, c1⟩
  have h2 : ∀ a, Value.ref p = .ref a -> ∃ ob, s1.heap.get? a = some ob /\ ob.dict = none := fun a e => by
    cases e;exact ⟨ob, e1, f1⟩
  refine ⟨"tuple", id, pa, slot, hty, h1, h2, ?_⟩;have hA := ha cpos pins s1 σ H1 _ I1 q1;rw [hs] at hA ⊢;refine Calls.callWith_builtin (by show (false || (backTo cpos (starEach es X.env)).any (·.1)) = false; rw [hplain] <;> rfl) (Calls.evalArgs_plain ?_);exact thn hA fun us s2 ⟨vs, H2, I2, r2, q2⟩ => hm pins s2 σ H2 (.ref p) vs (.ref p) us Q I2 rfl r2 q2
end
end L2
namespace L2
open PySem PySem.Spec PyProof.Rows
theorem za4 {i : Int} {n : Nat} (h1 : -(2 ^ n) < i) (h2 : i < 2 ^ n) : Builtin.Int.intBits i <= n := by
  unfold Builtin.Int.intBits
  split
  . exact ZE _
  . rename_i h
    have h0 : i ≠ 0 := fun e => h (by rw [e]; rfl)
    have hn : i.natAbs < 2 ^ n := by
      have e : ((2 ^ n : Nat) : Int) = (2 : Int) ^ n := by rw [Int.natCast_pow]; rfl
      have : (i.natAbs : Int) < ((2 ^ n : Nat) : Int) := by rw [e]; omega
      exact_mod_cast this
    exact (Nat.log2_lt (by omega)).mpr hn
def CMulB (i j : Int) : Prop := (-(10 ^ 60) <= i /\ i <= 10 ^ 60) /\ -(10 ^ 60) <= j /\ j <= 10 ^ 60
theorem CMulB.ok {i j : Int} (h : CMulB i j) : IntMulOk i j := by
  have e : (10 : Int) ^ 60 < 2 ^ 200 := by decide
  obtain ⟨⟨a, b⟩, c, d⟩ := h;exact .of_bits (Zd (za4 (n := 200) (by omega) (by omega)) (by decide)) (Zd (za4 (n := 200) (by omega) (by omega)) (by decide))
end L2
namespace L2
open PySem
def SeqH (h : Heap) (l : Addr) (xs : Array Value) : Prop := ∃ o n, h.get? l = some o /\ o.data = .seq xs n
section
variable {prog : Program} {w : World} {A : Around} {E : Value -> Shared -> Prop} {s : Shared}
theorem ji {it t : Addr} {i : Nat} {items : Array Value} {x : Value} {Q : Value -> Shared -> Prop} (hit : s.heap.IsTupleIter it t i)
    (ht : SeqH s.heap t items) (hx : items[i]? = some x) (hQ : ∀ h', h'.IsTupleIter it t (i + 1) -> Heap.SameBut it s.heap h' -> Q x { s with heap := h' }) :
    wpAny (model prog w) A (Builtin.SmallTypes.nextOf (.ref it)) Q E s := by
  obtain ⟨o, ho, hc, hd⟩ := id hit;obtain ⟨ol, nl, hol, hdl⟩ := ht;unfold Builtin.SmallTypes.nextOf
  refine wpAny_bind (wpAny_callSpecial?_slot (name := Str.ofString "__next__") hit.typeIs F.slot_tuple_iterator_next
    (wpAny_call_entry F.slot_tuple_iterator_next hit.typeIs F.entry_tuple_iterator_next ?_ (F.args_tuple_iterator_next_1 _)))
  show wpAny _ _ (field (.ref it) 0 >>= _) _ _ s
  refine wpAny_bind (wpAny_field ho hd (x := .ref t) rfl ?_)
  show wpAny _ _ (if (Value.ref t == Value.none) = true then _ else _) _ _ s
  rw [if_neg (show ¬ ((Value.ref t == Value.none) = true) from Bool.false_ne_true)]
  show wpAny _ _ (field (.ref it) 1 >>= _) _ _ s
  refine wpAny_bind (wpAny_field ho hd (x := .int i 0) rfl ?_)
  show wpAny _ _ (seqItems? (.ref t) >>= _) _ _ s
  refine wpAny_bind (wpAny_seqItems hol hdl ?_);simp only [Zw, hx];refine wpAny_bind (wpAny_setField ho hd (by simp) (wpAny_pure ⟨x, rfl, wpAny_pure (hQ _ ?_ (Heap.SameBut.update ..))⟩))
  exact ⟨_, Heap.get?_update_self _ ho (Obj.isFreed_of_fields (Obj.data_mapFields hd _)), (Obj.cls_mapFields ..).trans hc, by
    rw [Obj.data_mapFields hd]; simp [rawInt]⟩
theorem j7 {it t : Addr} {i : Nat} {items : Array Value} {Q : Value -> Shared -> Prop} (hh : A.handled = none)
    (hit : s.heap.IsTupleIter it t i) (ht : SeqH s.heap t items) (hx : items[i]? = none)
    (hE : ∀ h' e, Heap.ExtBut it s.heap h' -> (∃ o, h'.get? e = some o /\ o.cls = .type "StopIteration") -> E (.ref e) { s with heap := h' }) :
    wpAny (model prog w) A (Builtin.SmallTypes.nextOf (.ref it)) Q E s := by
  obtain ⟨o, ho, hc, hd⟩ := id hit;obtain ⟨ol, nl, hol, hdl⟩ := ht;unfold Builtin.SmallTypes.nextOf
  refine wpAny_bind (wpAny_callSpecial?_slot (name := Str.ofString "__next__") hit.typeIs F.slot_tuple_iterator_next
    (wpAny_call_entry F.slot_tuple_iterator_next hit.typeIs F.entry_tuple_iterator_next ?_ (F.args_tuple_iterator_next_1 _)))
  show wpAny _ _ (field (.ref it) 0 >>= _) _ _ s
  refine wpAny_bind (wpAny_field ho hd (x := .ref t) rfl ?_)
  show wpAny _ _ (if (Value.ref t == Value.none) = true then _ else _) _ _ s
  rw [if_neg (show ¬ ((Value.ref t == Value.none) = true) from Bool.false_ne_true)]
  show wpAny _ _ (field (.ref it) 1 >>= _) _ _ s
  refine wpAny_bind (wpAny_field ho hd (x := .int i 0) rfl ?_)
  show wpAny _ _ (seqItems? (.ref t) >>= _) _ _ s
  refine wpAny_bind (wpAny_seqItems hol hdl ?_);simp only [Zw, hx];refine wpAny_bind (wpAny_rule (wpAny_bind (wpAny_setField ho hd (by simp) ?_)))
  show wpAny _ _ (newExc (.type "StopIteration") [] >>= _) _ _ _
  refine wpAny_bind ?_;simp only [newExc, newTuple];refine wpAny_bind (wpAny_newObj_type ?_ (by size_fits));refine wpAny_bind (m := firstArgMember _ _) (wpAny_of_eq (a := Value.none) (by first | rfl | (simp only [firstArgMember]; rfl)) ?_);refine wpAny_newObj_type ?_ (by size_fits);simp only [raiseNew];refine wpAny_bind (wpAny_handled ?_)
  first | rw [show A.in1.handled = none from hh] | rw [hh]
  refine wpAny_bind (wpAny_pure (wpAny_throw ?_));exact hE _ _ (((Heap.SameBut.update ..).extBut.push _).push _) ⟨_, Heap.get?_push_size _ rfl, rfl⟩
theorem jh {it t : Addr} {i : Nat} {items : Array Value} {x : Value} {Q : Value -> Shared -> Prop} (hit : s.heap.IsListIter it t i)
    (ht : SeqH s.heap t items) (hx : items[i]? = some x) (hQ : ∀ h', h'.IsListIter it t (i + 1) -> Heap.SameBut it s.heap h' -> Q x { s with heap := h' }) :
    wpAny (model prog w) A (Builtin.SmallTypes.nextOf (.ref it)) Q E s := by
  obtain ⟨o, ho, hc, hd⟩ := id hit;obtain ⟨ol, nl, hol, hdl⟩ := ht;unfold Builtin.SmallTypes.nextOf
  refine wpAny_bind (wpAny_callSpecial?_slot (name := Str.ofString "__next__") hit.typeIs slot_listiter_next
    (wpAny_call_entry slot_listiter_next hit.typeIs entry_listiter_next ?_ (args_listiter_next _)))
  show wpAny _ _ (field (.ref it) 0 >>= _) _ _ s
  refine wpAny_bind (wpAny_field ho hd (x := .ref t) rfl ?_)
  show wpAny _ _ (if (Value.ref t == Value.none) = true then _ else _) _ _ s
  rw [if_neg (show ¬ ((Value.ref t == Value.none) = true) from Bool.false_ne_true)]
  show wpAny _ _ (field (.ref it) 1 >>= _) _ _ s
  refine wpAny_bind (wpAny_field ho hd (x := .int i 0) rfl ?_)
  show wpAny _ _ (seqItems? (.ref t) >>= _) _ _ s
  refine wpAny_bind (wpAny_seqItems hol hdl ?_);simp only [Zw, hx];refine wpAny_bind (wpAny_setField ho hd (by simp) (wpAny_pure ⟨x, rfl, wpAny_pure (hQ _ ?_ (Heap.SameBut.update ..))⟩))
  exact ⟨_, Heap.get?_update_self _ ho (Obj.isFreed_of_fields (Obj.data_mapFields hd _)), (Obj.cls_mapFields ..).trans hc, by
    rw [Obj.data_mapFields hd]; simp [rawInt]⟩
theorem jz {it t : Addr} {i : Nat} {items : Array Value} {Q : Value -> Shared -> Prop} (hh : A.handled = none)
    (hit : s.heap.IsListIter it t i) (ht : SeqH s.heap t items) (hx : items[i]? = none)
    (hE : ∀ h' e, Heap.ExtBut it s.heap h' -> (∃ o, h'.get? e = some o /\ o.cls = .type "StopIteration") -> E (.ref e) { s with heap := h' }) :
    wpAny (model prog w) A (Builtin.SmallTypes.nextOf (.ref it)) Q E s := by
  obtain ⟨o, ho, hc, hd⟩ := id hit;obtain ⟨ol, nl, hol, hdl⟩ := ht;unfold Builtin.SmallTypes.nextOf
  refine wpAny_bind (wpAny_callSpecial?_slot (name := Str.ofString "__next__") hit.typeIs slot_listiter_next
    (wpAny_call_entry slot_listiter_next hit.typeIs entry_listiter_next ?_ (args_listiter_next _)))
  show wpAny _ _ (field (.ref it) 0 >>= _) _ _ s
  refine wpAny_bind (wpAny_field ho hd (x := .ref t) rfl ?_)
  show wpAny _ _ (if (Value.ref t == Value.none) = true then _ else _) _ _ s
  rw [if_neg (show ¬ ((Value.ref t == Value.none) = true) from Bool.false_ne_true)]
  show wpAny _ _ (field (.ref it) 1 >>= _) _ _ s
  refine wpAny_bind (wpAny_field ho hd (x := .int i 0) rfl ?_)
  show wpAny _ _ (seqItems? (.ref t) >>= _) _ _ s
  refine wpAny_bind (wpAny_seqItems hol hdl ?_);simp only [Zw, hx];refine wpAny_bind (wpAny_rule (wpAny_bind (wpAny_setField ho hd (by simp) ?_)))
  show wpAny _ _ (newExc (.type "StopIteration") [] >>= _) _ _ _
  refine wpAny_bind ?_;simp only [newExc, newTuple];refine wpAny_bind (wpAny_newObj_type ?_ (by size_fits));refine wpAny_bind (m := firstArgMember _ _) (wpAny_of_eq (a := Value.none) (by first | rfl | (simp only [firstArgMember]; rfl)) ?_);refine wpAny_newObj_type ?_ (by size_fits);simp only [raiseNew];refine wpAny_bind (wpAny_handled ?_)
  first | rw [show A.in1.handled = none from hh] | rw [hh]
  refine wpAny_bind (wpAny_pure (wpAny_throw ?_));exact hE _ _ (((Heap.SameBut.update ..).extBut.push _).push _) ⟨_, Heap.get?_push_size _ rfl, rfl⟩
end
structure Drw where
  it : Addr
  l : Addr
  xs : Array Value
def DrAt (h : Heap) (d : Drw) (k : Nat) : Prop := (h.IsListIter d.it d.l k \/ h.IsTupleIter d.it d.l k) /\ SeqH h d.l d.xs
theorem DrAt.ext {h h' : Heap} {d : Drw} {k : Nat} (q : DrAt h d k) (h1 : ∀ o, h.get? d.it = some o -> h'.get? d.it = some o) (h2 : ∀ o, h.get? d.l = some o -> h'.get? d.l = some o) : DrAt h' d k := by
  obtain ⟨a, o', n, e', r'⟩ := q;refine ⟨?_, o', n, h2 o' e', r'⟩
  rcases a with ⟨o, e, r⟩ | ⟨o, e, r⟩
  . exact .inl ⟨o, h1 o e, r⟩
  . exact .inr ⟨o, h1 o e, r⟩
theorem DrAt.itAt {h : Heap} {d : Drw} {k : Nat} (q : DrAt h d k) : ∃ o, h.get? d.it = some o /\ o.data = .fields #[.ref d.l, .int k 0] := by
  rcases q.1 with ⟨o, e, c, r⟩ | ⟨o, e, c, r⟩ <;> exact ⟨o, e, r⟩
theorem DrAt.ne {h : Heap} {d : Drw} {k : Nat} (q : DrAt h d k) : d.l ≠ d.it := fun e => by
  obtain ⟨o, e1, r1⟩ := q.itAt;obtain ⟨o', n, e2, r2⟩ := q.2;rw [e, e1] at e2;cases e2;rw [r1] at r2;cases r2
section
variable {prog : Program} {w : World} {A : Around} {E : Value -> Shared -> Prop} {s : Shared}
theorem f9 {d : Drw} {k : Nat} {x : Value} {Q : Value -> Shared -> Prop} (q : DrAt s.heap d k) (hx : d.xs[k]? = some x) (hQ : ∀ h', DrAt h' d (k + 1) -> Heap.SameBut d.it s.heap h' -> Q x { s with heap := h' }) :
    wpAny (model prog w) A (Builtin.SmallTypes.nextOf (.ref d.it)) Q E s := by
  have hne := q.ne;obtain ⟨a, b⟩ := q
  have keep : ∀ h', Heap.SameBut d.it s.heap h' -> SeqH h' d.l d.xs := fun h' hs => by
    obtain ⟨o', n, e', r'⟩ := b;exact ⟨o', n, hs.extBut _ _ hne e', r'⟩
  rcases a with a | a
  . exact jh a b hx fun h' a' hs => hQ h' ⟨.inl a', keep h' hs⟩ hs
  . exact ji a b hx fun h' a' hs => hQ h' ⟨.inr a', keep h' hs⟩ hs
theorem zfs {d : Drw} {k : Nat} {Q : Value -> Shared -> Prop} (hh : A.handled = none) (q : DrAt s.heap d k) (hx : d.xs[k]? = none)
    (hE : ∀ h' e, Heap.ExtBut d.it s.heap h' -> (∃ o, h'.get? e = some o /\ o.cls = .type "StopIteration") -> E (.ref e) { s with heap := h' }) :
    wpAny (model prog w) A (Builtin.SmallTypes.nextOf (.ref d.it)) Q E s := by
  obtain ⟨a, b⟩ := q
  rcases a with a | a
  . exact jz hh a b hx hE
  . exact j7 hh a b hx hE
abbrev yw (h : Heap) (T : Addr) (xs : List Value) : Prop := h.get? T = some { cls := .type "tuple", data := .seq xs.toArray }
structure l6 (z TI TO : Addr) (ds : List Drw) : Prop where
  TIz : TI ≠ z
  TOz : TO ≠ z
  TITO : TI ≠ TO
  iz : ∀ d ∈ ds, d.it ≠ z /\ d.it ≠ TI /\ d.it ≠ TO
  lz : ∀ d ∈ ds, d.l ≠ z /\ d.l ≠ TO
  ii : ∀ (i j : Nat) (d e : Drw), ds[i]? = some d -> ds[j]? = some e -> i ≠ j -> d.it ≠ e.it
  li : ∀ (d e : Drw), d ∈ ds -> e ∈ ds -> d.l ≠ e.it
structure ZSt (h0 h : Heap) (z TI TO : Addr) (ds : List Drw) (vs old : List Value) (k j : Nat) : Prop where
  zip : IsZip h z TI TO .ellipsis
  to : yw h TO (vs.take j ++ old.drop j)
  done : ∀ (i : Nat) (d : Drw), ds[i]? = some d -> i < j -> DrAt h d (k + 1)
  todo : ∀ (i : Nat) (d : Drw), ds[i]? = some d -> j <= i -> DrAt h d k
  keep : ∀ c o, c ≠ z -> c ≠ TO -> (∀ d ∈ ds, c ≠ d.it) -> h0.get? c = some o -> h.get? c = some o
  size : h.objs.size = h0.objs.size
theorem cr {T : Addr} {xs : List Value} {x : Value} {k : Nat} {Q : Unit -> Shared -> Prop} (hT : yw s.heap T xs) (h8 : xs.length <= 8)
    (h : ∀ h', yw h' T (xs.set k x) -> Heap.SameBut T s.heap h' -> Q () { s with heap := h' }) : wpAny (model prog w) A (updateSeq T (·.setIfInBounds k x)) Q E s := by
  have z1 : xs.toArray.size <= sizeLine := by rw [Zr]; exact Zd h8 (by decide)
  have z2 : (xs.toArray.setIfInBounds k x).size <= sizeLine + 1 := by rw [Array.size_setIfInBounds]; omega
  refine wpAny_updateSeq (hz := z1) (_hz' := z2) hT rfl (h _ ?_ (Heap.SameBut.update ..))
  show (s.heap.update T _).get? T = _
  rw [Heap.get?_update_self _ hT rfl];simp [Obj.mapSeq]
theorem ju {α : Type} {l : List α} {j i : Nat} {v : α} {rest : List (α × Nat)} (er : (v, i) :: rest = l.zipIdx.drop j) : l[j]? = some v /\ i = j /\ rest = l.zipIdx.drop (j + 1) := by
  have h0 : l.zipIdx[j]? = some (v, i) := by
    have : (l.zipIdx.drop j)[0]? = some (v, i) := by rw [<- er]; rfl
    rwa [YY, Nat.add_zero] at this
  rw [List.getElem?_zipIdx] at h0;have ht : rest = (l.zipIdx.drop j).tail := by rw [<- er]; rfl
  cases e : l[j]? with
  | none => rw [e] at h0; cases h0
  | some u =>
    rw [e] at h0;simp at h0;exact ⟨by rw [h0.1], h0.2.symm, by rw [ht, List.tail_drop]⟩
theorem zgp {z TI TO : Addr} {ds : List Drw} {vs old : List Value} {k : Nat} {Q : Value -> Shared -> Prop} (D : l6 z TI TO ds) (hn : ds ≠ []) (hz : IsZip s.heap z TI TO .none) (hTI : yw s.heap TI (ds.map fun d => .ref d.it)) (hTO : yw s.heap TO old)
    (lv : vs.length = ds.length) (lo : old.length = ds.length) (h8 : ds.length <= 8) (hd : ∀ d ∈ ds, DrAt s.heap d k) (hv : ∀ (i : Nat) (d : Drw), ds[i]? = some d -> d.xs[k]? = vs[i]?)
    (hQ : ∀ h', IsZip h' z TI TO (rawInt s.heap.objs.size) -> yw h' TO vs -> (∀ d ∈ ds, DrAt h' d (k + 1)) -> yw h' s.heap.objs.size vs -> h'.objs.size = s.heap.objs.size + 1 ->
      (∀ c o, c ≠ z -> c ≠ TO -> (∀ d ∈ ds, c ≠ d.it) -> s.heap.get? c = some o -> h'.get? c = some o) -> Q (.ref s.heap.objs.size) { s with heap := h' }) :
    wpAny (model prog w) A (Builtin.«zip.__next__» ⟨[.ref z], []⟩) (fun fin s' => ∃ v, fin = .done (.ret v) /\ Q v s') E s := by
  show wpAny _ _ (field (.ref z) 2 >>= _) _ _ _
  refine wpAny_bind (wpAny_field hz rfl (x := .bool false) rfl ?_)
  show wpAny _ _ (field (.ref z) 3 >>= _) _ _ _
  refine wpAny_bind (wpAny_field hz rfl (x := .ref TI) rfl ?_);refine wpAny_bind (wpAny_seqItems hTI rfl ?_)
  have hne : ¬ (((ds.map fun d => Value.ref d.it).toArray).isEmpty = true) := by
    simp;exact hn
  show wpAny _ _ (if ((ds.map fun d => Value.ref d.it).toArray.isEmpty = true) then _ else _) _ _ _
  rw [if_neg hne]
  show wpAny _ _ (Builtin.SmallTypes.ownedTupleIsFree (.ref z) >>= _) _ _ _
  refine wpAny_bind ?_;unfold Builtin.SmallTypes.ownedTupleIsFree;refine wpAny_bind (wpAny_field hz rfl (x := .none) rfl (wpAny_pure ?_));simp only [if_true];refine wpAny_bind (wpAny_rule ?_);refine wpAny_bind (wpAny_field hz rfl (x := .ref TO) rfl ?_);refine wpAny_bind (wpAny_setField_rec hz (by simp) fun h₁ hz₁ hs₁ => ?_)
  replace hz₁ : IsZip h₁ z TI TO .ellipsis := hz₁
  refine wpAny_bind ?_
  have st0 : ZSt s.heap h₁ z TI TO ds vs old k 0 := ⟨hz₁, by
    rw [List.take_zero, List.nil_append, List.drop_zero]
    exact hs₁.extBut _ _ D.TOz hTO, fun i d _ h => absurd h (Xk _), fun i d e _ => (hd d (Zi e)).ext (fun o q => hs₁.extBut _ _ (D.iz d (Zi e)).1 q) (fun o q => hs₁.extBut _ _ (D.lz d (Zi e)).1 q), fun c o c1 _ _ q => hs₁.extBut _ _ c1 q, hs₁.1⟩
  refine wpAny_forIn_list _ (fun rest b s' => b = (none, ()) /\ ∃ j h, s' = { s with heap := h } /\ j <= ds.length /\ rest = ((ds.map fun d => Value.ref d.it).zipIdx).drop j /\ ZSt s.heap h z TI TO ds vs old k j) _ ?turn ?fin _ _ ⟨rfl, 0, h₁, rfl, ZE _, rfl, st0⟩
  case turn =>
    rintro ⟨v, i⟩ rest b s' ⟨rfl, j, h, rfl, hj, er, st⟩
    obtain ⟨ev, rfl, er2⟩ := ju er;rw [Ze] at ev
    cases ed : ds[i]? with
    | none => rw [ed] at ev; cases ev
    | some d =>
    rw [ed] at ev;cases ev;have hil := (Zc.mp ed).1;have hm := Zi ed;have ex := hv i d ed;obtain ⟨x, evx⟩ : ∃ x, vs[i]? = some x := ⟨vs[i]'(by omega), Zb _⟩;rw [evx] at ex;refine wpAny_bind (wpAny_onRaise ?_)
    show wpAny _ _ (Builtin.SmallTypes.nextOf (.ref d.it) >>= _) _ _ _
    refine wpAny_bind (f9 (s := { s with heap := h }) (st.todo i d ed (Zm _)) ex fun h₂ hd₂ hs₂ => wpAny_pure ?_)
    replace hs₂ : Heap.SameBut d.it h h₂ := hs₂
    have hTO₂ : yw h₂ TO (vs.take i ++ old.drop i) := hs₂.extBut _ _ (Ne.symm (D.iz d hm).2.2) st.to;refine wpAny_bind (wpAny_seqItems (s := { s with heap := h₂ }) hTO₂ rfl ?_);refine wpAny_bind (cr (s := { s with heap := h₂ }) hTO₂ (by rw [Zo, Zj, ZT]; omega) fun h₃ hTO₃ hs₃ => ?_)
    replace hs₃ : Heap.SameBut TO h₂ h₃ := hs₃
    refine wpAny_bind (wpAny_letGo (wpAny_pure ?_));have up : ∀ c o, c ≠ d.it -> c ≠ TO -> h.get? c = some o -> h₃.get? c = some o := fun c o c1 c2 e => hs₃.extBut _ _ c2 (hs₂.extBut _ _ c1 e)
    refine ⟨rfl, i + 1, h₃, rfl, hil, er2, ⟨up _ _ (Ne.symm (D.iz d hm).1) (Ne.symm D.TOz) st.zip, ?_, fun m e em hmi => ?_, fun m e em hmi => ?_, fun c o c1 c2 c3 e => up c o (c3 d hm) c2 (st.keep c o c1 c2 c3 e), ?_⟩⟩
    . have : (vs.take i ++ old.drop i).set i x = vs.take (i + 1) ++ old.drop (i + 1) := by
        have lt : (vs.take i).length = i := by rw [Zj]; omega
        have eo : old.drop i = old[i]'(by omega) :: old.drop (i + 1) := List.drop_eq_getElem_cons (by omega);rw [eo, List.set_append_right _ _ (by omega), lt, Nat.sub_self, List.set_cons_zero, Zq, evx];simp
      rw [this] at hTO₃;exact hTO₃
    . have hme := Zi em
      by_cases hmi' : m = i
      . subst hmi'
        rw [ed] at em;cases em;exact hd₂.ext (fun o q => hs₃.extBut _ _ (D.iz d hm).2.2 q) (fun o q => hs₃.extBut _ _ (D.lz d hm).2 q)
      . exact (st.done m e em (by omega)).ext (fun o q => up _ _ (D.ii m i e d em ed hmi') (D.iz e hme).2.2 q) (fun o q => up _ _ (D.li e d hme hm) (D.lz e hme).2 q)
    . have hme := Zi em
      exact (st.todo m e em (by omega)).ext (fun o q => up _ _ (D.ii m i e d em ed (by omega)) (D.iz e hme).2.2 q) (fun o q => up _ _ (D.li e d hme hm) (D.lz e hme).2 q)
    . rw [hs₃.1, hs₂.1, st.size]
  case fin =>
    rintro b s' ⟨rfl, j, h, rfl, hj, er, st⟩
    have hjl : j = ds.length := by
      have := congrArg List.length er;rw [ZT, List.length_zipIdx, Za, Yv] at this;omega
    subst hjl
    have hTO₅ : yw h TO vs := by
      have := st.to
      rwa [<- lv, Zt, List.drop_of_length_le (by omega), Ye] at this
    refine wpAny_bind (wpAny_seqItems (s := { s with heap := h }) hTO₅ rfl ?_);have hzl : vs.length <= sizeLine := Zd (show vs.length <= 8 by omega) (by decide);refine wpAny_bind (wpAny_newTuple (s := { s with heap := h }) ?_ (by simpa using hzl));have hsz := st.size;have hzlt : z < h.objs.size := Heap.lt_size st.zip
    show wpAny _ _ (Builtin.SmallTypes.ownedTupleHandOut (.ref z) (.ref h.objs.size) >>= _) _ _ _
    refine wpAny_bind ?_;unfold Builtin.SmallTypes.ownedTupleHandOut;have hz₆ : IsZip (h.push { cls := .type "tuple", data := .seq vs.toArray }) z TI TO .ellipsis := Heap.get?_push_of_some _ st.zip;refine wpAny_bind (wpAny_setField_rec (s := { s with heap := h.push { cls := .type "tuple", data := .seq vs.toArray } }) hz₆ (by simp) fun h₇ hz₇ hs₇ => ?_)
    replace hz₇ : IsZip h₇ z TI TO (rawInt h.objs.size) := hz₇
    replace hs₇ : Heap.SameBut z (h.push { cls := .type "tuple", data := .seq vs.toArray }) h₇ := hs₇
    refine wpAny_setField_rec (s := { s with heap := h₇ }) hz₇ (by simp) fun h₈ hz₈ hs₈ => ?_
    replace hz₈ : IsZip h₈ z TI TO (rawInt h.objs.size) := hz₈
    replace hs₈ : Heap.SameBut z h₇ h₈ := hs₈
    have up : ∀ c o, c ≠ z -> h.get? c = some o -> h₈.get? c = some o := fun c o c1 e => hs₈.extBut _ _ c1 (hs₇.extBut _ _ c1 (Heap.get?_push_of_some _ e))
    have hT₈ : yw h₈ h.objs.size vs := hs₈.extBut _ _ (Yl hzlt) (hs₇.extBut _ _ (Yl hzlt) (Heap.get?_push_size _ rfl));have hz8 : h₈.objs.size = h.objs.size + 1 := by rw [hs₈.1, hs₇.1, Heap.size_push]
    rw [hsz] at hz₈ hT₈ hz8;refine wpAny_pure ⟨_, rfl, ?_⟩
    show Q (.ref h.objs.size) _
    rw [hsz];refine hQ h₈ hz₈ (up _ _ D.TOz hTO₅) (fun d hm => ?_) hT₈ hz8 fun c o c1 c2 c3 e => up c o c1 (st.keep c o c1 c2 c3 e)
    obtain ⟨m, hml, em⟩ := Zy hm;have em' : ds[m]? = some d := by rw [<- em]; exact Zb hml
    exact (st.done m d em' hml).ext (fun o q => up _ _ (D.iz d hm).1 q) (fun o q => up _ _ (D.lz d hm).1 q)
structure ZSe (h0 h : Heap) (z TI TO : Addr) (ds : List Drw) (k j : Nat) : Prop where
  zip : IsZip h z TI TO .ellipsis
  to : ∃ ts, yw h TO ts /\ ts.length = ds.length
  more : ∀ (i : Nat) (d : Drw), ds[i]? = some d -> i < j -> d.xs[k]? ≠ none
  todo : ∀ (i : Nat) (d : Drw), ds[i]? = some d -> j <= i -> DrAt h d k
  keep : ∀ c o, c ≠ z -> c ≠ TO -> (∀ d ∈ ds, c ≠ d.it) -> h0.get? c = some o -> h.get? c = some o
theorem zh7 {z TI TO : Addr} {ds : List Drw} {old : List Value} {k : Nat} {Q : Fin -> Shared -> Prop} (hh : A.handled = none) (D : l6 z TI TO ds) (hn : ds ≠ []) (hz : IsZip s.heap z TI TO .none) (hTI : yw s.heap TI (ds.map fun d => .ref d.it)) (hTO : yw s.heap TO old)
    (lo : old.length = ds.length) (h8 : ds.length <= 8) (hd : ∀ d ∈ ds, DrAt s.heap d k) (hend : ∃ d ∈ ds, d.xs[k]? = none)
    (hE : ∀ h' e, (∀ c o, c ≠ z -> c ≠ TO -> (∀ d ∈ ds, c ≠ d.it) -> s.heap.get? c = some o -> h'.get? c = some o) -> (∃ o, h'.get? e = some o /\ o.cls = .type "StopIteration") -> E (.ref e) { s with heap := h' }) :
    wpAny (model prog w) A (Builtin.«zip.__next__» ⟨[.ref z], []⟩) Q E s := by
  show wpAny _ _ (field (.ref z) 2 >>= _) _ _ _
  refine wpAny_bind (wpAny_field hz rfl (x := .bool false) rfl ?_)
  show wpAny _ _ (field (.ref z) 3 >>= _) _ _ _
  refine wpAny_bind (wpAny_field hz rfl (x := .ref TI) rfl ?_);refine wpAny_bind (wpAny_seqItems hTI rfl ?_)
  have hne : ¬ (((ds.map fun d => Value.ref d.it).toArray).isEmpty = true) := by
    simp;exact hn
  show wpAny _ _ (if ((ds.map fun d => Value.ref d.it).toArray.isEmpty = true) then _ else _) _ _ _
  rw [if_neg hne]
  show wpAny _ _ (Builtin.SmallTypes.ownedTupleIsFree (.ref z) >>= _) _ _ _
  refine wpAny_bind ?_;unfold Builtin.SmallTypes.ownedTupleIsFree;refine wpAny_bind (wpAny_field hz rfl (x := .none) rfl (wpAny_pure ?_));simp only [if_true];refine wpAny_bind (wpAny_rule ?_);refine wpAny_bind (wpAny_field hz rfl (x := .ref TO) rfl ?_);refine wpAny_bind (wpAny_setField_rec hz (by simp) fun h₁ hz₁ hs₁ => ?_)
  replace hz₁ : IsZip h₁ z TI TO .ellipsis := hz₁
  refine wpAny_bind ?_;have st0 : ZSe s.heap h₁ z TI TO ds k 0 := ⟨hz₁, ⟨old, hs₁.extBut _ _ D.TOz hTO, lo⟩, fun i d _ h => absurd h (Xk _), fun i d e _ => (hd d (Zi e)).ext (fun o q => hs₁.extBut _ _ (D.iz d (Zi e)).1 q) (fun o q => hs₁.extBut _ _ (D.lz d (Zi e)).1 q), fun c o c1 _ _ q => hs₁.extBut _ _ c1 q⟩;refine wpAny_forIn_list _ (fun rest b s' => b = (none, ()) /\ ∃ j h, s' = { s with heap := h } /\ j <= ds.length /\ rest = ((ds.map fun d => Value.ref d.it).zipIdx).drop j /\ ZSe s.heap h z TI TO ds k j) _ ?turn ?fin _ _ ⟨rfl, 0, h₁, rfl, ZE _, rfl, st0⟩
  case turn =>
    rintro ⟨v, i⟩ rest b s' ⟨rfl, j, h, rfl, hj, er, st⟩
    obtain ⟨ev, rfl, er2⟩ := ju er;rw [Ze] at ev
    cases ed : ds[i]? with
    | none => rw [ed] at ev; cases ev
    | some d =>
    rw [ed] at ev;cases ev;have hil := (Zc.mp ed).1;have hm := Zi ed;refine wpAny_bind (wpAny_onRaise ?_)
    show wpAny _ _ (Builtin.SmallTypes.nextOf (.ref d.it) >>= _) _ _ _
    cases ex : d.xs[k]? with
    | none =>
      refine wpAny_bind (zfs (s := { s with heap := h }) hh (st.todo i d ed (Zm _)) ex fun h₂ e hs₂ he => ?_);obtain ⟨oe, hoe, hce⟩ := he;have hz₂ : IsZip h₂ z TI TO .ellipsis := hs₂ _ _ (Ne.symm (D.iz d hm).1) st.zip;have hez : e ≠ z := fun x => by subst x; rw [hz₂] at hoe; cases hoe; simp at hce
      exact wpAny_setField_rec (s := { s with heap := h₂ }) hz₂ (by simp) fun h₃ _ hs₃ => hE h₃ e (fun c o c1 c2 c3 x => hs₃.extBut _ _ c1 (hs₂ _ _ (c3 d hm) (st.keep c o c1 c2 c3 x))) ⟨oe, hs₃.extBut _ _ hez hoe, hce⟩
    | some x =>
      refine wpAny_bind (f9 (s := { s with heap := h }) (st.todo i d ed (Zm _)) ex fun h₂ hd₂ hs₂ => wpAny_pure ?_)
      replace hs₂ : Heap.SameBut d.it h h₂ := hs₂
      obtain ⟨ts, hts, lts⟩ := st.to;have hTO₂ : yw h₂ TO ts := hs₂.extBut _ _ (Ne.symm (D.iz d hm).2.2) hts;refine wpAny_bind (wpAny_seqItems (s := { s with heap := h₂ }) hTO₂ rfl ?_);refine wpAny_bind (cr (s := { s with heap := h₂ }) hTO₂ (by omega) fun h₃ hTO₃ hs₃ => ?_)
      replace hs₃ : Heap.SameBut TO h₂ h₃ := hs₃
      refine wpAny_bind (wpAny_letGo (wpAny_pure ?_));have up : ∀ c o, c ≠ d.it -> c ≠ TO -> h.get? c = some o -> h₃.get? c = some o := fun c o c1 c2 e => hs₃.extBut _ _ c2 (hs₂.extBut _ _ c1 e)
      refine ⟨rfl, i + 1, h₃, rfl, hil, er2, ⟨up _ _ (Ne.symm (D.iz d hm).1) (Ne.symm D.TOz) st.zip, ⟨_, hTO₃, by rw [Xl]; exact lts⟩, fun m e em hmi => ?_, fun m e em hmi => ?_, fun c o c1 c2 c3 e => up c o (c3 d hm) c2 (st.keep c o c1 c2 c3 e)⟩⟩
      . by_cases hmi' : m = i
        . subst hmi'
          rw [ed] at em;cases em;rw [ex];simp
        . exact st.more m e em (by omega)
      . have hme := Zi em
        exact (st.todo m e em (by omega)).ext (fun o q => up _ _ (D.ii m i e d em ed (by omega)) (D.iz e hme).2.2 q) (fun o q => up _ _ (D.li e d hme hm) (D.lz e hme).2 q)
  case fin =>
    rintro b s' ⟨rfl, j, h, rfl, hj, er, st⟩
    exfalso
    have hjl : j = ds.length := by
      have := congrArg List.length er;rw [ZT, List.length_zipIdx, Za, Yv] at this;omega
    subst hjl;obtain ⟨d, hm, e⟩ := hend;obtain ⟨m, hml, em⟩ := Zy hm;exact st.more m d (by rw [<- em]; exact Zb hml) hml e
theorem j6 {z TI TO : Addr} {ds : List Drw} {vs old : List Value} {k : Nat} {Q : Option Value -> Shared -> Prop} (D : l6 z TI TO ds) (hn : ds ≠ []) (hz : IsZip s.heap z TI TO .none) (hTI : yw s.heap TI (ds.map fun d => .ref d.it)) (hTO : yw s.heap TO old)
    (lv : vs.length = ds.length) (lo : old.length = ds.length) (h8 : ds.length <= 8) (hd : ∀ d ∈ ds, DrAt s.heap d k) (hv : ∀ (i : Nat) (d : Drw), ds[i]? = some d -> d.xs[k]? = vs[i]?)
    (hQ : ∀ h', IsZip h' z TI TO (rawInt s.heap.objs.size) -> yw h' TO vs -> (∀ d ∈ ds, DrAt h' d (k + 1)) -> yw h' s.heap.objs.size vs -> h'.objs.size = s.heap.objs.size + 1 ->
      (∀ c o, c ≠ z -> c ≠ TO -> (∀ d ∈ ds, c ≠ d.it) -> s.heap.get? c = some o -> h'.get? c = some o) -> Q (some (.ref s.heap.objs.size)) { s with heap := h' }) :
    wpAny (model prog w) A (pyNext (.ref z)) Q E s := by
  have hT : s.TypeIs (.ref z) "zip" := ⟨_, hz, rfl⟩;unfold pyNext
  exact wpAny_bind (wpAny_attempt (wpAny_callSpecial?_slot (name := Str.ofString "__next__") hT F.slot_zip_next
    (wpAny_call_entry F.slot_zip_next hT F.entry_zip_next
      (zgp D hn hz hTI hTO lv lo h8 hd hv fun h' a1 a2 a3 a4 a5 a6 => wpAny_pure (hQ h' a1 a2 a3 a4 a5 a6)) (F.args_zip_next_1 _))))
theorem im {z TI TO : Addr} {ds : List Drw} {old : List Value} {k : Nat} {Q : Option Value -> Shared -> Prop} (hh : A.handled = none) (D : l6 z TI TO ds) (hn : ds ≠ []) (hz : IsZip s.heap z TI TO .none) (hTI : yw s.heap TI (ds.map fun d => .ref d.it)) (hTO : yw s.heap TO old)
    (lo : old.length = ds.length) (h8 : ds.length <= 8) (hd : ∀ d ∈ ds, DrAt s.heap d k) (hend : ∃ d ∈ ds, d.xs[k]? = none)
    (hQ : ∀ h', (∀ c o, c ≠ z -> c ≠ TO -> (∀ d ∈ ds, c ≠ d.it) -> s.heap.get? c = some o -> h'.get? c = some o) -> Q none { s with heap := h' }) : wpAny (model prog w) A (pyNext (.ref z)) Q E s := by
  have hT : s.TypeIs (.ref z) "zip" := ⟨_, hz, rfl⟩;unfold pyNext
  refine wpAny_bind (wpAny_attempt (wpAny_callSpecial?_slot (name := Str.ofString "__next__") hT F.slot_zip_next
    (wpAny_call_entry F.slot_zip_next hT F.entry_zip_next (zh7 hh D hn hz hTI hTO lo h8 hd hend fun h' e hk he => ?_) (F.args_zip_next_1 _))))
  obtain ⟨o, ho, hc⟩ := he;refine wpAny_bind (wpAny_isInstance (T := "StopIteration") (b := true) ⟨o, ho, hc⟩ isSubtype_stop ?_);exact wpAny_pure (hQ _ hk)
end
def SrcAt (h : Heap) (b : Bool) (l : Addr) (xs : Array Value) : Prop := if b = true then h.IsList l xs else h.IsTuple l xs
def w5 (b : Bool) (l : Addr) : Obj := { cls := .type (if b = true then "list_iterator" else "tuple_iterator"), data := .fields #[.ref l, .int 0 0] }
theorem SrcAt.push {h : Heap} {b : Bool} {l : Addr} {xs : Array Value} (q : SrcAt h b l xs) (o : Obj) : SrcAt (h.push o) b l xs := by
  cases b
  . obtain ⟨p, e, r⟩ := (show h.IsTuple l xs from q)
    exact ⟨p, Heap.get?_push_of_some _ e, r⟩
  . obtain ⟨p, e, r⟩ := (show h.IsList l xs from q)
    exact ⟨p, Heap.get?_push_of_some _ e, r⟩
theorem gr {prog : Program} {w : World} {A : Around} {E : Value -> Shared -> Prop} {s : Shared} {b : Bool} {l : Addr} {xs : Array Value} {Q : Value -> Shared -> Prop} (q : SrcAt s.heap b l xs) (hQ : Q (.ref s.heap.objs.size) { s with heap := s.heap.push (w5 b l) }) :
    wpAny (model prog w) A (pyIter (.ref l)) Q E s := by
  cases b
  . exact wpAny_pyIter_tuple (show s.heap.IsTuple l xs from q) hQ
  . exact wpAny_pyIter_list (show s.heap.IsList l xs from q) hQ
theorem zci (b1 b2 : Bool) (l1 l2 : Addr) (x1 x2 : Array Value) :
    Meets (Builtin.«zip.__new__» ⟨[.type "zip", .ref l1, .ref l2], []⟩) (fun _ R s => SrcAt s.heap b1 l1 x1 /\ SrcAt s.heap b2 l2 x2 /\
      ∀ h', h' = ((((s.heap.push (w5 b1 l1)).push (w5 b2 l2)).push { cls := .type "tuple", data := .seq #[.ref s.heap.objs.size, .ref (s.heap.push (w5 b1 l1)).objs.size] }).push { cls := .type "tuple", data := .seq #[.none, .none] }) ->
      R (.ok (.ret (.ref h'.objs.size))) { s with heap := h'.push { cls := .type "zip", data := .fields #[.none, .bool false, .bool false, .ref ((s.heap.push (w5 b1 l1)).push (w5 b2 l2)).objs.size, .ref (((s.heap.push (w5 b1 l1)).push (w5 b2 l2)).push { cls := .type "tuple", data := .seq #[.ref s.heap.objs.size, .ref (s.heap.push (w5 b1 l1)).objs.size] }).objs.size] } }) :=
  .of_wp fun prog w A R s h => by
    obtain ⟨hp, g, d, tk, os⟩ := s; obtain ⟨hl1, hl2, h⟩ := h;have hsub := sub_zip;have hL1 : SrcAt (Shared.heap ⟨hp, g, d, tk, os⟩) b1 l1 x1 := hl1;have hL2 : SrcAt (Shared.heap ⟨hp.push (w5 b1 l1), g, d, tk, os⟩) b2 l2 x2 := SrcAt.push hl2 _
    wp_walk using gr hL1, gr hL2
    exact ⟨_, rfl, h _ rfl⟩
theorem DrAt.start {h : Heap} {b : Bool} {n l : Addr} {xs : Array Value} (e : h.get? n = some (w5 b l)) (q : SrcAt h b l xs) : DrAt h ⟨n, l, xs⟩ 0 := by
  cases b
  . obtain ⟨o, e', c, n, r⟩ := (show h.IsTuple l xs from q)
    exact ⟨.inr ⟨_, e, rfl, rfl⟩, o, n, e', r⟩
  . obtain ⟨o, e', c, n, r⟩ := (show h.IsList l xs from q)
    exact ⟨.inl ⟨_, e, rfl, rfl⟩, o, n, e', r⟩
theorem SrcAt.keeps {h h' : Heap} {b : Bool} {l : Addr} {xs : Array Value} (q : SrcAt h b l xs) (k : ∀ c o, h.get? c = some o -> h'.get? c = some o) : SrcAt h' b l xs := by
  cases b
  . obtain ⟨p, e, r⟩ := (show h.IsTuple l xs from q)
    exact ⟨p, k _ _ e, r⟩
  . obtain ⟨p, e, r⟩ := (show h.IsList l xs from q)
    exact ⟨p, k _ _ e, r⟩
section
variable {prog : Program} {w : World} {A : Around} {E : Value -> Shared -> Prop} {s : Shared}
theorem zb2 {b1 b2 : Bool} {l1 l2 : Addr} {x1 x2 : Array Value} {Q : Value -> Shared -> Prop} (hl1 : SrcAt s.heap b1 l1 x1) (hl2 : SrcAt s.heap b2 l2 x2)
    (h : ∀ h', IsZip h' (s.heap.objs.size + 4) (s.heap.objs.size + 2) (s.heap.objs.size + 3) .none -> yw h' (s.heap.objs.size + 2) [.ref s.heap.objs.size, .ref (s.heap.objs.size + 1)] ->
      yw h' (s.heap.objs.size + 3) [.none, .none] -> DrAt h' ⟨s.heap.objs.size, l1, x1⟩ 0 -> DrAt h' ⟨s.heap.objs.size + 1, l2, x2⟩ 0 ->
      (∀ c o, s.heap.get? c = some o -> h'.get? c = some o) -> Q (.ref (s.heap.objs.size + 4)) { s with heap := h' }) :
    wpAny (model prog w) A (call (.type "zip") [.ref l1, .ref l2]) Q E s := by
  refine callType_new F.called_zip (by decide) (F.typeCall_zip_2 _ _) (F.newCall_zip_2 _ _) (fun obj => F.args_object_init_3 obj _ _) F.entry_zip_new
    (zci b1 b2 l1 l2 x1 x2) ⟨hl1, hl2, ?_⟩
  intro h0 e0;generalize e1 : s.heap.push (w5 b1 l1) = h1 at *;have z1 : h1.objs.size = s.heap.objs.size + 1 := by rw [<- e1]; exact Heap.size_push ..
  generalize e2 : h1.push (w5 b2 l2) = h2 at *;have z2 : h2.objs.size = s.heap.objs.size + 2 := by rw [<- e2, Heap.size_push, z1]
  rw [z1] at e0;rw [z1, z2];generalize e4 : h2.push { cls := .type "tuple", data := .seq #[.ref s.heap.objs.size, .ref (s.heap.objs.size + 1)] } = h4 at *;have z4 : h4.objs.size = s.heap.objs.size + 3 := by rw [<- e4, Heap.size_push, z2]
  have z5 : h0.objs.size = s.heap.objs.size + 4 := by rw [e0, Heap.size_push, z4]
  rw [z4, z5];have k1 : ∀ c o, s.heap.get? c = some o -> h1.get? c = some o := fun c o q => by rw [<- e1]; exact Heap.get?_push_of_some _ q
  have k2 : ∀ c o, h1.get? c = some o -> h2.get? c = some o := fun c o q => by rw [<- e2]; exact Heap.get?_push_of_some _ q
  have k4 : ∀ c o, h2.get? c = some o -> h4.get? c = some o := fun c o q => by rw [<- e4]; exact Heap.get?_push_of_some _ q
  have k5 : ∀ c o, h4.get? c = some o -> h0.get? c = some o := fun c o q => by rw [e0]; exact Heap.get?_push_of_some _ q
  have g1 : h1.get? s.heap.objs.size = some (w5 b1 l1) := by rw [<- e1]; exact Heap.get?_push_size _ rfl
  have g2 : h2.get? (s.heap.objs.size + 1) = some (w5 b2 l2) := by rw [<- e2, <- z1]; exact Heap.get?_push_size _ rfl
  have g4 : h4.get? (s.heap.objs.size + 2) = some { cls := .type "tuple", data := .seq #[.ref s.heap.objs.size, .ref (s.heap.objs.size + 1)] } := by rw [<- e4, <- z2]; exact Heap.get?_push_size _ rfl
  have g5 : h0.get? (s.heap.objs.size + 3) = some { cls := .type "tuple", data := .seq #[.none, .none] } := by rw [e0, <- z4]; exact Heap.get?_push_size _ rfl
  generalize ezo : ({ cls := .type "zip", data := .fields #[.none, .bool false, .bool false, .ref (s.heap.objs.size + 2), .ref (s.heap.objs.size + 3)] } : Obj) = zo at *;have k6 : ∀ c o, h0.get? c = some o -> (h0.push zo).get? c = some o := fun c o q => Heap.get?_push_of_some _ q
  have g6 : (h0.push zo).get? (s.heap.objs.size + 4) = some zo := by rw [<- z5]; exact Heap.get?_push_size _ (by rw [<- ezo]; rfl)
  have kk : ∀ c o, s.heap.get? c = some o -> (h0.push zo).get? c = some o := fun c o q => k6 _ _ (k5 _ _ (k4 _ _ (k2 _ _ (k1 _ _ q))))
  show _ /\ _
  have g7 : IsZip (h0.push zo) (s.heap.objs.size + 4) (s.heap.objs.size + 2) (s.heap.objs.size + 3) .none := by
    show (h0.push zo).get? _ = _
    rw [g6, <- ezo]
  refine ⟨⟨_, g7, rfl⟩, h _ g7 (k6 _ _ (k5 _ _ g4)) (k6 _ _ g5) ?_ ?_ kk⟩
  . exact DrAt.start (b := b1) (k6 _ _ (k5 _ _ (k4 _ _ (k2 _ _ g1)))) (hl1.keeps kk)
  . exact DrAt.start (b := b2) (k6 _ _ (k5 _ _ (k4 _ _ g2))) (hl2.keeps kk)
end
end L2
namespace L2
open PySem PySem.Spec PyProof.Rows
def SqA (K : Fg) (H : Hp) (a : Addr) (xs : List V) : Prop := SqL K H a xs \/ SqT K H a xs
structure tf (K : Fg) (H : Hp) (as : List Addr) (xss : List (List V)) : Prop where
  len : as.length = xss.length
  at' : ∀ (j : Nat) (a : Addr) (xs : List V), as[j]? = some a -> xss[j]? = some xs -> SqA K H a xs
def ItN (K : Fg) (as : List Addr) : It :=
  ⟨fun i H => ∃ xss, tf K H as xss /\ ∀ xs ∈ xss, i < xs.length,
   fun i H v H' => ∃ T vs, v = .ref T /\ H T = none /\ H' = upd H T (.tup vs) /\ ∀ xss, tf K H as xss -> vs.length = xss.length /\ ∀ (j : Nat) (xs : List V), xss[j]? = some xs -> xs[i]? = vs[j]?,
   fun i H => ∃ xss, tf K H as xss /\ ∃ xs ∈ xss, xs.length <= i⟩
def zer (z TI TO : Addr) (its ls : List Addr) (i : Nat) (h : Heap) : Prop :=
  IsZip h z TI TO .none /\ yw h TI (its.map fun a => .ref a) /\ (∃ old, yw h TO old /\ old.length = its.length) /\ ∀ (j : Nat) (it l : Addr), its[j]? = some it -> ls[j]? = some l -> h.IsListIter it l i \/ h.IsTupleIter it l i
structure ai (z TI TO : Addr) (its : List Addr) : Prop where
  TIz : TI ≠ z
  TOz : TO ≠ z
  TITO : TI ≠ TO
  iz : ∀ it ∈ its, it ≠ z /\ it ≠ TI /\ it ≠ TO
  nd : its.Nodup
section
variable {X : Cx} {pins : List (Addr × Obj)} {σ : St} {H : Hp} {s : Shared}
theorem Inv.sqA (I : Inv X pins σ H s) {a : Addr} {xs : List V} (q : SqA X.K H a xs) : ∃ us : List Value, Vals xs us /\ SeqH s.heap a us.toArray := by
  rcases q with q | q
  . obtain ⟨us, r, pl, _⟩ := I.list q
    obtain ⟨o, e, c, n, d⟩ := pl.isList;exact ⟨us, r, o, n, e, d⟩
  . obtain ⟨us, r, ⟨o, e, c, n, d⟩, _⟩ := I.tuple q
    exact ⟨us, r, o, n, e, d⟩
theorem Inv.sqA_inj (I : Inv X pins σ H s) {a : Addr} {xs ys : List V} (q : SqA X.K H a xs) (q' : SqA X.K H a ys) : xs = ys := by
  obtain ⟨us, r, o, n, e, d⟩ := I.sqA q;obtain ⟨us', r', o', n', e', d'⟩ := I.sqA q';rw [e] at e';cases e';rw [d] at d'
  injection d' with d1 _
  have : us = us' := by simpa using congrArg Array.toList d1
  subst this;exact r.inj r'
theorem Inv.sqA_ne (I : Inv X pins σ H s) {a b : Addr} {xs : List V} (q : SqA X.K H a xs) (f : FpOk X pins H b) : a ≠ b := by
  rintro rfl
  have hk : ∀ o, X.K.lookup a = some o -> False := fun o hk => by
    have e : X.base.get? a = some o := I.ok.mod.kin a o hk
    rcases f.2.2.2.1 with z | z
    . exact I.ok.noex _ _ e z
    . exact absurd (Heap.lt_size (I.ok.bs a o e).1) (ZD.mpr z)
  rcases q with ((q | ⟨o, q⟩) | ⟨o, its, n, q, _⟩) | ((q | ⟨o, q⟩) | ⟨o, its, n, q, _⟩)
  . rw [f.1] at q; cases q
  . rw [f.1] at q; cases q
  . exact hk o q
  . rw [f.1] at q; cases q
  . rw [f.1] at q; cases q
  . exact hk o q
def mkDs : List Addr -> List Addr -> List (List Value) -> List Drw
  | it :: its, l :: ls, u :: us => ⟨it, l, u.toArray⟩ :: mkDs its ls us
  | _, _, _ => []
theorem va : ∀ {its ls : List Addr} {us : List (List Value)}, its.length = ls.length -> ls.length = us.length -> ∀ (j : Nat) (d : Drw), (mkDs its ls us)[j]? = some d ↔ ∃ it l u, its[j]? = some it /\ ls[j]? = some l /\ us[j]? = some u /\ d = ⟨it, l, u.toArray⟩
  | [], [], [], _, _, j, d => by simp [mkDs]
  | it :: its, l :: ls, u :: us, h1, h2, 0, d => by
    simp only [mkDs, List.getElem?_cons_zero, Option.some.injEq]
    constructor
    . intro e; exact ⟨it, l, u, rfl, rfl, rfl, e.symm⟩
    . rintro ⟨a, b, c, rfl, rfl, rfl, e⟩; exact e.symm
  | it :: its, l :: ls, u :: us, h1, h2, j + 1, d => by
    simp only [mkDs, List.getElem?_cons_succ];exact va (by simpa using h1) (by simpa using h2) j d
theorem jy : ∀ {its ls : List Addr} {us : List (List Value)}, its.length = ls.length -> ls.length = us.length -> (mkDs its ls us).length = its.length
  | [], [], [], _, _ => rfl
  | it :: its, l :: ls, u :: us, h1, h2 => by
    simp only [mkDs, ZP];rw [jy (by simpa using h1) (by simpa using h2)]
theorem j4 : ∀ {its ls : List Addr} {us : List (List Value)}, its.length = ls.length -> ls.length = us.length -> (mkDs its ls us).map (fun d => Value.ref d.it) = its.map fun a => Value.ref a
  | [], [], [], _, _ => rfl
  | it :: its, l :: ls, u :: us, h1, h2 => by
    simp only [mkDs, ZL];rw [j4 (by simpa using h1) (by simpa using h2)]
theorem mf (I : Inv X pins σ H s) : ∀ {as : List Addr} {xss : List (List V)}, tf X.K H as xss -> ∃ uss : List (List Value), as.length = uss.length /\ ∀ (j : Nat) (a : Addr) (xs : List V) (us : List Value), as[j]? = some a -> xss[j]? = some xs -> uss[j]? = some us -> Vals xs us /\ SeqH s.heap a us.toArray
  | [], [], _ => ⟨[], rfl, fun j a xs us e => by simp at e⟩
  | a :: as, xs :: xss, q => by
    obtain ⟨us, r, sq⟩ := I.sqA (q.at' 0 a xs rfl rfl);obtain ⟨uss, l, f⟩ := mf I (as := as) (xss := xss) ⟨by simpa using q.len, fun j b ys e1 e2 => q.at' (j + 1) b ys (by simpa using e1) (by simpa using e2)⟩;refine ⟨us :: uss, by simp [l], fun j b ys vs e1 e2 e3 => ?_⟩
    cases j with
    | zero =>
      simp at e1 e2 e3;subst e1 e2 e3;exact ⟨r, sq⟩
    | succ j => exact f j b ys vs (by simpa using e1) (by simpa using e2) (by simpa using e3)
  | [], xs :: xss, q => by simpa using q.len
  | a :: as, [], q => by simpa using q.len
theorem zd2 (I : Inv X pins σ H s) {as : List Addr} {xss yss : List (List V)} (q : tf X.K H as xss) (q' : tf X.K H as yss) : xss = yss := by
  refine Xb fun j => ?_
  cases e1 : xss[j]? with
  | none =>
    have := List.getElem?_eq_none_iff.mp e1;exact (ZQ (by rw [<- q'.len, q.len]; exact this)).symm
  | some xs =>
    have hj := (Zc.mp e1).1;have hj1 : j < as.length := by rw [q.len]; exact hj
    have hj2 : j < yss.length := by rw [<- q'.len]; exact hj1
    rw [Zb hj2, I.sqA_inj (q.at' j _ xs (Zb hj1) e1) (q'.at' j _ _ (Zb hj1) (Zb hj2))]
theorem gy (I : Inv X pins σ H s) {z TI TO : Addr} {its ls : List Addr} (D : ai z TI TO its) (hl : its.length = ls.length) {i : Nat} (hf : ∀ b ∈ z :: TI :: TO :: its, FpOk X pins H b) (st : zer z TI TO its ls i s.heap) {xss : List (List V)} (q : tf X.K H ls xss)
    {uss : List (List Value)} (lu : ls.length = uss.length) (hu : ∀ (j : Nat) (a : Addr) (xs : List V) (us : List Value), ls[j]? = some a -> xss[j]? = some xs -> uss[j]? = some us -> Vals xs us /\ SeqH s.heap a us.toArray) :
    l6 z TI TO (mkDs its ls uss) /\ ∀ d ∈ mkDs its ls uss, DrAt s.heap d i := by
  have get : ∀ d ∈ mkDs its ls uss, ∃ (j : Nat) (it l : Addr) (u : List Value) (xs : List V), its[j]? = some it /\ ls[j]? = some l /\ uss[j]? = some u /\ xss[j]? = some xs /\ d = ⟨it, l, u.toArray⟩ := fun d hd => by
    obtain ⟨j, hj, e⟩ := Zy hd;obtain ⟨it, l, u, e1, e2, e3, e4⟩ := (va hl lu j d).mp (by rw [<- e]; exact Zb hj);have hjx : j < xss.length := by rw [<- q.len]; exact (Zc.mp e2).1
    exact ⟨j, it, l, u, _, e1, e2, e3, Zb hjx, e4⟩
  have at0 : ∀ d ∈ mkDs its ls uss, DrAt s.heap d i := fun d hd => by
    obtain ⟨j, it, l, u, xs, e1, e2, e3, e4, rfl⟩ := get d hd;exact ⟨st.2.2.2 j it l e1 e2, (hu j l xs u e2 e4 e3).2⟩
  have sq : ∀ d ∈ mkDs its ls uss, ∃ xs, SqA X.K H d.l xs := fun d hd => by
    obtain ⟨j, it, l, u, xs, e1, e2, e3, e4, rfl⟩ := get d hd;exact ⟨xs, q.at' j l xs e2 e4⟩
  have itm : ∀ d ∈ mkDs its ls uss, d.it ∈ its := fun d hd => by
    obtain ⟨j, it, l, u, xs, e1, e2, e3, e4, rfl⟩ := get d hd;exact Zi e1
  refine ⟨⟨D.TIz, D.TOz, D.TITO, fun d hd => D.iz _ (itm d hd), fun d hd => ?_, fun j k d e ej ek hjk => ?_, fun d e hd he => ?_⟩, at0⟩
  . obtain ⟨xs, q1⟩ := sq d hd
    exact ⟨I.sqA_ne q1 (hf z (by simp)), I.sqA_ne q1 (hf TO (by simp))⟩
  . obtain ⟨it, l, u, a1, _, _, rfl⟩ := (va hl lu j d).mp ej
    obtain ⟨it', l', u', a1', _, _, rfl⟩ := (va hl lu k e).mp ek;intro heq;have heq' : it = it' := heq;subst heq';obtain ⟨h1, g1⟩ := Zc.mp a1;obtain ⟨h2, g2⟩ := Zc.mp a1';exact hjk ((YK D.nd).mp (g1.trans g2.symm))
  . obtain ⟨xs, q1⟩ := sq d hd
    exact I.sqA_ne q1 (hf e.it (by simp [itm e he]))
end
theorem zeo {P : Program} {w : World} {K : Fg} {elts : List Expr} {x1 : Nat} {pos : Pos} (z TI TO : Addr) (its ls : List Addr) (D : ai z TI TO its) (hl : its.length = ls.length) (hn : its ≠ []) (h8 : its.length <= 8) :
    Turn P w K (.Tuple elts x1 pos) (ItN K ls) (z :: TI :: TO :: its) z (zer z TI TO its ls) where
  mem := by simp
  obj := fun i h st b hb => by
    obtain ⟨hz, hTI, ⟨old, hTO, _⟩, hi⟩ := st;simp only [ZK] at hb
    rcases hb with rfl | rfl | rfl | hb
    . exact ⟨_, hz, fun v q => by cases q⟩
    . exact ⟨_, hTI, fun v q => by cases q⟩
    . exact ⟨_, hTO, fun v q => by cases q⟩
    . obtain ⟨j, hj, e⟩ := Zy hb
      have hj2 : j < ls.length := by rw [<- hl]; exact hj
      rcases hi j b _ (by rw [<- e]; exact Zb hj) (Zb hj2) with ⟨o, e1, _, d1⟩ | ⟨o, e1, _, d1⟩
      . exact ⟨o, e1, fun v q => by rw [d1] at q; cases q⟩
      . exact ⟨o, e1, fun v q => by rw [d1] at q; cases q⟩
  keep := fun i h h' st k => by
    obtain ⟨hz, hTI, ⟨old, hTO, lo⟩, hi⟩ := st;refine ⟨k z (by simp) _ hz, k TI (by simp) _ hTI, ⟨old, k TO (by simp) _ hTO, lo⟩, fun j it l e1 e2 => ?_⟩;have hm : it ∈ z :: TI :: TO :: its := by simp [Zi e1]
    rcases hi j it l e1 e2 with ⟨o, a, r⟩ | ⟨o, a, r⟩
    . exact .inl ⟨o, k it hm o a, r⟩
    . exact .inr ⟨o, k it hm o a, r⟩
  item := by
    intro X hP hw hK hc i pins s σ H E I hf st hg;subst hP hw hK;obtain ⟨xss, q, hlen⟩ := hg;obtain ⟨uss, lu, hu⟩ := mf I q;obtain ⟨A, at0⟩ := gy I D hl hf st q lu hu;obtain ⟨hz, hTI, ⟨old, hTO, lo⟩, hi⟩ := id st;have dl := jy hl lu
    -- the values of this turn
    have hvs : ∃ (vs : List V) (ws : List Value), Vals vs ws /\ vs.length = xss.length /\ ws.length = xss.length /\ (∀ (j : Nat) (xs : List V), xss[j]? = some xs -> xs[i]? = vs[j]?) /\ ∀ (j : Nat) (us : List Value), uss[j]? = some us -> us[i]? = ws[j]? := by
      have go : ∀ (ys : List (List V)) (us : List (List Value)), ys.length = us.length -> (∀ xs ∈ ys, i < xs.length) -> (∀ (j : Nat) (xs : List V) (u : List Value), ys[j]? = some xs -> us[j]? = some u -> Vals xs u) ->
          ∃ (vs : List V) (ws : List Value), Vals vs ws /\ vs.length = ys.length /\ ws.length = ys.length /\ (∀ (j : Nat) (xs : List V), ys[j]? = some xs -> xs[i]? = vs[j]?) /\ ∀ (j : Nat) (u : List Value), us[j]? = some u -> u[i]? = ws[j]? := by
        intro ys
        induction ys with
        | nil =>
          intro us hl _ _
          cases us with
          | nil => exact ⟨[], [], .nil, rfl, rfl, fun j xs e => by simp at e, fun j xs e => by simp at e⟩
          | cons _ _ => simp at hl
        | cons y ys ih =>
          intro us hl h1 h2
          cases us with
          | nil => simp at hl
          | cons u us =>
            obtain ⟨vs, ws, r, l1, l2, g1, g2⟩ := ih us (by simpa using hl) (fun xs hx => h1 xs (Zv _ hx)) fun j xs v e1 e2 => h2 (j + 1) xs v (by simpa using e1) (by simpa using e2)
            have hy : i < y.length := h1 y ZA;have r0 := h2 0 y u rfl rfl;obtain ⟨x, hx, rx⟩ := r0.get (Zb hy);refine ⟨y[i] :: vs, x :: ws, .cons rx r, by simp [l1], by simp [l2], fun j xs e => ?_, fun j v e => ?_⟩
            . cases j with
              | zero =>
                simp at e;subst e;simp [hy]
              | succ j => simpa using g1 j xs (by simpa using e)
            . cases j with
              | zero =>
                simp at e;subst e
                simpa using hx
              | succ j => simpa using g2 j v (by simpa using e)
      refine go xss uss (by rw [<- q.len, lu]) hlen fun j xs u e1 e2 => ?_
      have hj : j < ls.length := by rw [lu]; exact (Zc.mp e2).1
      exact (hu j _ xs u (Zb hj) e1 e2).1
    obtain ⟨vs, ws, rvs, lv, lw, gv, gw⟩ := hvs;refine j6 (vs := ws) (old := old) A (fun e => hn (by have := congrArg List.length e; rw [dl] at this; exact Yo.mp this)) hz (by rw [j4 hl lu]; exact hTI) hTO (by rw [lw, dl, hl, q.len]) (by rw [lo, dl]) (by rw [dl]; exact h8) at0 (fun j d ed => ?_) fun h' a1 a2 a3 a4 a5 hk => ?_
    . obtain ⟨it, l, u, e1, e2, e3, rfl⟩ := (va hl lu j d).mp ed
      show u.toArray[i]? = _
      rw [List.getElem?_toArray];exact gw j u e3
    have ltT : ∀ {c o}, s.heap.get? c = some o -> c ≠ s.heap.objs.size := fun e => Zs (Heap.lt_size e)
    refine ⟨_, rfl, wpAny_letOwnedTupleGo_zip (s := { s with heap := h' }) a1 fun h'' b1 sb => ?_⟩;have hTz : s.heap.objs.size ≠ z := Ne.symm (ltT hz)
    have itz : ∀ d ∈ mkDs its ls uss, d.it ∈ its := fun d hd => by
      obtain ⟨j, hj, e⟩ := Zy hd;obtain ⟨it, l, u, e1, _, _, e4⟩ := (va hl lu j d).mp (by rw [<- e]; exact Zb hj);rw [e4];exact Zi e1
    have kk : ∀ c o, c ∉ z :: TO :: its -> s.heap.get? c = some o -> h''.get? c = some o := fun c o hc e => by
      simp only [ZK, not_or] at hc;exact sb.extBut c o hc.1 (hk c o hc.1 hc.2.1 (fun d hd z => hc.2.2 (z ▸ itz d hd)) e)
    have hf4 : ∀ b ∈ z :: TO :: its, FpOk X pins H b := fun b hb => hf b (by
      simp only [ZK] at hb ⊢
      rcases hb with h | h | h
      . exact .inl h
      . exact .inr (.inr (.inl h))
      . exact .inr (.inr (.inr h)))
    have hvl : vs.length <= sizeLine := Zd (show vs.length <= 8 by rw [lv, <- q.len, <- hl]; exact h8) (by decide)
    have I1 : Inv X pins σ (upd H s.heap.objs.size (.tup vs)) { s with heap := h'', toks := s.toks } := I.turnedLaid (ch := z :: TO :: its) hf4 (fun b o hb e => kk b o hb e) (Zm _) ⟨hvl, ws, rvs, by
        have e := sb.extBut _ _ hTz a4
        exact ⟨_, e, rfl, _, rfl, rfl⟩⟩
    refine ⟨.ref s.heap.objs.size, _, I1, rfl, ⟨s.heap.objs.size, vs, rfl, I.hok.fresh (Zm _), rfl, fun yss q' => ?_⟩, ?_, fun b hb => ?_⟩
    . rw [zd2 I q' q]
      exact ⟨lv, gv⟩
    . refine ⟨b1, sb.extBut _ _ D.TIz (hk _ _ D.TIz D.TITO (fun d hd => Ne.symm (A.iz d hd).2.1) hTI), ⟨ws, sb.extBut _ _ D.TOz a2, by rw [lw, <- q.len, hl]⟩, fun j it l e1 e2 => ?_⟩
      have hj3 : j < uss.length := by rw [<- lu]; exact (Zc.mp e2).1
      have hm : (⟨it, l, (uss[j]).toArray⟩ : Drw) ∈ mkDs its ls uss := Zi ((va hl lu j _).mpr ⟨it, l, _, e1, e2, Zb hj3, rfl⟩);have hne : it ≠ z := (A.iz _ hm).1
      rcases (a3 _ hm).1 with ⟨o, a, r⟩ | ⟨o, a, r⟩
      . exact .inl ⟨o, sb.extBut _ _ hne a, r⟩
      . exact .inr ⟨o, sb.extBut _ _ hne a, r⟩
    . have hb' := (hf b hb).1
      rw [zn ?_]
      . exact hb'
      . simp only [ZK] at hb
        rcases hb with rfl | rfl | rfl | hb
        . exact ltT hz
        . exact ltT hTI
        . exact ltT hTO
        . obtain ⟨j, hj, e⟩ := Zy hb
          have hj2 : j < ls.length := by rw [<- hl]; exact hj
          rcases hi j b _ (by rw [<- e]; exact Zb hj) (Zb hj2) with ⟨o, e1, _⟩ | ⟨o, e1, _⟩ <;> exact ltT e1
  done := by
    intro X hP hw hK hc i pins s σ H E I hf st hg;subst hP hw hK;obtain ⟨xss, q, xs, hxm, hle⟩ := hg;obtain ⟨uss, lu, hu⟩ := mf I q;obtain ⟨A, at0⟩ := gy I D hl hf st q lu hu;obtain ⟨hz, hTI, ⟨old, hTO, lo⟩, hi⟩ := id st;have dl := jy hl lu
    have itz : ∀ d ∈ mkDs its ls uss, d.it ∈ its := fun d hd => by
      obtain ⟨j, hj, e⟩ := Zy hd;obtain ⟨it, l, u, e1, _, _, e4⟩ := (va hl lu j d).mp (by rw [<- e]; exact Zb hj);rw [e4];exact Zi e1
    refine im (old := old) (I.ok.hd hc) A (fun e => hn (by have := congrArg List.length e; rw [dl] at this; exact Yo.mp this)) hz (by rw [j4 hl lu]; exact hTI) hTO (by rw [lo, dl]) (by rw [dl]; exact h8) at0 ?_ fun h' hk => ⟨rfl, ?_⟩
    . obtain ⟨j, hj, e⟩ := Zy hxm
      have ex : xss[j]? = some xs := by rw [<- e]; exact Zb hj
      have hj1 : j < ls.length := by rw [q.len]; exact hj
      have hj2 : j < its.length := by rw [hl]; exact hj1
      have hj3 : j < uss.length := by rw [<- lu]; exact hj1
      refine ⟨⟨its[j], ls[j], (uss[j]).toArray⟩, Zi ((va hl lu j _).mpr ⟨_, _, _, Zb hj2, Zb hj1, Zb hj3, rfl⟩), ?_⟩;have r := (hu j _ xs _ (Zb hj1) ex (Zb hj3)).1;have rl := r.length
      show (uss[j]).toArray[i]? = none
      rw [List.getElem?_toArray];exact ZQ (by omega)
    have nch : ∀ b u, H b = some u -> b ∉ z :: TO :: its := fun b u e q => by
      have := (hf b (by
        simp only [ZK] at q ⊢
        rcases q with h | h | h
        . exact .inl h
        . exact .inr (.inr (.inl h))
        . exact .inr (.inr (.inr h)))).1
      rw [this] at e; cases e
    have k : ∀ b o, b ∉ z :: TO :: its -> s.heap.get? b = some o -> h'.get? b = some o := fun b o hb e => by
      simp only [ZK, not_or] at hb;exact hk b o hb.1 hb.2.1 (fun d hd z => hb.2.2 (z ▸ itz d hd)) e
    have hf4 : ∀ b ∈ z :: TO :: its, FpOk X pins H b := fun b hb => hf b (by
      simp only [ZK] at hb ⊢
      rcases hb with h | h | h
      . exact .inl h
      . exact .inr (.inr (.inl h))
      . exact .inr (.inr (.inr h)))
    exact I.step (g' := s.gens) (d' := s.drawn) (t' := s.toks) (ch := z :: TO :: its) (fun b hb => by
        obtain ⟨f0, f1, f2, f3, f4, f5⟩ := hf4 b hb
        exact ⟨f3, f1, f4, f5⟩) (fun b o _ _ hc e _ => k b o hc e) (fun b o _ _ hc e _ => ⟨o.slots, k b o hc e⟩) (fun b o _ e n => n)
      (fun b o hc e => ⟨o, k b o hc e⟩) (fun b xs e => e) (fun b ob u e => e) (fun b ps e => ⟨#[], by rw [e]; simp⟩) (fun m hm => by
        obtain ⟨ob, es, ep, ho, r⟩ := hm
        exact ⟨ob, es, ep, k _ ob (fun q => (hf4 _ q).2.1 rfl) ho, r⟩) (fun b u e => (I.hok b u e).stay (fun c v hc q => k c v (by
          rcases hc with r | r
          . rw [r]; exact nch b u e
          . exact nch c _ r) q) (fun _ q => q) fun _ _ q => q) I.bare
  self := fun _ _ _ _ _ st h => wpAny_pyIter_zip st.1 h
theorem Inv.src {X : Cx} {pins : List (Addr × Obj)} {σ : St} {H : Hp} {s : Shared} (I : Inv X pins σ H s) {a : Addr} {xs : List V} (q : SqA X.K H a xs) : ∃ b us, SrcAt s.heap b a us := by
  rcases q with q | q
  . obtain ⟨us, r, pl, _⟩ := I.list q
    exact ⟨true, _, pl.isList⟩
  . obtain ⟨us, r, pl, _⟩ := I.tuple q
    exact ⟨false, _, pl⟩
def iZip2 (K : Fg) (ta : TA) : TI := fun σ H R => ta σ H fun vs H1 => ∃ a b, vs = [.ref a, .ref b] /\ (∃ xss, tf K H1 [a, b] xss) /\ R (ItN K [a, b]) H1
theorem e_zip2 {K : Fg} {ta : TA} {σ : St} {H : Hp} {R : It -> Hp -> Prop} : iZip2 K ta σ H R = ta σ H fun vs H1 => ∃ a b, vs = [.ref a, .ref b] /\ (∃ xss, tf K H1 [a, b] xss) /\ R (ItN K [a, b]) H1 := rfl
theorem Vals.three {x y z : V} {us : List Value} (r : Vals [x, y, z] us) : ∃ u v w, us = [u, v, w] /\ RelV x u /\ RelV y v /\ RelV z w := by
  cases r with
  | cons r1 r => cases r with
    | cons r2 r => cases r with
      | cons r3 r =>
        cases r;exact ⟨_, _, _, rfl, r1, r2, r3⟩
theorem zha {X : Cx} {a b : Expr} {ta : TA} {p pos tpos : Pos} {elts : List Expr} {x1 : Nat} (hg : Gl X "zip") (hm : X.mg "zip" = none) (ha : PA X [a, b] ta)
    (hs : starEach [a, b] X.env = (false, eval a X.env) :: starEach [b] X.env := by rfl) (hs2 : (backTo pos (starEach [b] X.env)).any (·.1) = false := by rfl) :
    PI X (.Tuple elts x1 tpos) (.Call (.Name "zip" p) [a, b] [] pos) (iZip2 X.K ta) := by
  intro pins s σ H R I h;refine Call_ (r6 I hg hm bt_zip (PyProof.Rows.callWith_type1 (thn (ha pos pins s σ H _ I h) fun us s1 ⟨vs, H1, I1, r1, q1⟩ => ?_) hs hs2));obtain ⟨a, b, e, ⟨xss, qa⟩, q⟩ := q1;subst e;obtain ⟨u, v, rfl, ru, rv⟩ := Vals.two r1;cases ru; cases rv
  match xss, qa with
  | [xa, xb], qa =>
  obtain ⟨k1, y1, s1'⟩ := I1.src (qa.at' 0 a xa rfl rfl);obtain ⟨k2, y2, s2'⟩ := I1.src (qa.at' 1 b xb rfl rfl);refine zb2 s1' s2' fun h' z1 z2 z3 z4 z5 kp => ?_
  refine wpAny_pyIter_zip (s := { s1 with heap := h' }) z1 ?_;have I2 : Inv X pins σ H1 { s1 with heap := h' } := I1.kept (t' := s1.toks) kp
  have D : ai (s1.heap.objs.size + 4) (s1.heap.objs.size + 2) (s1.heap.objs.size + 3) [s1.heap.objs.size, s1.heap.objs.size + 1] := by
    refine ⟨(by show (_ : Nat) ≠ _; omega), (by show (_ : Nat) ≠ _; omega), (by show (_ : Nat) ≠ _; omega), fun it hi => ?_, ?_⟩
    . simp only [ZK, Zx, or_false] at hi
      rcases hi with rfl | rfl <;> refine ⟨?_, ?_, ?_⟩ <;> (show (_ : Nat) ≠ _; omega)
    . simp
  refine ⟨s1.heap.objs.size + 4, (s1.heap.objs.size + 4) :: (s1.heap.objs.size + 2) :: (s1.heap.objs.size + 3) :: [s1.heap.objs.size, s1.heap.objs.size + 1], _, _, H1, rfl, I2, zeo _ _ _ [s1.heap.objs.size, s1.heap.objs.size + 1] [a, b] D rfl (by simp) (by simp), ⟨z1, z2, ⟨_, z3, rfl⟩, fun j it l e1 e2 => ?_⟩, fun e he => ?_, q⟩
  . match j with
    | 0 => simp at e1 e2; subst e1 e2; exact z4.1
    | 1 => simp at e1 e2; subst e1 e2; exact z5.1
    | j + 2 => simp at e1
  have hle : s1.heap.objs.size <= e := by
    simp only [ZK, Zx, or_false] at he
    rcases he with h | h | h | h | h <;> (rw [h]; omega)
  exact I1.fpOk hle (I1.hok.fresh hle)
section
variable {σ : St} {k : Nat} {g : TG} {tt : TT} {te : TE} {H1 : Hp} {Fin : List V -> Hp -> Prop}
theorem zds {K : Fg} {as : List Addr} {xss : List (List V)} {n : Nat} (Pv : Nat -> List V -> Hp -> Prop) (h0 : Pv 0 [] H1) (hn : ∀ xs ∈ xss, n <= xs.length) (he : ∃ xs ∈ xss, xs.length = n) (hz : ∀ i ys H, i <= n -> Pv i ys H -> ys.length <= sizeLine /\ tf K H as xss)
    (hs : ∀ i vs ys H T, i < n -> vs.length = xss.length -> (∀ (j : Nat) (xs : List V), xss[j]? = some xs -> xs[i]? = vs[j]?) -> H T = none -> Pv i ys H -> g (.ref T) (List.replicate k none ++ σ) (upd H T (.tup vs)) fun σ2 H2 => σ2.drop k = σ /\ tt σ2 H2 fun b H3 => if b = true then te σ2 H3 fun v H4 => Pv (i + 1) (ys ++ [v]) H4 else Pv (i + 1) ys H3)
    (hd : ∀ ys H, Pv n ys H -> Fin ys H) : rc (ItN K as) σ k g tt te H1 Fin := by
  refine ⟨fun i m ys H => m = n - i /\ i <= n /\ Pv i ys H, ⟨n, by simp, ZE _, h0⟩, ?_⟩
  rintro i m ys H ⟨rfl, hi, p⟩
  obtain ⟨q0, qa⟩ := hz i ys H hi p;refine ⟨q0, ?_⟩
  by_cases hlt : i < n
  . refine .inr ⟨⟨xss, qa, fun xs hx => Zh hlt (hn xs hx)⟩, Pv (i + 1), fun ys' H' p' => ⟨n - (i + 1), by omega, rfl, hlt, p'⟩, fun x H' y => ?_⟩
    obtain ⟨T, vs, rfl, hT, rfl, hy⟩ := y;obtain ⟨l, f⟩ := hy xss qa;exact hs i vs ys _ T hlt l f hT p
  . have e : i = n := by omega
    subst e;obtain ⟨xs, hx, el⟩ := he;exact .inl ⟨⟨xss, qa, xs, hx, by omega⟩, hd ys H p⟩
end
end L2
namespace L2
open PySem PySem.Spec PyProof.Rows
theorem dy : entryFor table "dict.update.loop" = some Builtin.«dict.update.loop» := entryFor_of_tree (by kernel_rfl)
theorem ou : plainId "dict.update.loop" = true := by decide +kernel
theorem fq : typeLookup (.type "list") "keys" = pure none := by rw [typeLookup_type, builtinLookup_eq_fast]; kernel_rfl
theorem kr {prog : Program} {w : World} {A : Around} {E : Value -> Shared -> Prop} {s : Shared} {a : Addr} {o : Obj} {xs : Array Value} {k : Nat} {Q : Option Value -> Shared -> Prop}
    (hx : s.heap.get? a = some o) (hc : o.cls = .type "list") (hdat : o.data = .seq xs k) (hd : o.dict = none) (hA : A.handled = none)
    (h : ∀ h' tk, (∀ b o, s.heap.get? b = some o -> h'.get? b = some o) -> Q none { s with heap := h', toks := tk }) :
    wpAny (model prog w) A (getAttr? (.ref a) "keys") Q E s := by
  obtain ⟨c, dct, dat, sl⟩ := o;simp only at hc hdat hd;subst hc hdat hd;obtain ⟨hp, g, d, tk, os⟩ := s;have hT : ∀ tk', (⟨hp, g, d, tk', os⟩ : Shared).TypeIs (.ref a) "list" := fun _ => ⟨_, hx, rfl⟩
  have f1 := sub_AttributeError;have f3 := F.slot_list_getattribute.lookup;have f4 := F.slot_list_getattribute.bind (.ref a);have f5 := am_list_getattr_none;unfold getAttr? getAttrBy? getAttrBy
  repeat (any_goals (first | assumption | exact hT _ | ((with_reducible show wpAny _ _ (call (Value.builtin "list.__getattribute__") _ _) _ _ _); refine call_meets F.slot_list_getattribute (hT _) am_entry_list_getattribute (F.args_list_getattribute_2 _ _) (meets_getattribute_miss_list a xs k sl "keys" _ fq (by decide) (by decide)) ⟨hx, hA, fun h' tk' e hx' => ?_⟩) | wp_step))
  obtain ⟨t', u', he⟩ := hx'.there
  show wpAny _ _ (getattributeRaised _ _ _ _ _ _ _) _ _ _
  unfold getattributeRaised
  repeat (any_goals (first | assumption | wp_step))
  exact h _ _ hx'.keeps
section
variable {prog : Program} {w : World} {K : Type} [DecidableEq K] {knd : KeyKind prog w K}
def accH (ps : List (List K × Addr × Value)) (i : Nat) : List (List K × Addr × Value) := (ps.take i).foldl (fun xs p => storedH xs p.1 p.2.1 p.2.2) []
theorem zax {G : List K -> Addr -> Prop} {xs : List (List K × Addr × Value)} {k : List K} {b : Addr} {v : Value} (h : ∀ x ∈ xs, G x.1 x.2.1) (hk : G k b) : ∀ x ∈ storedH xs k b v, G x.1 x.2.1 := by
  unfold storedH
  split
  . intro x hx
    obtain ⟨y, hy, rfl⟩ := Zp.mp hx;unfold putAt
    split
    . exact h y hy
    . exact h y hy
  . intro x hx
    rcases ZH.mp hx with hx | hx
    . exact h x hx
    . rw [ZC.mp hx]; exact hk
theorem l9 {ps : List (List K × Addr × Value)} {i : Nat} {p : List K × Addr × Value} (h : ps[i]? = some p) : accH ps (i + 1) = storedH (accH ps i) p.1 p.2.1 p.2.2 := by
  unfold accH;rw [Zq, h];simp
theorem zar (xs : List (List K × Addr × Value)) (k : List K) (b : Addr) (v : Value) : (storedH xs k b v).length <= xs.length + 1 := by
  unfold storedH
  split
  . rw [Za]; omega
  . rw [Zo]; simp
theorem cv (ps : List (List K × Addr × Value)) : ∀ i, i <= ps.length -> (accH ps i).length <= i
  | 0, _ => Zm _
  | i + 1, h => by
    have e : ps[i]? = some ps[i] := Zb h;rw [l9 e];exact Zd (zar _ _ _ _) (Xe (cv ps i (by omega)))
structure fk (knd : KeyKind prog w K) (h : Heap) (items : Array Value) (ps : List (List K × Addr × Value)) : Prop where
  len : items.size = ps.length
  at' : ∀ (i : Nat) (p : List K × Addr × Value), ps[i]? = some p -> ∃ T, items[i]? = some (.ref T) /\ h.IsTuple T #[.ref p.2.1, p.2.2] /\ (tupleKind knd).is h p.1 p.2.1
theorem isK {h h' : Heap} {ks : List K} {a : Addr} (q : (tupleKind knd).is h ks a) (k : ∀ o, h.get? a = some o -> h'.get? a = some o) : (tupleKind knd).is h' ks a := by
  obtain ⟨o, its, n, e, r⟩ := q;exact ⟨o, its, n, k o e, r⟩
theorem mt {h h' : Heap} {d : Addr} {xs : List (List K × Addr × Value)} (q : h.DictOfH (tupleKind knd) d xs) (hd : ∀ o, h.get? d = some o -> h'.get? d = some o) (hx : ∀ x ∈ xs, (tupleKind knd).is h' x.1 x.2.1) : h'.DictOfH (tupleKind knd) d xs := by
  obtain ⟨o, es, ep, ho, hc, hdat, he, _, hn⟩ := q;exact ⟨o, es, ep, hd o ho, hc, hdat, he, hx, hn⟩
theorem ze2 {A : Around} {hB : Heap} {g : Array GenState} {dr : Drawn} {os : OsState} {d it l : Addr} {items : Array Value} {ps : List (List K × Addr × Value)} {R : Result -> Shared -> Prop} (hA : A.handled = none) (hu : (tupleKind knd).room A.in1) (hl : hB.IsList l items) (hP : fk knd hB items ps) (hd : hB.objs.size <= d) (hi : hB.objs.size <= it) (hdi : d ≠ it) (hz : ps.length <= sizeLine)
    (hR : ∀ h' tk, (∀ c o, hB.get? c = some o -> h'.get? c = some o) -> h'.DictOfH (tupleKind knd) d (accH ps ps.length) -> R (.ok (.ret .none)) ⟨h', g, dr, tk, os⟩) :
    ∀ (k i : Nat) (h : Heap) (tk : Nat), ps.length - i = k -> i <= ps.length -> (∀ c o, hB.get? c = some o -> h.get? c = some o) -> h.IsListIter it l i -> h.DictOfH (tupleKind knd) d (accH ps i) -> (∀ x ∈ accH ps i, (tupleKind knd).is hB x.1 x.2.1) ->
      codeAny (model prog w) A (.builtin "dict.update.loop" ⟨[.ref d, .ref it, rawInt i, .none], []⟩) R ⟨h, g, dr, tk, os⟩ := by
  have ltB : ∀ {c o}, hB.get? c = some o -> c < hB.objs.size := fun e => Heap.lt_size e
  intro k
  induction k with
  | zero =>
    intro i h tk hk hi' kp hit hD hG;have e : i = ps.length := by omega
    subst e;refine codeAny_builtin dy ?_;rw [Around.under_plainId ou _];have hl' : h.IsList l items := hl.at fun o e => kp _ o e
    show wpAny _ A.in1 (pyNext (.ref it) >>= _) _ _ _
    refine wpAny_bind (wpAny_pyNext_list_end (s := ⟨h, g, dr, tk, os⟩) hA hit hl' (by rw [Array.getElem?_eq_none]; rw [hP.len]; exact Zm _) fun h' ext => ?_)
    replace ext : Heap.ExtBut it h h' := ext
    have kp' : ∀ c o, hB.get? c = some o -> h'.get? c = some o := fun c o e => ext c o (Zs (Zh (ltB e) hi)) (kp c o e)
    show wpAny _ _ (Builtin.Dict.addKeywords d [] >>= _) _ _ _
    exact wpAny_bind (wpAny_pure (wpAny_pure (hR h' tk kp' (mt hD (fun o e => ext d o hdi e) fun x hx => isK (hG x hx) fun o e => kp' _ o e))))
  | succ k ih =>
    intro i h tk hk hi' kp hit hD hG;have hlt : i < ps.length := by omega
    have ep : ps[i]? = some ps[i] := Zb hlt;obtain ⟨T, eT, hT, hK⟩ := hP.at' i _ ep;refine codeAny_builtin dy ?_;rw [Around.under_plainId ou _];have hl' : h.IsList l items := hl.at fun o e => kp _ o e
    show wpAny _ A.in1 (pyNext (.ref it) >>= _) _ _ _
    refine wpAny_bind (wpAny_pyNext_list_item (s := ⟨h, g, dr, tk, os⟩) hit hl' eT fun h1 hit1 sb => ?_)
    replace sb : Heap.SameBut it h h1 := sb
    have kp1 : ∀ c o, hB.get? c = some o -> h1.get? c = some o := fun c o e => sb.extBut c o (Zs (Zh (ltB e) hi)) (kp c o e)
    have hD1 : h1.DictOfH (tupleKind knd) d (accH ps i) := mt hD (fun o e => sb.extBut d o hdi e) fun x hx => isK (hG x hx) fun o e => kp1 _ o e
    obtain ⟨oT, eoT, cT, nT, dT⟩ := hT;have hTs : (⟨h1, g, dr, tk, os⟩ : Shared).TypeIs (.ref T) "tuple" := ⟨oT, kp1 _ _ eoT, cT⟩
    show wpAny _ A.in1 (holding [Value.ref T] _ >>= _) _ _ _
    refine wpAny_bind (wpAny_holding ?_);refine wpAny_bind (wpAny_tryCatch ?_);unfold Builtin.Dict.pairItems;refine wpAny_bind (wpAny_typeOf hTs ?_);rw [if_pos (by decide)];refine wpAny_bind (wpAny_seqItems (s := ⟨h1, g, dr, tk, os⟩) (kp1 _ _ eoT) dT ?_);refine wpAny_pure ?_
    show wpAny _ A.in1 (holding [Value.ref ps[i].2.1, ps[i].2.2] (dictSet d (Value.ref ps[i].2.1) ps[i].2.2)) _ _ _
    refine wpAny_holding ?_;refine wpAny_dictSet_heap (s := ⟨h1, g, dr, tk, os⟩) hu (isK hK fun o e => kp1 _ o e) hD1 (fun h2 hD2 sb2 => ?_) (Zd (cv ps i hi') (by omega))
    replace sb2 : Heap.SameBut d h1 h2 := sb2
    have kp2 : ∀ c o, hB.get? c = some o -> h2.get? c = some o := fun c o e => sb2.extBut c o (Zs (Zh (ltB e) hd)) (kp1 c o e)
    rw [<- l9 ep] at hD2;refine wpAny_pure ⟨plainId_quiet ou _, ?_⟩
    have := ih (i + 1) h2 (tk + (tupleKind knd).draws ps[i].1) (by omega) hlt kp2 (hit1.extBut sb2.extBut (Ne.symm hdi)) hD2 (by
      rw [l9 ep]
      exact zax (G := fun k b => (tupleKind knd).is hB k b) hG hK)
    exact this
theorem ig {A : Around} {E : Value -> Shared -> Prop} {s : Shared} {l : Addr} {o : Obj} {items : Array Value} {n : Nat} {ps : List (List K × Addr × Value)} {Q : Value -> Shared -> Prop} (hA : A.handled = none) (hu : A.units + 8 < cLine) (ho : s.heap.get? l = some o) (hc : o.cls = .type "list") (hdat : o.data = .seq items n) (hdn : o.dict = none) (hP : fk knd s.heap items ps) (hz : ps.length <= sizeLine)
    (h : ∀ h' tk, (∀ c o, s.heap.get? c = some o -> h'.get? c = some o) -> h'.DictOfH (tupleKind knd) s.heap.objs.size (accH ps ps.length) -> Q (.ref s.heap.objs.size) { s with heap := h', toks := tk }) :
    wpAny (model prog w) A (call (.type "dict") [.ref l]) Q E s := by
  refine callType_codes (Q₁ := fun obj s₁ => obj = .ref s.heap.objs.size /\ s₁ = { s with heap := s.heap.push { cls := .type "dict", data := .dict #[] } }) F.kt_called_dict (F.kt_typeCall_dict_1 _) F.entry_dict_init (kt_code_dict_new _ ⟨rfl, rfl⟩) ?_
  rintro obj s₁ ⟨rfl, rfl⟩
  have hnew : (s.heap.push { cls := .type "dict", data := .dict #[] }).DictOfH (tupleKind knd) s.heap.objs.size [] := Heap.DictOfH.new s.heap;have ho' : (s.heap.push { cls := .type "dict", data := .dict #[] }).get? l = some o := Heap.get?_push_of_some _ ho;refine ⟨⟨_, Heap.get?_push_size _ rfl, rfl⟩, F.args_dict_init_2 _ _, ?_⟩;unfold Builtin.«dict.__init__»;refine wpAny_bind ?_;unfold Builtin.Dict.selfAndRest;refine wpAny_bind (wpAny_notOrdered_dict ⟨_, Heap.get?_push_size _ rfl, rfl⟩ ?_)
  show wpAny _ _ (pure (s.heap.objs.size, [Value.ref l])) _ _ _
  refine wpAny_pure ?_
  show wpAny _ _ (Builtin.Dict.updateFrom "dict.__init__" s.heap.objs.size (.ref l) [] .none) _ _ _
  unfold Builtin.Dict.updateFrom;refine wpAny_bind (wpAny_typeOf ⟨_, ho', hc⟩ ?_);rw [if_pos (by decide)];refine wpAny_bind (kr ho' hc hdat hdn hA fun h1 tk1 k1 => ?_);rw [if_pos (by decide)];refine wpAny_bind (wpAny_rule ?_);have hl1 : h1.IsList l items := ⟨o, k1 _ _ ho', hc, n, hdat⟩;have hd1 : h1.get? s.heap.objs.size = some { cls := .type "dict", data := .dict #[] } := k1 _ _ (Heap.get?_push_size _ rfl);have hlt : s.heap.objs.size < h1.objs.size := Heap.lt_size hd1;refine wpAny_bind (wpAny_pyIter_list (s := ⟨h1, s.gens, s.drawn, tk1, s.os⟩) hl1 (wpAny_pure ⟨plainId_quiet ou _, ?_⟩));have kp : ∀ c o, s.heap.get? c = some o -> (h1.push { cls := .type "list_iterator", data := .fields #[.ref l, .int 0 0] }).get? c = some o := fun c o e => Heap.get?_push_of_some _ (k1 _ _ (Heap.get?_push_of_some _ e))
  refine ze2 (knd := knd) (A := A.in1) (hB := s.heap) (g := s.gens) (dr := s.drawn) (os := s.os) (l := l) (items := items) (ps := ps) hA (tupleKind_room_in1 (A := A.in1) (by show A.units + 1 + 1 < cLine; omega)) ⟨o, ho, hc, n, hdat⟩ hP (Zm _) (YQ hlt) (Zs hlt) hz
    (fun h' tk kp' hD => ⟨rfl, h h' tk kp' hD⟩) ps.length 0 _ tk1 (by omega) (ZE _) kp ⟨_, Heap.get?_push_size _ rfl, rfl, rfl⟩ (mt hnew (fun o e => Heap.get?_push_of_some _ (k1 _ _ e)) fun x hx => by cases hx) (fun x hx => by cases hx)
end
end L2
namespace L2
open PySem PySem.Spec PyProof.Rows
def px (kvs : List (List Key × V)) : List (List Key × V) := kvs.foldl (fun acc kv => putK acc kv.1 kv.2) []
structure tq (H : Hp) (Ts : List Addr) (kvs : List (List Key × V)) : Prop where
  len : Ts.length = kvs.length
  at' : ∀ (i : Nat) (T : Addr) (kv : List Key × V), Ts[i]? = some T -> kvs[i]? = some kv -> ∃ b, H T = some (.tup [.ref b, kv.2]) /\ H b = some (.tup (kv.1.map kV))
def zev (xs : List V) (H : Hp) (Q : VK) : Prop := ∃ (l : Addr) (Ts : List Addr) (kvs : List (List Key × V)), xs = [.ref l] /\ H l = some (.lst (Ts.map V.ref)) /\ tq H Ts kvs /\ ∀ p, H p = none -> Q (.ref p) (upd H p (.dT (px kvs)))
theorem zhi {xs : List V} {H : Hp} {Q : VK} : zev xs H Q = ∃ (l : Addr) (Ts : List Addr) (kvs : List (List Key × V)), xs = [.ref l] /\ H l = some (.lst (Ts.map V.ref)) /\ tq H Ts kvs /\ ∀ p, H p = none -> Q (.ref p) (upd H p (.dT (px kvs))) := rfl
section
variable {X : Cx} {pins : List (Addr × Obj)} {σ : St} {H : Hp} {s : Shared}
theorem af (I : Inv X pins σ H s) : ∀ {Ts : List Addr} {kvs : List (List Key × V)} {us : List Value}, tq H Ts kvs -> Vals (Ts.map V.ref) us -> ∃ ps : List (List Key × Addr × Value), fk (z7 X.prog X.w) s.heap us.toArray ps /\ KT H kvs ps
  | [], [], us, q, r => by
    cases r;exact ⟨[], ⟨rfl, fun i p e => by simp at e⟩, .nil⟩
  | T :: Ts, kv :: kvs, us, q, r => by
    rw [ZL] at r
    cases r with
    | @cons _ u _ us r0 r1 =>
      obtain ⟨ps, P, k⟩ := af I (Ts := Ts) (kvs := kvs) ⟨by simpa using q.len, fun i T kv e1 e2 => q.at' (i + 1) T kv (by simpa using e1) (by simpa using e2)⟩ r1;obtain ⟨b, hT, hb⟩ := q.at' 0 T kv rfl rfl;obtain ⟨z, its, rr, hI⟩ := (show ObjOk X.prog X.w H s.heap T (.tup [.ref b, kv.2]) from I.hok T _ hT);obtain ⟨u1, u2, rfl, ru1, ru2⟩ := Vals.two rr;obtain rfl : u1 = Value.ref b := ru1;obtain rfl : u = Value.ref T := r0;refine ⟨(kv.1, b, u2) :: ps, ⟨by simp [<- P.len], fun i p e => ?_⟩, .cons ⟨rfl, hb, ru2⟩ k⟩
      cases i with
      | zero =>
        simp at e;subst e;obtain ⟨o, e1, c1, n1, d1, _⟩ := hI;exact ⟨T, by simp, ⟨o, e1, c1, n1, d1⟩, qb I.hok hb⟩
      | succ i =>
        obtain ⟨T', a1, a2, a3⟩ := P.at' i p (by simpa using e);exact ⟨T', by simpa using a1, a2, a3⟩
  | [], kv :: kvs, us, q, r => by simpa using q.len
  | T :: Ts, [], us, q, r => by simpa using q.len
theorem kt_acc {kvs : List (List Key × V)} {ps : List (List Key × Addr × Value)} (k : KT H kvs ps) : KT H (px kvs) (accH ps ps.length) := by
  have go : ∀ (l : List (List Key × V)) (m : List (List Key × Addr × Value)) (a : List (List Key × V)) (b : List (List Key × Addr × Value)), KT H l m -> KT H a b -> KT H (l.foldl (fun acc kv => putK acc kv.1 kv.2) a) (m.foldl (fun xs p => storedH xs p.1 p.2.1 p.2.2) b) := by
    intro l m a b q
    induction q generalizing a b with
    | nil => intro z; exact z
    | @cons p q ps qs h t ih =>
      intro z;obtain ⟨h1, h2, h3⟩ := h;refine ih _ _ ?_
      show KT H (putK a p.1 p.2) (storedH b q.1 q.2.1 q.2.2)
      rw [<- h1];exact z.put p.1 h2 h3
  unfold accH;rw [Zt];exact go _ _ _ _ k .nil
theorem zca (kvs : List (List Key × V)) : (px kvs).length <= kvs.length := by
  have go : ∀ (l a : List (List Key × V)), (l.foldl (fun acc kv => putK acc kv.1 kv.2) a).length <= a.length + l.length := by
    intro l
    induction l with
    | nil => intro a; exact Zm _
    | cons p l ih =>
      intro a;have h1 := ih (putK a p.1 p.2);have h2 := x5 a p.1 p.2;simp only [Xi, ZP];omega
  have := go kvs []
  simpa [px] using this
theorem zde {kvs : List (List Key × V)} (h : (kvs.map (·.1)).Nodup) : px kvs = kvs := by
  have go : ∀ (l a : List (List Key × V)), ((a ++ l).map (·.1)).Nodup -> l.foldl (fun acc kv => putK acc kv.1 kv.2) a = a ++ l := by
    intro l
    induction l with
    | nil => intro a _; simp
    | cons p l ih =>
      intro a hn
      have hno : valV a p.1 = none := by
        cases e : valV a p.1 with
        | none => rfl
        | some v =>
          exfalso
          have hm := ku e;rw [Zn, YI] at hn;exact hn.2.2 _ hm _ (by simp) rfl
      rw [Xi, m7 _ hno, ih _ (by simpa using hn)];simp
  exact go kvs [] (by simpa using h)
theorem gh (hc : X.calm = true) (hu : X.A.units + 8 < cLine) : CallR X (.type "dict") zev := by
  intro pins s σ H xs us Q I r h;obtain ⟨l, Ts, kvs, rfl, hl, hP, q⟩ := h;obtain ⟨u, rfl, ru⟩ := ua r;obtain rfl : u = Value.ref l := ru;obtain ⟨its, rv, pl, hz⟩ := I.list (SqL.of hl);obtain ⟨ps, P, k⟩ := af I hP rv;obtain ⟨o, n, e, c, d, dat⟩ := id pl;have hps : ps.length = kvs.length := (Paired.length k).symm;have hkl : kvs.length <= sizeLine := by rw [Za, hP.len] at hz; exact hz
  refine ig (knd := z7 X.prog X.w) (I.ok.hd hc) hu e c dat d P (by omega) fun h' tk kp hD => ?_
  have hn : H s.heap.objs.size = none := I.hok.fresh (Zm _);refine ⟨.ref s.heap.objs.size, upd H s.heap.objs.size (.dT (px kvs)), I.laid (t' := tk) (fun b u e => kp b u e) (Zm _) ?_, rfl, q _ hn⟩;obtain ⟨ob, es, ep, g1, g2, g3, g4, _, g6⟩ := hD;have hb := I.big;refine ⟨Zd (zca kvs) hkl, ?_, accH ps ps.length, (kt_acc k).keeps fun b ys e => ?_, ob, es, ep, g1, g2, g3, g4, g6⟩
  . exact beq_eq_false_iff_ne.mpr (Yl hb)
  . rw [zn (fun z => by rw [z, hn] at e; cases e)]
    exact e
end
end L2
namespace L2
open PySem
theorem hu11 {A : Around} {k : Nat} (hr : Room k A) : A.units + 8 < cLine := by have := hu9 hr; omega
end L2
namespace L2
open PySem PySem.Spec PyProof.Rows
section
variable {X : Cx} {pins : List (Addr × Obj)} {σ : St} {H : Hp} {k : Nat} {f : Addr} {fd : FuncData} {ps : List Str} {sp : Sp}
theorem zem (kf : Nat -> Int) {l I0 S : Addr} {xs : List V} {R : Result -> Shared -> Prop} (hc : X.calm = true) (F : FnOk X.prog X.w X.K X.mg X.base CX0 k f fd ps sp) (hb : Binds X.K fd ps []) (hr : Room k X.A.in1)
    (hlI : l ≠ I0) (hlS : l ≠ S) (hSI : S ≠ I0) (hl : SqL X.K H l xs) (fS : FpOk X pins H S) (fI : FpOk X pins H I0)
    (turn : ∀ i x, xs[i]? = some x -> sp [x] H (fun v H' => v = .int (kf i) /\ H' = H) E0)
    (hR : ∀ i x u s', xs[i]? = some x -> RelV x u -> (∀ j, j < xs.length -> kf j <= kf i /\ (j < i -> kf j < kf i)) -> Inv X pins σ H s' -> R (.ok (.ret u)) s') :
    ∀ (r j i : Nat) (s : Shared) (x : V) (vb : Value) (tb : Tok) (c : Nat), xs.length - (j + 1) = r -> j + 1 <= xs.length -> Inv X pins σ H s -> s.heap.get? S = some (seqObj "list" #[vb, .int (kf i) tb] c) ->
      s.heap.IsListIter I0 l (j + 1) -> xs[i]? = some x -> RelV x vb -> i <= j -> (∀ j', j' <= j -> kf j' <= kf i /\ (j' < i -> kf j' < kf i)) ->
      codeAny (model X.prog X.w) X.A (.builtin "max.loop" ⟨[.ref I0, .ref f, .ref S], []⟩) R s := by
  have hname : (toString "max" ++ toString ".loop" : String) = "max.loop" := by decide
  intro r
  induction r with
  | zero =>
    intro j i s x vb tb c hr' hj I hS hit hx rx hij hbest;have hin : j + 1 = xs.length := by omega
    obtain ⟨its, rv, pl, hz⟩ := I.list hl;have hlen := rv.length;have W := Walks.list (prog := X.prog) (w := X.w) (A := X.A.in1) (I.ok.hd hc) I0 l hlI its.toArray;refine codeAny_builtin PySem.F.entry_max_loop ?_;rw [Around.under_plainId PySem.F.plain_max_loop _]
    show wpAny _ X.A.in1 (seqItems? (.ref S) >>= _) _ _ _
    refine wpAny_bind (wpAny_seqItems hS rfl ?_)
    show wpAny _ X.A.in1 (tryCatch (pyNext (.ref I0)) _ >>= _) _ _ _
    refine wpAny_bind (wpAny_tryCatch (W.done _ _ _ ⟨by rw [Zr, <- hlen, <- hin]; exact hit, pl.isList⟩ fun h' tk' hk' => ?_));have I1 : Inv X pins σ H { s with heap := h', toks := tk' } := I.turned1 fI fun b o hb e => hk' b o (by simpa using hb) e
    have hS' := hk' S _ (by simpa using hSI) hS;have s1 := Heap.SameBut.update h' S (Obj.mapSeq fun _ => (#[] : Array Value))
    show wpAny _ X.A.in1 (updateSeq S (fun _ => #[]) >>= _) _ _ _
    refine wpAny_bind ?_;refine wpAny_updateSeq hS' rfl (wpAny_bind (wpAny_letGo (wpAny_pure ?_)));exact hR i x vb _ hx rx (fun j' hj' => hbest j' (by omega)) (I1.turned1 (t' := tk') fS fun b o hb e => (s1.2 b hb).trans e)
  | succ r ih =>
    intro j i s x vb tb c hr' hj I hS hit hx rx hij hbest;have hlt : j + 1 < xs.length := by omega
    obtain ⟨its, rv, pl, hz⟩ := I.list hl;have hlen := rv.length;have W := Walks.list (prog := X.prog) (w := X.w) (A := X.A.in1) (I.ok.hd hc) I0 l hlI its.toArray;refine codeAny_builtin PySem.F.entry_max_loop ?_;rw [Around.under_plainId PySem.F.plain_max_loop _]
    show wpAny _ X.A.in1 (seqItems? (.ref S) >>= _) _ _ _
    refine wpAny_bind (wpAny_seqItems hS rfl ?_)
    show wpAny _ X.A.in1 (tryCatch (pyNext (.ref I0)) _ >>= _) _ _ _
    refine wpAny_bind (wpAny_tryCatch (W.item (j + 1) _ _ _ (by rw [Zr, <- hlen]; exact hlt) ⟨hit, pl.isList⟩ fun v h' tk' hP hst' hk' => ?_));have hv : its[j + 1]? = some v := by simpa using hP
    have ey : xs[j + 1]? = some xs[j + 1] := by simp [hlt]
    obtain ⟨v', hv', ry⟩ := rv.get ey;rw [hv] at hv';cases hv';have I1 : Inv X pins σ H { s with heap := h', toks := tk' } := I.turned1 fI fun b o hb e => hk' b o (by simpa using hb) e
    have hS' := hk' S _ (by simpa using hSI) hS;obtain ⟨oI', hoI', hoc, hod⟩ := id hst'.1
    show wpAny _ X.A.in1 (tryCatch (holding [v] (call (.ref f) [v])) _ >>= _) _ _ _
    refine wpAny_bind (wpAny_tryCatch (wpAny_holding (a8 (fp := [S, I0]) F hb hr I1 (fun b hb => ?_) (fun b hb => ?_) ry (turn (j + 1) _ ey) fun t2 s2 I2 kp => ?_)))
    . simp only [ZK, Zx, or_false] at hb
      rcases hb with rfl | rfl
      . exact fS
      . exact fI
    . simp only [ZK, Zx, or_false] at hb
      rcases hb with rfl | rfl
      . exact ⟨_, hS', fun v q => by cases q⟩
      . exact ⟨oI', hoI', fun v q => by rw [hod] at q; cases q⟩
    have nS2 := kp S (by simp) _ hS';have nI2 := kp I0 (by simp) _ hoI';have hit2 : s2.heap.IsListIter I0 l (j + 1 + 1) := ⟨oI', nI2, hoc, hod⟩
    show wpAny _ X.A.in1 (tryCatch (holding [v, .int (kf (j + 1)) t2] (richCompare .Gt (.int (kf (j + 1)) t2) (.int (kf i) tb) >>= _)) _ >>= _) _ _ _
    refine wpAny_bind (wpAny_tryCatch (wpAny_holding (wpAny_bind (CmpOf.ints_gt (prog := X.prog) (w := X.w) (A := X.A.in1) (P := fun i v => ∃ t, v = .int (kf i) t) kf (fun i v h => h) (j + 1) i _ _ _ _ _ ⟨t2, rfl⟩ ⟨tb, rfl⟩ ?_))));refine wpAny_bind (wpAny_holding (wpAny_truthy_bool ?_));refine wpAny_bind (wpAny_letGo (wpAny_pure ?_))
    by_cases hb' : kf (j + 1) > kf i
    . have s1 := Heap.SameBut.update s2.heap S (Obj.mapSeq fun _ => #[v, .int (kf (j + 1)) t2])
      obtain ⟨c2, hc2⟩ : ∃ c2, (s2.heap.update S (Obj.mapSeq fun _ => #[v, .int (kf (j + 1)) t2])).get? S = some (seqObj "list" #[v, .int (kf (j + 1)) t2] c2) := ⟨_, get?_update_seq nS2 fun _ => #[v, .int (kf (j + 1)) t2]⟩;simp only [hb', decide_true, if_true];refine wpAny_bind ?_;refine wpAny_updateSeq nS2 rfl (wpAny_bind (wpAny_letGo ?_));rw [hname];refine wpAny_pure ⟨plainId_quiet PySem.F.plain_max_loop _, ih (j + 1) (j + 1) _ _ v t2 c2 (by omega) hlt (I2.turned1 (t' := s2.toks) fS fun b o hb e => (s1.2 b hb).trans e) hc2 ⟨oI', (s1.2 I0 hSI.symm).trans nI2, hoc, hod⟩ ey ry (Zm _) fun j' hj' => ?_⟩
      by_cases e : j' = j + 1
      . subst e
        exact ⟨by omega, fun _ => by omega⟩
      . have hb1 := hbest j' (by omega)
        have hb2 := hb1.1;exact ⟨by omega, fun _ => by omega⟩
    . simp only [hb', decide_false, Bool.false_eq_true, if_false]
      refine wpAny_bind (wpAny_letGo ?_);rw [hname];refine wpAny_pure ⟨plainId_quiet PySem.F.plain_max_loop _, ih (j + 1) i s2 x vb tb c (by omega) hlt I2 nS2 hit2 hx rx (by omega) fun j' hj' => ?_⟩
      by_cases e : j' = j + 1
      . subst e
        exact ⟨by omega, fun _ => by omega⟩
      . exact hbest j' (by omega)
theorem zfr (kf : Nat -> Int) {s : Shared} {l : Addr} {xs : List V} {Q : VK} {E : Value -> Shared -> Prop} (hc : X.calm = true) (F : FnOk X.prog X.w X.K X.mg X.base CX0 k f fd ps sp) (hb : Binds X.K fd ps []) (hr : Room k X.A.in1)
    (I : Inv X pins σ H s) (hl : SqL X.K H l xs) (hne : 0 < xs.length)
    (turn : ∀ i x, xs[i]? = some x -> sp [x] H (fun v H' => v = .int (kf i) /\ H' = H) E0)
    (hQ : ∀ i x, xs[i]? = some x -> (∀ j, j < xs.length -> kf j <= kf i /\ (j < i -> kf j < kf i)) -> Q x H) :
    wpAny (model X.prog X.w) X.A (call (.builtin "max") [.ref l] [(Str.ofString "key", .ref f)]) (EP X pins σ Q) E s := by
  have hname : (toString "max" ++ toString ".loop" : String) = "max.loop" := by decide
  obtain ⟨its, rv, pl, hz⟩ := I.list hl;have hlen := rv.length;have hls := pl.isList;obtain ⟨ol, hol, _⟩ := id hls;have hll : l < s.heap.objs.size := Heap.lt_size hol;refine kmk_tree PySem.F.kind_max PySem.F.plain_max PySem.F.entry_max (kmk_max_key _ _) ?_
  show wpAny _ X.A.in1 (Builtin.Builtins.bindParams "max" ["key", "default"] 0 ⟨[], [(Str.ofString "key", .ref f)]⟩ >>= _) _ _ s
  refine wpAny_bind (wpAny_of_eq (show Builtin.Builtins.bindParams "max" ["key", "default"] 0 ⟨[], [(Str.ofString "key", .ref f)]⟩ = pure [some (.ref f), none] from rfl) ?_);refine wpAny_bind (wpAny_pure ?_);refine wpAny_bind (wpAny_pyIter_list hls ?_);refine wpAny_bind (wpAny_newList ?_ (ZE _));rw [hname];generalize hP : s.heap.push { cls := .type "list_iterator", data := .fields #[.ref l, .int 0 0] } = HP;have hS : HP.objs.size = s.heap.objs.size + 1 := by rw [<- hP]; exact size_push' ..
  have hlI : l ≠ s.heap.objs.size := Zs hll;have hSI : HP.objs.size ≠ s.heap.objs.size := by rw [hS]; exact Yl (Yt _)
  have hlS : l ≠ HP.objs.size := by rw [hS]; exact Zs (YH hll)
  refine wpAny_pure ⟨plainId_quiet PySem.F.plain_max_loop _, ?_⟩;have old : ∀ b o, s.heap.get? b = some o -> (HP.push (seqObj "list" #[] 0)).get? b = some o := fun b o e => Heap.get?_push_of_some _ (by rw [<- hP]; exact Heap.get?_push_of_some _ e)
  have I0 : Inv X pins σ H { s with heap := HP.push (seqObj "list" #[] 0), toks := s.toks } := I.kept old
  have gI : (HP.push (seqObj "list" #[] 0)).get? s.heap.objs.size = some { cls := .type "list_iterator", data := .fields #[.ref l, .int 0 0] } :=
    Heap.get?_push_of_some _ (by rw [<- hP]; exact Heap.get?_push_size _ rfl)
  have gS : (HP.push (seqObj "list" #[] 0)).get? HP.objs.size = some (seqObj "list" #[] 0) := Heap.get?_push_size _ rfl;have fI : FpOk X pins H s.heap.objs.size := I.fpOk (Zm _) (I.hok.fresh (Zm _));have fS : FpOk X pins H HP.objs.size := I.fpOk (by rw [hS]; exact YW _) (I.hok.fresh (by rw [hS]; exact YW _));have W := Walks.list (prog := X.prog) (w := X.w) (A := X.A.in1) (I.ok.hd hc) s.heap.objs.size l hlI its.toArray;refine codeAny_builtin PySem.F.entry_max_loop ?_;rw [Around.under_plainId PySem.F.plain_max_loop _]
  show wpAny _ X.A.in1 (seqItems? (.ref _) >>= _) _ _ _
  refine wpAny_bind (wpAny_seqItems gS rfl ?_)
  show wpAny _ X.A.in1 (tryCatch (pyNext (.ref s.heap.objs.size)) _ >>= _) _ _ _
  have hlist : (HP.push (seqObj "list" #[] 0)).IsList l its.toArray := by
    obtain ⟨o, e, r⟩ := hls;exact ⟨o, old l o e, r⟩
  refine wpAny_bind (wpAny_tryCatch (W.item 0 _ _ _ (by rw [Zr, <- hlen]; exact hne) ⟨⟨_, gI, rfl, rfl⟩, hlist⟩ fun v h' tk' hP' hst' hk' => ?_));have hv : its[0]? = some v := by simpa using hP'
  have ey : xs[0]? = some xs[0] := by simp [hne]
  obtain ⟨v', hv', ry⟩ := rv.get ey;rw [hv] at hv';cases hv';have I1 : Inv X pins σ H { s with heap := h', toks := tk' } := I0.turned1 fI fun b o hb e => hk' b o (by simpa using hb) e
  have hS' := hk' HP.objs.size _ (by simpa using hSI) gS;obtain ⟨oI', hoI', hoc, hod⟩ := id hst'.1
  show wpAny _ X.A.in1 (tryCatch (holding [v] (call (.ref f) [v])) _ >>= _) _ _ _
  refine wpAny_bind (wpAny_tryCatch (wpAny_holding (a8 (fp := [HP.objs.size, s.heap.objs.size]) F hb hr I1 (fun b hb => ?_) (fun b hb => ?_) ry (turn 0 _ ey) fun t2 s2 I2 kp => ?_)))
  . simp only [ZK, Zx, or_false] at hb
    rcases hb with rfl | rfl
    . exact fS
    . exact fI
  . simp only [ZK, Zx, or_false] at hb
    rcases hb with rfl | rfl
    . exact ⟨_, hS', fun v q => by cases q⟩
    . exact ⟨oI', hoI', fun v q => by rw [hod] at q; cases q⟩
  have nS2 := kp HP.objs.size (by simp) _ hS';have nI2 := kp s.heap.objs.size (by simp) _ hoI';have s1 := Heap.SameBut.update s2.heap HP.objs.size (Obj.mapSeq fun _ => #[v, .int (kf 0) t2]);obtain ⟨c2, hc2⟩ : ∃ c2, (s2.heap.update HP.objs.size (Obj.mapSeq fun _ => #[v, .int (kf 0) t2])).get? HP.objs.size = some (seqObj "list" #[v, .int (kf 0) t2] c2) := ⟨_, get?_update_seq nS2 fun _ => #[v, .int (kf 0) t2]⟩
  show wpAny _ X.A.in1 (updateSeq HP.objs.size (fun _ => #[v, .int (kf 0) t2]) >>= _) _ _ _
  refine wpAny_bind ?_;refine wpAny_updateSeq nS2 rfl ?_;rw [hname];refine wpAny_pure ⟨plainId_quiet PySem.F.plain_max_loop _, zem kf hc F hb hr hlI hlS hSI hl fS fI turn (fun i x u s' h1 h2 h3 h4 => ⟨x, H, h4, h2, hQ i x h1 h3⟩) _ 0 0 _ _ v t2 c2 rfl hne (I2.turned1 (t' := s2.toks) fS fun b o hb e => (s1.2 b hb).trans e) hc2 ⟨oI', (s1.2 _ hSI.symm).trans nI2, hoc, hod⟩ ey ry (Zm _) fun j' hj' => ?_⟩;have e : j' = 0 := by omega
  subst e;exact ⟨by omega, fun _ => by omega⟩
def tMaxK (K : Fg) (sp : Sp) (ta : TA) : TE := fun σ H Q => ta σ H fun vs H1 => ∃ (l : Addr) (xs : List V) (kf : Nat -> Int), vs = [.ref l] /\ SqL K H1 l xs /\ 0 < xs.length /\
  (∀ i x, xs[i]? = some x -> sp [x] H1 (fun v H' => v = .int (kf i) /\ H' = H1) E0) /\ ∀ i x, xs[i]? = some x -> (∀ j, j < xs.length -> kf j <= kf i /\ (j < i -> kf j < kf i)) -> Q x H1
theorem e_maxK {K : Fg} {ta : TA} {Q : VK} : tMaxK K sp ta σ H Q = ta σ H fun vs H1 => ∃ (l : Addr) (xs : List V) (kf : Nat -> Int), vs = [.ref l] /\ SqL K H1 l xs /\ 0 < xs.length /\
  (∀ i x, xs[i]? = some x -> sp [x] H1 (fun v H' => v = .int (kf i) /\ H' = H1) E0) /\ ∀ i x, xs[i]? = some x -> (∀ j, j < xs.length -> kf j <= kf i /\ (j < i -> kf j < kf i)) -> Q x H1 := rfl
theorem zia {y : Str} {e : Expr} {t : TA} {p p2 pos kpos : Pos} (F : FnAt X.prog X.w X.K X.mg X.base y k ps sp) (hr : Room (k + 1) X.A) (hc : X.calm = true) (hgm : Gl X "max") (hm : X.mg "max" = none) (hg : Gl X y) (ha : PA X [e] t)
    (hdb : (y == ("__debug__" : Str)) = false := by decide)
    (he : backTo pos (starEach [e] X.env) = (false, eval e X.env) :: backTo pos (starEach [] X.env) := by rfl) (hpl : (backTo pos (starEach [e] X.env)).any (·.1) = false := by rfl) :
    PE X (.Call (.Name "max" p) [e] [⟨some (Str.ofString "key"), .Name y p2, kpos⟩] pos) (tMaxK X.K sp t) := by
  intro pins s σ H Q I h;obtain ⟨f, fd, hmy, hk, hb, G⟩ := F.ex;refine wpAny_Call_Name_kw (r6 I hgm hm zdx ?_);refine PyProof.Rows.callWith_kw (thn (ha pos pins s σ H _ I h) fun us s1 ⟨vs, H1, I1, r1, q1⟩ => ?_) he hpl rfl rfl;obtain ⟨l, xs, kf, ev, hl, hne, turn, q⟩ := q1;subst ev;obtain ⟨u, rfl, ru⟩ := Vals.one r1;cases ru;refine thn ((zhl (nm := some (Str.ofString "key")) (kpos := kpos) (wv (v := .ref f) hg hmy rfl hdb) pk_nil) pos pins s1 σ H1 (fun zs H2 => zs = [.ref f] /\ H2 = H1) I1 ⟨rfl, rfl⟩) fun ws s2 ⟨zs, H2, I2, rz, ez, eh⟩ => ?_
  subst ez eh;obtain ⟨w1, rfl, rw1⟩ := Vals.one rz;cases rw1;exact zfr kf hc G hb hr.in1 I2 hl hne turn q
end
end L2
namespace L2
open PySem PySem.Spec PyProof.Rows
section
variable {X : Cx}
theorem zbn {κ : Type} [DecidableEq κ] : ∀ {kvs : List (κ × V)} {k : κ} {v : V}, (kvs.map (·.1)).Nodup -> (k, v) ∈ kvs -> valV kvs k = some v
  | [], _, _, _, h => by cases h
  | p :: r, k, v, hn, h => by
    rw [ZL, ZO] at hn
    rcases ZK.mp h with e | h
    . subst e
      exact xj rfl
    . have hne : ¬ p.1 = k := fun e => hn.1 (by rw [e]; exact Zp.mpr ⟨(k, v), h, rfl⟩)
      rw [y8 hne];exact zbn hn.2 h
end
end L2
namespace L2
open PySem PySem.Spec PyProof.Rows
section
variable {X : Cx}
end
end L2
namespace L2
open PySem PySem.Spec PyProof.Rows
section
variable {X : Cx} {pins : List (Addr × Obj)} {σ : St} {H2 : Hp} {s₂ : Shared} {scope : Scope} {ts N2 : List Str} {cl : List (Str × Addr)} {C D : Addr} {fp : List Addr}
end
end L2
namespace L2
open PySem PySem.Spec PyProof.Rows
end L2
namespace L2
open PySem PySem.Spec PyProof.Rows
section
variable {X : Cx}
end
end L2
namespace L2
open PySem PySem.Spec PyProof.Rows
section
variable {M : Model} {A : Around} {E : Value -> Shared -> Prop} {s : Shared}
end
section
variable {X : Cx} {pins : List (Addr × Obj)} {σ : St} {H : Hp} {s : Shared}
end
section
variable {X : Cx} {pins : List (Addr × Obj)} {σ : St} {H2 : Hp} {s₂ : Shared} {scope : Scope} {ts N2 : List Str} {cl : List (Str × Addr)} {C D : Addr} {fp : List Addr}
end
end L2
namespace L2
open PySem PySem.Spec PyProof.Rows
section
variable {X : Cx}
end
end L2
namespace L2
open PySem PySem.Spec PyProof.Rows
end L2
namespace L2
open PySem PySem.Spec PyProof.Rows
def TupIn (K : Fg) (mg : Str -> Option Value) (name : Str) (xs : List V) : Prop := ∃ p, mg name = some (.ref p) /\ ∀ H, SqT K H p xs
theorem tup_mk {K : Fg} {h : Heap} {mg : Str -> Option Value} (X : K.In h) (G : h.Ns mainGlobals mg) {name : Str} {p : Addr} {od : Option Addr} {its : Array Value} {n : Nat} {osl : Array (Option Value)} {xs : List V} (e : PySem.W.nsIn K mainGlobals name = some (some (.ref p))) (l : K.lookup p = some ⟨.type "tuple", od, .seq its n, osl⟩) (hz : its.size <= sizeLine) (r : Vals xs its.toList) : TupIn K mg name xs :=
  ⟨p, PySem.W.mg_of X G e, fun H => .inr ⟨_, its, n, l, rfl, rfl, hz, r⟩⟩
end L2
namespace L2
open PySem PySem.Spec PyProof.Rows
section
variable {X : Cx}
end
section
variable {a b c d t e u : TS} {tc : TT} {D : Ends} {σ : L2.St} {H : Hp}
theorem hide1 (h : ∀ T : TS, T = t -> tSeq a T D σ H) : tSeq a t D σ H := h t rfl
theorem hide2 (h : ∀ T : TS, T = t -> tSeq a (tSeq b T) D σ H) : tSeq a (tSeq b t) D σ H := h t rfl
theorem zcm (h : ∀ T : TS, T = t -> tSeq a (tSeq b (tSeq c (tSeq d T))) D σ H) : tSeq a (tSeq b (tSeq c (tSeq d t))) D σ H := h t rfl
end
end L2
namespace L2
open PySem PySem.Spec PyProof.Rows
section
variable {P : Program} {w : World} {A : Around} {E : Value -> Shared -> Prop} {s : Shared}
def RawAt (h : Heap) (d : Addr) (es : Array DictEntry) (ep : Nat) : Prop := ∃ o, h.get? d = some o /\ o.ExactDict /\ o.data = .dict es ep
theorem RawAt.ty {d : Addr} {es : Array DictEntry} {ep : Nat} (x : RawAt s.heap d es ep) : s.TypeIs (.ref d) "dict" := let ⟨o, ho, hc, _⟩ := x; ⟨o, ho, hc.1⟩
theorem RawAt.mv {h h' : Heap} {d : Addr} {es : Array DictEntry} {ep : Nat} (x : RawAt h d es ep) (k : ∀ o, h.get? d = some o -> h'.get? d = some o) : RawAt h' d es ep := let ⟨o, ho, r⟩ := x; ⟨o, k _ ho, r⟩
theorem zgo {d : Addr} {es : Array DictEntry} {ep : Nat} {Q : Value -> Shared -> Prop} (hd : (d == sysModules) = false) (hm : RawAt s.heap d es ep)
    (hQ : Q (.ref s.heap.objs.size) { s with heap := s.heap.push { cls := .type "dict_keyiterator", data := .fields #[.ref d, .int 0 0, .int es.size 0, .int ep 0] } }) :
    wpAny (model P w) A (pyIter (.ref d)) Q E s := by
  obtain ⟨o, ho, hc, hdat⟩ := id hm;refine wpAny_pyIter_slot hm.ty F.slot_dict_iter (wpAny_call_entry F.slot_dict_iter hm.ty F.entry_dict_iter ?_ (F.args_dict_iter_1 _));unfold Builtin.«dict.__iter__»;refine wpAny_bind ?_;unfold Builtin.Dict.dictSlotNone;refine wpAny_bind (wpAny_notOrdered_dict hm.ty ?_)
  show wpAny _ _ (pure (Value.ref d)) _ _ s
  refine wpAny_pure ?_
  show wpAny _ _ (Builtin.Dict.showsAll d >>= _) _ _ s
  unfold Builtin.Dict.showsAll;rw [if_neg (by rw [hd]; exact Bool.false_ne_true)];refine wpAny_bind (wpAny_pure (wpAny_bind (wpAny_dictEntries ho hdat (wpAny_bind (wpAny_dictEpoch ho hdat ?_)))));refine wpAny_bind (wpAny_newObj_type (wpAny_pure ⟨_, rfl, "dict_keyiterator", _, ⟨_, Heap.get?_push_size _ rfl, rfl⟩, F.slot_dict_keyiterator_next.lookup, ?_⟩))
  simpa [rawInt] using hQ
theorem zf1 {it d : Addr} {i ep : Nat} {es : Array DictEntry} {Q : Option Value -> Shared -> Prop} (hit : s.heap.IsKeyIter it d i es.size ep) (hm : RawAt s.heap d es ep) (hi : i < es.size)
    (hQ : ∀ h', h'.IsKeyIter it d (i + 1) es.size ep -> Heap.SameBut it s.heap h' -> Q (some es[i].key) { s with heap := h' }) : wpAny (model P w) A (pyNext (.ref it)) Q E s := by
  obtain ⟨o, ho, hc, hd⟩ := id hit;obtain ⟨od, hod, hcd, hdd⟩ := id hm;have hown : Builtin.Dict_items.ownsTuple "dict_keyiterator" = false := by decide
  unfold pyNext
  refine wpAny_bind (wpAny_attempt (wpAny_callSpecial?_slot (name := Str.ofString "__next__") hit.typeIs F.slot_dict_keyiterator_next
    (wpAny_call_entry F.slot_dict_keyiterator_next hit.typeIs F.entry_dict_keyiterator_next ?_ (F.args_dict_keyiterator_next_1 _))))
  refine wpAny_bind (wpAny_pure (wpAny_bind (wpAny_bind ?_)))
  first | refine wpAny_bind (wpAny_typeNameOfWhole_keyiter hit.typeIs (wpAny_pure ?_)) | refine wpAny_bind (wpAny_typeNameOf_keyiter hit.typeIs (wpAny_pure ?_))
  refine wpAny_bind (wpAny_fieldsOf ho hd ?_);simp only [hown, Bool.false_eq_true, if_false]
  show wpAny _ _ (if (Value.ref d == Value.none) = true then _ else _) _ _ s
  rw [if_neg (show ¬ ((Value.ref d == Value.none) = true) from Bool.false_ne_true)];refine wpAny_bind (wpAny_pure (wpAny_bind (wpAny_dictEntries hod hdd ?_)));rw [if_neg (by simp)];refine wpAny_bind (wpAny_pure (wpAny_bind (wpAny_dictEpoch hod hdd ?_)));rw [if_neg (by simp)];refine wpAny_pure ?_;simp only [show ¬ ((i : Int) < 0) from by omega, if_false, Zw, Array.getElem?_eq_getElem hi];refine wpAny_bind ?_
  first | refine wpAny_bind (wpAny_typeNameOfWhole_keyiter hit.typeIs (wpAny_pure ?_)) | refine wpAny_bind (wpAny_typeNameOf_keyiter hit.typeIs (wpAny_pure ?_))
  refine wpAny_bind (wpAny_isOneOf_keyiter hit.typeIs ?_)
  show wpAny _ _ (setField (.ref it) 1 (rawInt ((i : Int) + 1)) >>= _) _ _ s
  refine wpAny_bind (wpAny_setField ho hd (by simp) ?_)
  have hit' : (s.heap.update it (Obj.mapFields (·.setIfInBounds 1 (rawInt ((i : Int) + 1))))).IsKeyIter it d (i + 1) es.size ep :=
    ⟨_, Heap.get?_update_self _ ho (Obj.isFreed_of_fields (Obj.data_mapFields hd _)), (Obj.cls_mapFields ..).trans hc, by rw [Obj.data_mapFields hd]; simp [rawInt]⟩
  refine wpAny_bind (wpAny_holding (wpAny_bind (wpAny_isOneOf_keyiter (s := { s with heap := s.heap.update it (Obj.mapFields (·.setIfInBounds 1 (rawInt ((i : Int) + 1)))) }) hit'.typeIs ?_)))
  show wpAny _ _ (pure es[i].key) _ _ _
  exact wpAny_pure (wpAny_pure ⟨_, rfl, wpAny_pure (hQ _ hit' (Heap.SameBut.update ..))⟩)
theorem zhx {it d : Addr} {ep : Nat} {es : Array DictEntry} {Q : Option Value -> Shared -> Prop} (hh : A.handled = none) (hit : s.heap.IsKeyIter it d es.size es.size ep) (hm : RawAt s.heap d es ep)
    (hQ : ∀ h', Heap.ExtBut it s.heap h' -> Q none { s with heap := h' }) : wpAny (model P w) A (pyNext (.ref it)) Q E s := by
  obtain ⟨o, ho, hc, hd⟩ := id hit;obtain ⟨od, hod, hcd, hdd⟩ := id hm;have hown : Builtin.Dict_items.ownsTuple "dict_keyiterator" = false := by decide
  unfold pyNext
  refine wpAny_bind (wpAny_attempt (wpAny_callSpecial?_slot (name := Str.ofString "__next__") hit.typeIs F.slot_dict_keyiterator_next
    (wpAny_call_entry F.slot_dict_keyiterator_next hit.typeIs F.entry_dict_keyiterator_next ?_ (F.args_dict_keyiterator_next_1 _))))
  refine wpAny_bind (wpAny_pure (wpAny_bind (wpAny_bind ?_)))
  first | refine wpAny_bind (wpAny_typeNameOfWhole_keyiter hit.typeIs (wpAny_pure ?_)) | refine wpAny_bind (wpAny_typeNameOf_keyiter hit.typeIs (wpAny_pure ?_))
  refine wpAny_bind (wpAny_fieldsOf ho hd ?_);simp only [hown, Bool.false_eq_true, if_false]
  show wpAny _ _ (if (Value.ref d == Value.none) = true then _ else _) _ _ s
  rw [if_neg (show ¬ ((Value.ref d == Value.none) = true) from Bool.false_ne_true)];refine wpAny_bind (wpAny_pure (wpAny_bind (wpAny_dictEntries hod hdd ?_)));rw [if_neg (by simp)];refine wpAny_bind (wpAny_pure (wpAny_bind (wpAny_dictEpoch hod hdd ?_)));rw [if_neg (by simp)];refine wpAny_pure ?_;simp only [show ¬ ((es.size : Int) < 0) from by omega, if_false, Zw, Array.getElem?_eq_none (Zm es.size)];refine wpAny_bind ?_
  first | refine wpAny_bind (wpAny_typeNameOfWhole_keyiter hit.typeIs (wpAny_pure ?_)) | refine wpAny_bind (wpAny_typeNameOf_keyiter hit.typeIs (wpAny_pure ?_))
  show wpAny _ _ (setField (.ref it) 0 .none >>= _) _ _ s
  refine wpAny_bind (wpAny_setField ho hd (by simp) ?_)
  show wpAny _ _ (newExc (.type "StopIteration") [] >>= _) _ _ _
  refine wpAny_bind ?_;simp only [newExc, newTuple];refine wpAny_bind (wpAny_newObj_type ?_ (by size_fits));refine wpAny_bind (m := firstArgMember _ _) (wpAny_of_eq (a := Value.none) (by first | rfl | (simp only [firstArgMember]; rfl)) ?_);refine wpAny_newObj_type ?_ (by size_fits);simp only [raiseNew];refine wpAny_bind (wpAny_handled ?_);rw [show A.in1.handled = none from hh];refine wpAny_bind (wpAny_pure (wpAny_throw ?_));refine wpAny_bind (wpAny_isInstance (T := "StopIteration") (b := true) ⟨_, Heap.get?_push_size _ rfl, rfl⟩ isSubtype_stop ?_);exact wpAny_pure (hQ _ (((Heap.SameBut.update ..).extBut.push _).push _))
theorem zek (hh : A.handled = none) (I d : Addr) (hne : d ≠ I) (es : Array DictEntry) (ep : Nat) :
    Walks P w A I [I, d] [I] es.size (fun i v => ∃ e, es[i]? = some e /\ v = e.key) (fun i h => h.IsKeyIter I d i es.size ep /\ RawAt h d es ep) where
  sub := fun b hb => by simp at hb; simp [hb]
  frame := fun _ _ _ st hk => ⟨st.1.at fun o e => hk I (by simp) o e, st.2.mv fun o e => hk d (by simp) o e⟩
  item := fun i s Q E hi st hQ => zf1 st.1 st.2 hi fun h' hit' hs' =>
    hQ _ h' s.toks ⟨es[i], by simp [hi], rfl⟩ ⟨hit', st.2.mv fun o e => hs'.extBut d o hne e⟩ fun b o hb e => hs'.extBut b o (fun h => hb (by simp [h])) e
  done := fun s Q E st hQ => zhx hh st.1 st.2 fun h' he' => hQ h' s.toks fun b o hb e => he' b o (fun h => hb (by simp [h])) e
  self := fun _ _ _ _ st hQ => wpAny_pyIter_keyiter st.1 hQ
theorem zbr {d : Addr} {es : Array DictEntry} {ep : Nat} (lo : (d == sysModules) = false) :
    PySem.W.KdlSrc P w "dict" d d es.size (fun i v => ∃ e, es[i]? = some e /\ v = e.key) (fun h => RawAt h d es ep) where
  type := fun _ hm => hm.ty
  there := fun _ ⟨_, ho, _⟩ => ⟨Heap.lt_size ho, Heap.lt_size ho⟩
  keep := fun _ _ hm hk => hm.mv fun o e => hk d (.inl rfl) o e
  notList := by decide
  notTuple := by decide
  hint := fun _ _ _ _ hm hq => PySem.W.kdl_hint_dict hm.ty hq
  iter := fun _ _ hh hm => ⟨_, _, (fun _ _ hq => zgo lo hm hq), zek hh _ d (let ⟨_, ho, _⟩ := hm; Zs (Heap.lt_size ho)) es ep, ⟨⟨_, Heap.get?_push_size _ rfl, rfl, rfl⟩, hm.mv fun o e => Heap.get?_push_of_some _ e⟩⟩
end
def kc (H : Hp) (kvs : List (List Key × V)) (as : List Addr) : Prop := Paired (fun (p : List Key × V) (a : Addr) => H a = some (.tup (p.1.map kV))) kvs as
def zfh (xs : List V) (H : Hp) (Q : VK) : Prop := ∃ (a : Addr) (kvs : List (List Key × V)), xs = [.ref a] /\ H a = some (.dT kvs) /\ ∀ as, kc H kvs as -> ∀ p, H p = none -> Q (.ref p) (upd H p (.lst (as.map V.ref)))
theorem zhm {xs : List V} {H : Hp} {Q : VK} : zfh xs H Q = ∃ (a : Addr) (kvs : List (List Key × V)), xs = [.ref a] /\ H a = some (.dT kvs) /\ ∀ as, kc H kvs as -> ∀ p, H p = none -> Q (.ref p) (upd H p (.lst (as.map V.ref))) := rfl
section
variable {X : Cx}
theorem gx (hc : X.calm = true) : CallR X (.type "list") zfh := by
  intro pins s σ H xs us Q I r h;obtain ⟨a, kvs, rfl, ha, q⟩ := h;obtain ⟨u, rfl, ru⟩ := ua r;obtain rfl : u = Value.ref a := ru;obtain ⟨z, hd, ys, rel, dd⟩ := cg I.hok ha;obtain ⟨o, es, ep, ho, hce, hdat, he, _⟩ := id dd
  have hl : es.size = kvs.length := by
    rw [size_of_entries he];exact (Paired.length rel).symm
  have hk : kc H kvs (ys.map fun y => y.2.1) := by
    have go : ∀ {l : List (List Key × V)} {m : List (List Key × Addr × Value)}, KT H l m -> kc H l (m.map fun y => y.2.1) := by
      intro l m t
      induction t with
      | nil => exact .nil
      | cons h _ ih => exact .cons h.2.1 ih
    exact go rel
  refine PySem.W.kdl_call (zbr hd) (I.ok.hd hc) ⟨o, ho, hce, hdat⟩ (by omega) fun h' tk acc' c' kp e hacc => ?_
  have hv : acc'.toList = ys.map fun y => Value.ref y.2.1 := by
    refine Xb fun i => ?_
    rcases Nat.lt_or_ge i es.size with hi | hi
    . have hs : acc'.size = es.size := hacc.1
      have h1 : acc'[i]? = some acc'[i] := by simp [hs, hi]
      obtain ⟨e, h2, h3⟩ := hacc.2 i _ h1;rw [entry_at he] at h2;rw [Ze, Ys, h1, h3]
      cases hy : ys[i]? with
      | none => rw [hy] at h2; cases h2
      | some y => rw [hy] at h2; cases h2; rfl
    . have hs : acc'.size = es.size := hacc.1
      rw [ZQ (by simp; omega), ZQ (by rw [Za, <- size_of_entries he]; exact hi)]
  refine ⟨.ref s.heap.objs.size, _, I.laid (t' := tk) kp (Zm _) (show ObjOk X.prog X.w _ h' _ (.lst ((ys.map fun y => y.2.1).map V.ref)) from ⟨?_, ys.map fun y => Value.ref y.2.1, c', ?_, ?_⟩), rfl, q _ hk _ (I.hok.fresh (Zm _))⟩
  . rw [Za, Za, <- size_of_entries he]; omega
  . generalize ys = m
    induction m with
    | nil => exact .nil
    | cons y m ih => exact .cons rfl ih
  . rw [e, <- hv]
end
theorem zby (n : Nat) : sliceRange ((n : Int) - 1) (-1) (-1) = (List.range n).map fun k => n - 1 - k := by
  unfold sliceRange;simp only [show ¬ ((-1 : Int) > 0) by decide, if_false, show - (-1 : Int) = 1 by decide, Int.ediv_one]
  have hc : (if ((n : Int) - 1 > -1) then ((n : Int) - 1 - -1 - -1 - 1) else 0).toNat = n := by
    split <;> omega
  rw [hc];refine YU fun k _ => ?_
  omega
theorem g8 {α β : Type} {f : α -> Option β} {g : α -> β} : ∀ {l : List α}, (∀ a ∈ l, f a = some (g a)) -> l.filterMap f = l.map g
  | [], _ => rfl
  | a :: l, h => by rw [Yu, h a (by simp), ZL, g8 fun b hb => h b (by simp [hb])]
theorem zdm (its : List Value) : slicePick its.toArray none none (some (-1)) = its.reverse.toArray := by
  have hb : sliceBounds none none (some (-1)) its.toArray.size = (((its.length : Nat) : Int) - 1, -1, -1) := by simp [sliceBounds]
  unfold slicePick;rw [hb, zby, YX]
  congr 1
  rw [g8 (g := fun k => its.getD (its.length - 1 - k) .none) fun k hk => ?_]
  . refine List.ext_getElem (by simp) fun i h1 h2 => ?_
    have hi : i < its.length := by simpa using h2
    have hj : its.length - 1 - i < its.length := by omega
    simp [Zb hj]
  . have hi : k < its.length := ZX.mp hk
    have hj : its.length - 1 - k < its.length := by omega
    simp [Zb hj]
section
variable {X : Cx} {e st : Expr} {te : TE} {ts : TO} {pos p2 : Pos}
def tDown (K : Fg) (te : TE) (ts : TO) : TE := fun σ H Q => te σ H fun x H1 => ts σ H1 fun k H2 => k = some (-1) /\ ∃ a xs, x = .ref a /\ SqL K H2 a xs /\ ∀ p, H2 p = none -> Q (.ref p) (upd H2 p (.lst xs.reverse))
theorem zft {xs : List V} {vs : List Value} (r : Vals xs vs) : Vals xs.reverse vs.reverse := by
  induction r with
  | nil => exact .nil
  | @cons x v xs vs h _ ih =>
    rw [YG, YG];exact ih.append (.cons h .nil)
theorem e_down {K : Fg} {σ : St} {H : Hp} {Q : VK} : tDown K te ts σ H Q = te σ H fun x H1 => ts σ H1 fun k H2 => k = some (-1) /\ ∃ a xs, x = .ref a /\ SqL K H2 a xs /\ ∀ p, H2 p = none -> Q (.ref p) (upd H2 p (.lst xs.reverse)) := rfl
end
end L2
namespace L2
open PySem PySem.Spec PyProof.Rows
section
variable {X : Cx} {tg : Expr}
end
end L2
namespace L2
open PySem PySem.Spec PyProof.Rows
section
variable {prog : Program} {w : World} {K : Type} [DecidableEq K] {knd : KeyKind prog w K}
end
section
variable {X : Cx} {pins : List (Addr × Obj)} {σ : St} {H : Hp} {s : Shared}
end
end L2
namespace L2
open PySem PySem.Spec PyProof.Rows
section
variable {prog : Program} {w : World} {K : Type} [DecidableEq K] {knd : KeyKind prog w K} {A : Around} {E : Value -> Shared -> Prop} {s : Shared}
end
section
variable {X : Cx}
end
end L2
namespace L2
open PySem PySem.Spec PyProof.Rows AutoSeq1
set_option maxHeartbeats 1000000 in
section
variable {prog : Program} {w : World} {A : Around} {E : Value -> Shared -> Prop} {s : Shared}
end
section
variable {σ : St} {k : Nat} {g : TG} {tt : TT} {te : TE} {H1 : Hp} {Fin : List V -> Hp -> Prop}
end
end L2
namespace L2
open PySem PySem.Spec PyProof.Rows
section
variable {X : Cx} {c e : Expr} {te : TE} {x : Str} {p2 pos : Pos}
end
section
variable {X : Cx}
end
end L2
namespace L2
open PySem PySem.Spec PyProof.Rows
theorem Inv.thaw {X : Cx} {pins : List (Addr × Obj)} {σ : St} {H : Hp} {s : Shared} {d : Addr} {o : Obj} {u : HO} (I : Inv X pins σ H s) (hd : H d = some (.frz o u)) (h0 : ∀ o u, X.H₀ d ≠ some (.frz o u)) : Inv X pins σ (upd H d u) s := by
  have nd : ∀ b, H b = none -> b ≠ d := fun b e z => by rw [z, hd] at e; cases e
  have ht : ∀ b xs, H b = some (.tup xs) -> upd H d u b = some (.tup xs) := fun b xs e => by
    rw [zn (fun z => by rw [z, hd] at e; cases e)];exact e
  have hw : ∀ b a, H b = some (.own a) -> upd H d u b = some (.own a) := fun b a e => by
    rw [zn (fun z => by rw [z, hd] at e; cases e)];exact e
  refine ⟨I.ok, I.os, I.bare, ⟨I.base.keep, I.base.slot, fun b ob e n hx => ?_, I.base.there, fun b xs e => ht b xs (I.base.tups b xs e), fun b ob v e => ?_, fun b ps e => ?_⟩, I.loc, I.cell, ?_, fun x c e => ?_, fun p hp => ?_, fun b ob e => ?_, I.len⟩
  . have := I.base.free b ob e n hx
    rw [zn (nd b this)];exact this
  . have := I.base.frzs b ob v e
    rw [zn (fun z => by rw [z] at e; exact h0 _ _ e)];exact this
  . obtain ⟨more, h⟩ := I.base.tbls b ps e
    refine ⟨more, ?_⟩;rw [zn (fun z => by rw [z, hd] at h; cases h)];exact h
  . rw [zn (nd _ I.free)]
    exact I.free
  . have := I.freeC x c e
    rw [zn (nd _ this)];exact this
  . obtain ⟨h1, h2, h3⟩ := I.pin p hp
    exact ⟨h1, by rw [zn (nd _ h2)]; exact h2, h3⟩
  . by_cases z : b = d
    . subst z
      rw [zd] at e;cases e;exact (show ObjOk X.prog X.w H s.heap b (.frz o u) from I.hok b _ hd).2.stay (fun c w _ q => q) (fun c q => hw c b q) ht
    . rw [zn z] at e
      exact (I.hok b ob e).stay (fun c w _ q => q) (fun c q => hw c b q) ht
def Iti (a : Addr) (ob : Obj) (kvs : List (Key × V)) : It :=
  ⟨fun i H => H a = some (.frz ob (.dK kvs)) /\ i < kvs.length, fun i H v H' => ∃ T kv, kvs[i]? = some kv /\ v = .ref T /\ H T = none /\ H' = upd H T (.tup [kV kv.1, kv.2]), fun i H => H a = some (.frz ob (.dK kvs)) /\ kvs.length <= i⟩
theorem zb7 {P : Program} {w : World} {k : Key} {u : Value} (h : (z7 P w).is k u = true) : RelV (kV k) u := by
  rw [zcw] at h
  rcases ym h with ⟨i, t, rfl, rfl⟩ | ⟨x, t, rfl, rfl⟩
  . exact ⟨t, rfl⟩
  . exact ⟨t, rfl⟩
theorem kn {P : Program} {w : World} {h : Heap} {d : Addr} {vs : List (Key × Value)} {o : Obj} {es : Array DictEntry} {ep : Nat} (hD : h.DictOf (z7 P w) d vs) (ho : h.get? d = some o) (hd : o.data = .dict es ep) : h.DictAt (z7 P w) d vs ep := by
  obtain ⟨o', es', ep', h1, h2, h3, h4⟩ := hD;rw [ho] at h1;cases h1;rw [hd] at h3;cases h3;exact ⟨o, es, ho, h2, hd, h4⟩
theorem zdr : ∀ {kvs : List (Key × V)} {vs : List (Key × Value)} {i : Nat} {p : Key × V} {k : Key} {v : Value}, KV kvs vs -> kvs[i]? = some p -> vs[i]? = some (k, v) -> p.1 = k /\ RelV p.2 v
  | _, _, i, p, k, v, .cons h t, e1, e2 => by
    cases i with
    | zero =>
      simp at e1 e2;subst e1;rw [e2] at h;exact h
    | succ i => exact zdr t (by simpa using e1) (by simpa using e2)
  | _, _, i, p, k, v, .nil, e1, e2 => by simp at e1
theorem zb3 {P : Program} {w : World} {K : Fg} {elts : List Expr} {x1 : Nat} {pos : Pos} {a it : Addr} {ob : Obj} {kvs : List (Key × V)} {es : Array DictEntry} {ep n : Nat} (hd : ob.data = .dict es ep) (hn : n = kvs.length) :
    Turn P w K (.Tuple elts x1 pos) (Iti a ob kvs) [it] it (fun i h => ∃ ok ov, IsItemIter h it a i n ep ok ov) where
  mem := by simp
  obj := fun i h st b hb => by
    have e : b = it := by simpa using hb
    subst e;obtain ⟨ok, ov, e⟩ := st;exact ⟨_, e, fun v z => by cases z⟩
  keep := fun i h h' st k => by
    obtain ⟨ok, ov, e⟩ := st;exact ⟨ok, ov, k it (by simp) _ e⟩
  item := by
    intro X hP hw hK hc i pins s σ H E I hf st hg;subst hP hw hK;obtain ⟨h1, h2⟩ := hg;obtain ⟨ok, ov, hit⟩ := st;obtain ⟨ho, z, hs, vs, rel, hD⟩ := (show ObjOk X.prog X.w H s.heap a (.frz ob (.dK kvs)) from I.hok a _ h1);have hA := kn hD ho hd;have lv : vs.length = kvs.length := rel.length.symm;have ek : kvs[i]? = some kvs[i] := Zb h2;obtain ⟨k, v, ev⟩ : ∃ k v, vs[i]? = some (k, v) := ⟨_, _, Zb (by omega)⟩;obtain ⟨e1, e2⟩ := zdr rel ek ev;rw [hn, <- lv] at hit;refine wpAny_pyNext_items_item hit hA ev fun key h' hkey a1 a3 a4 hk => ?_
    have ltT : ∀ {c o}, s.heap.get? c = some o -> c ≠ s.heap.objs.size := fun q => Zs (Heap.lt_size q)
    have hTe : s.heap.objs.size ≠ it := Ne.symm (ltT hit);refine ⟨_, rfl, wpAny_letOwnedTupleGo_items (s := { s with heap := h' }) a1 fun h'' b1 sb => ?_⟩
    replace sb : Heap.SameBut it h' h'' := sb
    have I1 : Inv X pins σ (upd H s.heap.objs.size (.tup [kV kvs[i].1, kvs[i].2])) { s with heap := h'' } := I.turnedLaid (t' := s.toks) (ch := [it]) hf (fun b o hb q => by
      simp only [ZK, Zx, or_false] at hb
      exact sb.extBut b o hb (hk b o hb q)) (Zm _) ⟨by show 2 <= sizeLine; decide, [key, v], .cons (by rw [e1]; exact zb7 hkey) (.cons e2 .nil), by
        have q := sb.extBut _ _ hTe a3
        exact ⟨_, q, rfl, _, rfl, rfl⟩⟩
    refine ⟨.ref s.heap.objs.size, _, I1, rfl, ⟨s.heap.objs.size, kvs[i], ek, rfl, I.hok.fresh (Zm _), rfl⟩, ⟨key, v, by rw [hn, <- lv]; exact b1⟩, fun b hb => ?_⟩;have hb' := (hf b hb).1;rw [zn ?_]
    . exact hb'
    . have e : b = it := by simpa using hb
      rw [e];exact Ne.symm hTe
  done := by
    intro X hP hw hK hc i pins s σ H E I hf st hg;subst hP hw hK;obtain ⟨h1, h2⟩ := hg;obtain ⟨ok, ov, hit⟩ := st;obtain ⟨ho, z, hs, vs, rel, hD⟩ := (show ObjOk X.prog X.w H s.heap a (.frz ob (.dK kvs)) from I.hok a _ h1);have hA := kn hD ho hd;have lv : vs.length = kvs.length := rel.length.symm;rw [hn, <- lv] at hit;obtain ⟨f0, f1, f2, f3, f4, f5⟩ := hf it (by simp);exact wpAny_pyNext_items_end (I.ok.hd hc) hit hA (ZQ (by omega)) fun h' eb => ⟨rfl, I.turned (t' := s.toks) (fun b o hb e => eb b o hb e) f0 f1 f3 f4 f5⟩
  self := fun _ _ _ _ _ st h => by
    obtain ⟨ok, ov, hit⟩ := st;exact PySem.W.kcp_self hit h
section
variable {X : Cx}
def iItems (tl : TE) : TI := fun σ H R => tl σ H fun x H1 => ∃ a kvs, x = .ref a /\ H1 a = some (.dK kvs) /\ ∀ ob, R (Iti a ob kvs) (upd H1 a (.frz ob (.dK kvs)))
theorem zh8 {tl : TE} {σ : St} {H : Hp} {R : It -> Hp -> Prop} : iItems tl σ H R = tl σ H fun x H1 => ∃ a kvs, x = .ref a /\ H1 a = some (.dK kvs) /\ ∀ ob, R (Iti a ob kvs) (upd H1 a (.frz ob (.dK kvs))) := rfl
def tThaw (t : TE) : TE := fun σ H Q => t σ H fun v H' => ∃ d o u kvs, H d = some (.dK kvs) /\ H' d = some (.frz o u) /\ Q v (upd H' d u)
theorem e_thaw {t : TE} {σ : St} {H : Hp} {Q : VK} : tThaw t σ H Q = t σ H fun v H' => ∃ d o u kvs, H d = some (.dK kvs) /\ H' d = some (.frz o u) /\ Q v (upd H' d u) := rfl
end
section
variable {σ : St} {k : Nat} {g : TG} {tt : TT} {te : TE} {H1 : Hp} {Fin : List V -> Hp -> Prop}
theorem zcq {a : Addr} {ob : Obj} {kvs : List (Key × V)} (Pv : Nat -> List V -> Hp -> Prop) (h0 : Pv 0 [] H1) (hz : ∀ i ys H, i <= kvs.length -> Pv i ys H -> ys.length <= sizeLine /\ H a = some (.frz ob (.dK kvs)))
    (hs : ∀ i kv ys H T, kvs[i]? = some kv -> H T = none -> Pv i ys H -> g (.ref T) (List.replicate k none ++ σ) (upd H T (.tup [kV kv.1, kv.2])) fun σ2 H2 => σ2.drop k = σ /\ tt σ2 H2 fun b H3 => if b = true then te σ2 H3 fun v H4 => Pv (i + 1) (ys ++ [v]) H4 else Pv (i + 1) ys H3)
    (hd : ∀ ys H, Pv kvs.length ys H -> Fin ys H) : rc (Iti a ob kvs) σ k g tt te H1 Fin := by
  refine ⟨fun i m ys H => m = kvs.length - i /\ i <= kvs.length /\ Pv i ys H, ⟨kvs.length, by simp, ZE _, h0⟩, ?_⟩
  rintro i m ys H ⟨rfl, hi, p⟩
  obtain ⟨q0, qa⟩ := hz i ys H hi p;refine ⟨q0, ?_⟩
  by_cases hlt : i < kvs.length
  . refine .inr ⟨⟨qa, hlt⟩, Pv (i + 1), fun ys' H' p' => ⟨kvs.length - (i + 1), by omega, rfl, hlt, p'⟩, fun x H' y => ?_⟩
    obtain ⟨T, kv, hkv, rfl, hT, rfl⟩ := y;exact hs i kv ys _ T hkv hT p
  . have e : i = kvs.length := by omega
    subst e;exact .inl ⟨⟨qa, Zm _⟩, hd ys H p⟩
end
end L2
namespace L2
open PySem PySem.Spec PyProof.Rows
theorem zgg (n : Nat) : sliceRange 0 (n : Int) 1 = (List.range n).map fun k => k := by
  unfold sliceRange;simp only [show ((1 : Int) > 0) by decide, if_true, Int.ediv_one]
  have hc : (if ((n : Int) > 0) then ((n : Int) - 0 + 1 - 1) else 0).toNat = n := by
    split <;> omega
  first
    | rw [hc]
    | (have hc2 : (if (0 : Int) < (n : Int) then ((n : Int) - 0 + 1 - 1) else 0).toNat = n := by split <;> omega
       rw [hc2])
  refine YU fun k _ => ?_
  omega
theorem zh3 (its : List Value) : slicePick its.toArray none none (some 1) = its.toArray := by
  have hb : sliceBounds none none (some 1) its.toArray.size = (0, ((its.length : Nat) : Int), 1) := by simp [sliceBounds]
  unfold slicePick;rw [hb, zgg, YX]
  congr 1
  rw [g8 (g := fun k => its.getD k .none) fun k hk => ?_]
  . refine List.ext_getElem (by simp) fun i h1 h2 => ?_
    have hi : i < its.length := by simpa using h2
    simp [Zb hi]
  . have hi : k < its.length := ZX.mp hk
    simp [Zb hi]
section
variable {X : Cx} {e st : Expr} {te : TE} {ts : TO} {pos p2 : Pos}
def tWay (K : Fg) (te : TE) (ts : TO) : TE := fun σ H Q => te σ H fun x H1 => ts σ H1 fun k H2 => ∃ up : Bool, k = some (if up then 1 else -1) /\ ∃ a xs, x = .ref a /\ SqL K H2 a xs /\ ∀ p, H2 p = none -> Q (.ref p) (upd H2 p (.lst (if up then xs else xs.reverse)))
theorem e_way {K : Fg} {σ : St} {H : Hp} {Q : VK} : tWay K te ts σ H Q = te σ H fun x H1 => ts σ H1 fun k H2 => ∃ up : Bool, k = some (if up then 1 else -1) /\ ∃ a xs, x = .ref a /\ SqL K H2 a xs /\ ∀ p, H2 p = none -> Q (.ref p) (upd H2 p (.lst (if up then xs else xs.reverse))) := rfl
theorem pe_way (he : PE X e te) (hs : PO X (some st) ts) : PE X (.Subscript e (.Slice none none (some st) p2) pos) (tWay X.K te ts) := by
  intro pins s σ H Q I h;refine Subscript_ (thn (he pins s σ H _ I h) fun v s1 ⟨x, H1, I1, r1, q1⟩ => ?_);refine wpAny_Slice ?_;rw [evalPart_none];refine wpAny_pure (wpAny_pure ?_);refine thn (hs pins s1 σ H1 _ I1 q1) fun vk s3 ⟨k, H3, I3, pk, q3⟩ => ?_
  obtain ⟨up, rfl, a, xs, rfl, hx, q⟩ := q3;cases r1;have I4 : Inv X pins σ H3 { s3 with heap := s3.heap.push { cls := .type "slice", data := .fields #[.none, .none, vk] } } := I3.kept (t' := s3.toks) fun b ob q => Heap.get?_push_of_some _ q
  obtain ⟨its, r, ht, hz⟩ := I4.list hx;have hlen := r.length
  show wpAny (model X.prog X.w) X.A (subscriptTail e (.Slice none none (some st) p2) (.ref a) (.ref s3.heap.objs.size)) (EP X pins σ Q) X.xe { s3 with heap := s3.heap.push { cls := .type "slice", data := .fields #[.none, .none, vk] } }
  refine tail_any (ops := [.ref a, .ref s3.heap.objs.size]) ht.isList.typeIs slot_list_getitem.lookup ?_ (by with_unfolding_all rfl)
  cases up with
  | false =>
    refine wpAny_getItem_list_slice ht.isList (Heap.IsSliceOf.new ..) .none .none pk (by simp) ?_ (by rw [Zr] <;> omega);rw [show (if false = true then (1 : Int) else -1) = -1 from rfl, zdm];refine ⟨.ref _, _, I4.laid (t' := s3.toks) (o := .lst xs.reverse) (fun b ob q => Heap.get?_push_of_some _ q) (Zm _) ?_, rfl, q _ (I4.hok.fresh (Zm _))⟩;exact ⟨by rw [List.length_reverse]; exact hz, _, 0, zft r, Heap.get?_push_size _ rfl⟩
  | true =>
    refine wpAny_getItem_list_slice ht.isList (Heap.IsSliceOf.new ..) .none .none pk (by simp) ?_ (by rw [Zr] <;> omega);rw [show (if true = true then (1 : Int) else -1) = 1 from rfl, zh3];refine ⟨.ref _, _, I4.laid (t' := s3.toks) (o := .lst xs) (fun b ob q => Heap.get?_push_of_some _ q) (Zm _) ?_, rfl, q _ (I4.hok.fresh (Zm _))⟩;exact ⟨hz, _, 0, r, Heap.get?_push_size _ rfl⟩
end
section
variable {prog : Program} {w : World} {K : Type} [DecidableEq K] {knd : KeyKind prog w K} {A : Around} {E : Value -> Shared -> Prop} {s : Shared}
end
end L2
namespace L2
open PySem PySem.Spec PyProof.Rows
section
variable {X : Cx} {tg : Expr}
end
section
variable {X : Cx}
end
end L2
namespace L2
open PySem PySem.Spec PyProof.Rows
def zbj : Option Key -> Value -> Bool
  | none, v => match v with
    | .none => true
    | _ => false
  | some k, v => pz k v
theorem xx {v : Value} (h : zbj none v = true) : v = .none := by
  cases v <;> first | rfl | cases h
theorem jj {prog : Program} {w : World} {A : Around} {E : Value -> Shared -> Prop} {s : Shared} {Q : Int -> Shared -> Prop} (h : Q (reduceHash 4238894112) { s with toks := s.toks + 1 }) : wpAny (model prog w) A (pyHash .none) Q E s := by
  refine PySem.W.pyHash_slot (T := "NoneType") (B := Builtin.«NoneType.__hash__») rfl PySem.F.slot_NoneType_hash rfl ?_ rfl (.inl rfl) ?_
  . exact PySem.F.args_NoneType_hash_1 _
  . show wpAny _ _ (slotArgs "__hash__" 0 ⟨[Value.none], []⟩ >>= fun _ => retInt 4238894112) _ _ _
    rw [show slotArgs "__hash__" 0 ⟨[Value.none], []⟩ = pure (Value.none, []) from rfl];refine wpAny_bind (wpAny_pure (thn (wpAny_ret_mkInt (Q := fun v s' => v = Value.int 4238894112 s.toks /\ s' = { s with toks := s.toks + 1 }) ⟨rfl, rfl⟩) fun fin s' ⟨v, hf, hv, hs⟩ => ⟨4238894112, s.toks, by rw [hf, hv], by rw [hs]; exact h⟩))
def wp (prog : Program) (w : World) : PySem.KeyKind prog w (Option Key) where
  is := zbj
  hash := fun k => match k with
    | none => reduceHash 4238894112
    | some k => keyH w k
  inj := fun v a b ha hb => by
    cases a with
    | none =>
      cases xx ha
      cases b with
      | none => rfl
      | some k => rcases ym hb with ⟨i, t, rfl, e⟩ | ⟨x, t, rfl, e⟩ <;> cases e
    | some k =>
      cases b with
      | none =>
        cases xx hb
        rcases ym ha with ⟨i, t, rfl, e⟩ | ⟨x, t, rfl, e⟩ <;> cases e
      | some k' => rw [(z7 prog w).inj v k k' ha hb]
  byValue := fun k v h => by
    cases k with
    | none => cases xx h; rfl
    | some k => exact (z7 prog w).byValue k v h
  pyHash := fun {A E s k v Q} hv h => by
    cases k with
    | none => cases xx hv; exact jj h
    | some k => exact (z7 prog w).pyHash (k := k) hv h
  eqBool := fun {A E s a b u v Q} hu hv h => by
    cases a with
    | none =>
      cases xx hu
      cases b with
      | none => cases xx hv; exact SeqAt.EqAt.same _ _ _ _ _ h
      | some k =>
        rcases ym hv with ⟨i, t, rfl, rfl⟩ | ⟨x, t, rfl, rfl⟩
        . exact SeqAt.EqAt.none_int _ _ _ _ _ _ h
        . exact SeqAt.EqAt.none_str _ _ _ _ _ _ h
    | some k =>
      cases b with
      | none =>
        cases xx hv
        rcases ym hu with ⟨i, t, rfl, rfl⟩ | ⟨x, t, rfl, rfl⟩
        . exact SeqAt.EqAt.int_none _ _ _ _ _ _ h
        . exact SeqAt.EqAt.str_none _ _ _ _ _ _ h
      | some k' =>
        refine (z7 prog w).eqBool (a := k) (b := k') hu hv ?_
        have e : decide (some k = some k') = decide (k = k') := by
          by_cases z : k = k'
          . rw [z]; simp
          . rw [decide_eq_false z, decide_eq_false (fun q => z (Option.some.inj q))]
        rw [e] at h;exact h
  «strs» := fun k x t v h => by
    cases k with
    | none => cases xx h
    | some k => exact (z7 prog w).strs k x t v h
theorem ir {P : Program} {w : World} : ∀ {es : List DictEntry} {vs : List (Key × Value)}, Pairs (z7 P w) es vs -> Pairs (wp P w) es (vs.map fun p => (some p.1, p.2))
  | _, _, .nil => .nil
  | _, _, .cons h1 h2 t => .cons (kv := (some _, _)) h1 h2 (ir t)
theorem zeg {P : Program} {w : World} {h : Heap} {a : Addr} {vs : List (Key × Value)} (d : h.DictOf (z7 P w) a vs) : h.DictOf (wp P w) a (vs.map fun p => (some p.1, p.2)) := by
  obtain ⟨o, es, ep, h1, h2, h3, h4, h5, h6⟩ := d;refine ⟨o, es, ep, h1, h2, h3, fun e he => ?_, ir h5, ?_⟩
  . obtain ⟨k, e1, e2⟩ := h4 e he
    exact ⟨some k, e1, e2⟩
  . rw [Yz]
    have e : (vs.map ((fun x : Option Key × Value => x.1) ∘ fun p : Key × Value => (some p.1, p.2))) = (vs.map fun x => x.1).map some := by
      rw [Yz];rfl
    rw [e];exact Yg.mpr (List.Pairwise.imp (fun {a b} ne z => ne (Option.some.inj z)) h6)
theorem zgz {kvs : List (Key × V)} {vs : List (Key × Value)} (h : KV kvs vs) : KV (kvs.map fun p => (some p.1, p.2)) (vs.map fun p => (some p.1, p.2)) := by
  unfold KV at h ⊢
  induction h with
  | nil => exact .nil
  | cons h _ ih => exact .cons ⟨congrArg some h.1, h.2⟩ ih
def onV : Option Key -> V
  | none => .non
  | some k => kV k
theorem is_onV {P : Program} {w : World} {k : Option Key} {u : Value} (h : (wp P w).is k u = true) : RelV (onV k) u := by
  cases k with
  | none => exact xx h
  | some k => exact zb7 (P := P) (w := w) h
def xk (P : Program) (w : World) (a : Addr) (kvs : List (Option Key × V)) : HO := .ext fun h => kvs.length <= sizeLine /\ (a == sysModules) = false /\ ∃ vs, KV kvs vs /\ h.DictOf (wp P w) a vs
theorem bz {P : Program} {w : World} {H : Hp} {h : Heap} {a : Addr} {kvs : List (Option Key × V)} {vs : List (Option Key × Value)} (z : kvs.length <= sizeLine) (hs : (a == sysModules) = false) (r : KV kvs vs) (d : h.DictOf (wp P w) a vs) : ObjOk P w H h a (xk P w a kvs) := by
  refine ⟨⟨z, hs, vs, r, d⟩, let ⟨o, _, _, e, _⟩ := d; ⟨o, e⟩, fun h1 h2 ⟨z, hs, vs, r, o, es, ep, e, q⟩ k => ⟨z, hs, vs, r, o, es, ep, k o e, q⟩⟩
theorem qy {P : Program} {w : World} {H : Hp} {h : Heap} {a : Addr} {kvs : List (Option Key × V)} (ok : ObjOk P w H h a (xk P w a kvs)) : kvs.length <= sizeLine /\ (a == sysModules) = false /\ ∃ vs, KV kvs vs /\ h.DictOf (wp P w) a vs := ok.1
def qj (kvs : List (Key × V)) (v : V) : List (Option Key × V) := (kvs.map fun p => (some p.1, p.2)) ++ [(none, v)]
def rSetN (P : Program) (w : World) : TSet := fun o i v H Q => ∃ a kvs, o = .ref a /\ i = .non /\ H a = some (.dK kvs) /\ kvs.length < sizeLine /\ Q (upd H a (xk P w a (qj kvs v)))
theorem e_setN {P : Program} {w : World} {o i v : V} {H : Hp} {Q : Hp -> Prop} : rSetN P w o i v H Q = ∃ a kvs, o = .ref a /\ i = .non /\ H a = some (.dK kvs) /\ kvs.length < sizeLine /\ Q (upd H a (xk P w a (qj kvs v))) := rfl
section
variable {X : Cx}
theorem zap {vs : List (Key × Value)} {u : Value} : stored (vs.map fun p => (some p.1, p.2)) none u = (vs.map fun p => ((some p.1 : Option Key), p.2)) ++ [(none, u)] := by
  unfold stored;rw [if_neg];rw [List.any_map];simp
theorem zgd : PSet X (rSetN X.prog X.w) := by
  intro pins s σ H o i v ov iv u Q I ro ri rv h;obtain ⟨a, kvs, rfl, rfl, ha, hl, q⟩ := h;obtain rfl : ov = Value.ref a := ro;obtain rfl : iv = Value.none := ri;obtain ⟨z, hd, vs, rel, dd⟩ := jf I.hok ha;refine wpAny_setItem_pairs (hsz := by rw [Za, <- rel.length]; exact z) (k := none) (knd := wp X.prog X.w) rfl (zeg dd) fun h' dd' hs => ⟨_, ?_, q⟩
  rw [zap] at dd';have he : ∃ q, h'.get? a = some q := let ⟨q, _, _, hq, _⟩ := dd'; ⟨q, hq⟩;refine sf I (by rw [ha]; exact True.intro) hs he (bz ?_ hd ?_ dd')
  . rw [qj, Zo, Za]
    show kvs.length + 1 <= _
    omega
  . exact Paired.snoc (zgz rel) ⟨rfl, rv⟩
def AnyD (P : Program) (w : World) (H : Hp) (a : Addr) (n : Nat) : Prop := (∃ kvs, H a = some (.dK kvs) /\ n = kvs.length) \/ (∃ kvs, H a = some (xk P w a kvs) /\ n = kvs.length) \/ ∃ kvs, H a = some (.dT kvs) /\ n = kvs.length
def rLenN (P : Program) (w : World) (xs : List V) (H : Hp) (Q : VK) : Prop := ∃ a n, xs = [V.ref a] /\ AnyD P w H a n /\ Q (.int n) H
theorem e_lenN {P : Program} {w : World} {xs : List V} {H : Hp} {Q : VK} : rLenN P w xs H Q = ∃ a n, xs = [V.ref a] /\ AnyD P w H a n /\ Q (.int n) H := rfl
theorem e7 : CallR X (.builtin "len") (rLenN X.prog X.w) := by
  intro pins s σ H xs us Q I r h;obtain ⟨a, n, rfl, ha, q⟩ := h;obtain ⟨u, rfl, ru⟩ := ua r;cases ru
  rcases ha with ⟨kvs, ha, rfl⟩ | ⟨kvs, ha, rfl⟩ | ⟨kvs, ha, rfl⟩
  . exact d_len I (.inl ha) fun t s' I' => ⟨.int kvs.length, H, I', ⟨t, rfl⟩, q⟩
  . obtain ⟨z, hd, vs, rel, dd⟩ := qy (I.hok a _ ha)
    refine call_len_dict hd dd (by rw [<- rel.length]; rw [sizeLine_eq] at z; omega) ?_;rw [<- rel.length];exact ⟨.int kvs.length, H, I.tok _, ⟨_, rfl⟩, q⟩
  . exact dn pins s σ H [V.ref a] [_] Q I r ⟨a, kvs, rfl, ha, q⟩
def TyN (P : Program) (w : World) (K : Fg) (H : Hp) (x : V) (T : String) : Prop := TyOf K H x (.type T) \/ (T = "dict" /\ ∃ a kvs, x = .ref a /\ H a = some (xk P w a kvs))
def rIsN (P : Program) (w : World) (K : Fg) (xs : List V) (H : Hp) (Q : VK) : Prop := ∃ x T T1 b, xs = [x, .ty T] /\ TyN P w K H x T1 /\ kit0 T1 T = some b /\ Q (.bl b) H
theorem e_isN {P : Program} {w : World} {K : Fg} {xs : List V} {H : Hp} {Q : VK} : rIsN P w K xs H Q = ∃ x T T1 b, xs = [x, .ty T] /\ TyN P w K H x T1 /\ kit0 T1 T = some b /\ Q (.bl b) H := rfl
theorem bx : CallR X (.builtin "isinstance") (rIsN X.prog X.w X.K) := by
  intro pins s σ H xs us Q I r h;obtain ⟨x, T, T1, b, rfl, ty, e, q⟩ := h;obtain ⟨u, v, rfl, rx, ry⟩ := Vals.two r;cases ry
  rcases ty with ty | ⟨rfl, a, kvs, rfl, ha⟩
  . exact eu I rx ty ((j2 X.K T1 T).trans e) fun tk => ⟨.bl b, H, I.tok _, rfl, q⟩
  . obtain rfl : u = Value.ref a := rx
    obtain ⟨z, hd, vs, rel, dd⟩ := qy (I.hok a _ ha);obtain ⟨o, es, ep, h1, h2, _⟩ := dd;exact PySem.W.kia_one PySem.W.kitx_dict I.kIn ⟨o, h1, h2.1⟩ ((j2 X.K "dict" T).trans e) (fun z => nomatch z) fun tk => ⟨.bl b, H, I.tok _, rfl, q⟩
end
def ItNo (P : Program) (w : World) (a : Addr) (ob : Obj) (kvs : List (Option Key × V)) : It :=
  ⟨fun i H => H a = some (.frz ob (xk P w a kvs)) /\ i < kvs.length, fun i H v H' => ∃ T kv, kvs[i]? = some kv /\ v = .ref T /\ H T = none /\ H' = upd H T (.tup [onV kv.1, kv.2]), fun i H => H a = some (.frz ob (xk P w a kvs)) /\ kvs.length <= i⟩
theorem mi {P : Program} {w : World} {h : Heap} {d : Addr} {vs : List (Option Key × Value)} {o : Obj} {es : Array DictEntry} {ep : Nat} (hD : h.DictOf (wp P w) d vs) (ho : h.get? d = some o) (hd : o.data = .dict es ep) : h.DictAt (wp P w) d vs ep := by
  obtain ⟨o', es', ep', h1, h2, h3, h4⟩ := hD;rw [ho] at h1;cases h1;rw [hd] at h3;cases h3;exact ⟨o, es, ho, h2, hd, h4⟩
theorem za9 : ∀ {kvs : List (Option Key × V)} {vs : List (Option Key × Value)} {i : Nat} {p : Option Key × V} {k : Option Key} {v : Value}, KV kvs vs -> kvs[i]? = some p -> vs[i]? = some (k, v) -> p.1 = k /\ RelV p.2 v
  | _, _, i, p, k, v, .cons h t, e1, e2 => by
    cases i with
    | zero =>
      simp at e1 e2;subst e1;rw [e2] at h;exact h
    | succ i => exact za9 t (by simpa using e1) (by simpa using e2)
  | _, _, i, p, k, v, .nil, e1, e2 => by simp at e1
theorem zal {P : Program} {w : World} {K : Fg} {elts : List Expr} {x1 : Nat} {pos : Pos} {a it : Addr} {ob : Obj} {kvs : List (Option Key × V)} {es : Array DictEntry} {ep n : Nat} (hd : ob.data = .dict es ep) (hn : n = kvs.length) :
    Turn P w K (.Tuple elts x1 pos) (ItNo P w a ob kvs) [it] it (fun i h => ∃ ok ov, IsItemIter h it a i n ep ok ov) where
  mem := by simp
  obj := fun i h st b hb => by
    have e : b = it := by simpa using hb
    subst e;obtain ⟨ok, ov, e⟩ := st;exact ⟨_, e, fun v z => by cases z⟩
  keep := fun i h h' st k => by
    obtain ⟨ok, ov, e⟩ := st;exact ⟨ok, ov, k it (by simp) _ e⟩
  item := by
    intro X hP hw hK hc i pins s σ H E I hf st hg;subst hP hw hK;obtain ⟨h1, h2⟩ := hg;obtain ⟨ok, ov, hit⟩ := st;have ok1 := (show ObjOk X.prog X.w H s.heap a (.frz ob (xk X.prog X.w a kvs)) from I.hok a _ h1);have ho := ok1.1;obtain ⟨z, hs, vs, rel, hD⟩ := qy ok1.2;have hA := mi hD ho hd;have lv : vs.length = kvs.length := rel.length.symm;have ek : kvs[i]? = some kvs[i] := Zb h2;obtain ⟨k, v, ev⟩ : ∃ k v, vs[i]? = some (k, v) := ⟨_, _, Zb (by omega)⟩;obtain ⟨e1, e2⟩ := za9 rel ek ev;rw [hn, <- lv] at hit;refine wpAny_pyNext_items_item hit hA ev fun key h' hkey a1 a3 a4 hk => ?_
    have ltT : ∀ {c o}, s.heap.get? c = some o -> c ≠ s.heap.objs.size := fun q => Zs (Heap.lt_size q)
    have hTe : s.heap.objs.size ≠ it := Ne.symm (ltT hit);refine ⟨_, rfl, wpAny_letOwnedTupleGo_items (s := { s with heap := h' }) a1 fun h'' b1 sb => ?_⟩
    replace sb : Heap.SameBut it h' h'' := sb
    have I1 : Inv X pins σ (upd H s.heap.objs.size (.tup [onV kvs[i].1, kvs[i].2])) { s with heap := h'' } := I.turnedLaid (t' := s.toks) (ch := [it]) hf (fun b o hb q => by
      simp only [ZK, Zx, or_false] at hb
      exact sb.extBut b o hb (hk b o hb q)) (Zm _) ⟨by show 2 <= sizeLine; decide, [key, v], .cons (by rw [e1]; exact is_onV hkey) (.cons e2 .nil), by
        have q := sb.extBut _ _ hTe a3
        exact ⟨_, q, rfl, _, rfl, rfl⟩⟩
    refine ⟨.ref s.heap.objs.size, _, I1, rfl, ⟨s.heap.objs.size, kvs[i], ek, rfl, I.hok.fresh (Zm _), rfl⟩, ⟨key, v, by rw [hn, <- lv]; exact b1⟩, fun b hb => ?_⟩;have hb' := (hf b hb).1;rw [zn ?_]
    . exact hb'
    . have e : b = it := by simpa using hb
      rw [e];exact Ne.symm hTe
  done := by
    intro X hP hw hK hc i pins s σ H E I hf st hg;subst hP hw hK;obtain ⟨h1, h2⟩ := hg;obtain ⟨ok, ov, hit⟩ := st;have ok1 := (show ObjOk X.prog X.w H s.heap a (.frz ob (xk X.prog X.w a kvs)) from I.hok a _ h1);have ho := ok1.1;obtain ⟨z, hs, vs, rel, hD⟩ := qy ok1.2;have hA := mi hD ho hd;have lv : vs.length = kvs.length := rel.length.symm;rw [hn, <- lv] at hit;obtain ⟨f0, f1, f2, f3, f4, f5⟩ := hf it (by simp);exact wpAny_pyNext_items_end (I.ok.hd hc) hit hA (ZQ (by omega)) fun h' eb => ⟨rfl, I.turned (t' := s.toks) (fun b o hb e => eb b o hb e) f0 f1 f3 f4 f5⟩
  self := fun _ _ _ _ _ st h => by
    obtain ⟨ok, ov, hit⟩ := st;exact PySem.W.kcp_self hit h
section
variable {X : Cx}
def za1 (P : Program) (w : World) (tl : TE) : TI := fun σ H R => tl σ H fun x H1 => ∃ a, x = .ref a /\ ((∃ kvs, H1 a = some (.dK kvs) /\ ∀ ob, R (Iti a ob kvs) (upd H1 a (.frz ob (.dK kvs)))) \/ ∃ kvs, H1 a = some (xk P w a kvs) /\ ∀ ob, R (ItNo P w a ob kvs) (upd H1 a (.frz ob (xk P w a kvs))))
theorem zf2 {P : Program} {w : World} {tl : TE} {σ : St} {H : Hp} {R : It -> Hp -> Prop} : za1 P w tl σ H R = tl σ H fun x H1 => ∃ a, x = .ref a /\ ((∃ kvs, H1 a = some (.dK kvs) /\ ∀ ob, R (Iti a ob kvs) (upd H1 a (.frz ob (.dK kvs)))) \/ ∃ kvs, H1 a = some (xk P w a kvs) /\ ∀ ob, R (ItNo P w a ob kvs) (upd H1 a (.frz ob (xk P w a kvs)))) := rfl
theorem ze0 {o : Expr} {tl : TE} {apos pos tpos : Pos} {elts : List Expr} {x1 : Nat} (ho : PE X o tl) (hbase : attributeBase o "items" X.env (eval o X.env) = eval o X.env := by rfl) (hline : (apos.endLine == pos.line) = true := by rfl) :
    PI X (.Tuple elts x1 tpos) (.Call (.Attribute o "items" apos) [] [] pos) (za1 X.prog X.w tl) := by
  intro pins s σ H R I h;refine wpAny_Call_method (T := "dict") (id := "dict.items") hbase rfl hline F.plainAttrs_dict F.slot_dict_items F.type_dict_items (thn (ho pins s σ H _ I h) fun u s1 ⟨x, H1, I1, rx, a, ex, hq⟩ => ?_);subst ex;obtain rfl : u = Value.ref a := rx;have kp : ∀ (b : Addr) (o : Obj), s1.heap.get? b = some o -> (s1.heap.push { cls := .type "dict_items", data := .fields #[.ref a] }).get? b = some o := fun b o e => Heap.get?_push_of_some _ e
  have hz : (s1.heap.push { cls := .type "dict_items", data := .fields #[.ref a] }).objs.size = s1.heap.objs.size + 1 := Heap.size_push ..
  rcases hq with ⟨kvs, ha, q⟩ | ⟨kvs, ha, q⟩
  . obtain ⟨z, hs, vs, rel, hD⟩ := jf I1.hok ha
    refine ⟨hD.typeIs, hD.mapOf.noDict, ?_⟩
    show wpAny _ _ (callWith pos (.builtin "dict.items") [.ref a] [] []) _ _ _
    refine method_meetsIn F.slot_dict_items F.entry_dict_items rfl (PySem.evalArgs_none ⟨rfl, hD.typeIs, F.args_dict_items_1 _, _, meets_dict_items (z7 X.prog X.w) a hs, ⟨vs, hD⟩, ?_⟩);obtain ⟨ob, es, ep, ho', hce, hdat, hrest⟩ := id hD;have hA := kn hD ho' hdat;have I2 : Inv X pins σ (upd H1 a (.frz ob (.dK kvs))) s1 := sf (h' := s1.heap) (t' := s1.toks) I1 (by rw [ha]; exact True.intro) ⟨rfl, fun _ _ => rfl⟩ ⟨ob, ho'⟩ ⟨ho', z, hs, vs, rel, hD⟩;have I3 : Inv X pins σ (upd H1 a (.frz ob (.dK kvs))) { s1 with heap := s1.heap.push { cls := .type "dict_items", data := .fields #[.ref a] } } := I2.kept (t' := s1.toks) kp;refine wpAny_pyIter_items (d := a) (kvs := vs) (ep := ep) (s := { s1 with heap := s1.heap.push { cls := .type "dict_items", data := .fields #[.ref a] } }) ⟨_, Heap.get?_push_size _ rfl, rfl, rfl⟩ (hA.at fun o e => kp _ o e) ?_;refine ⟨_, [_], _, _, _, rfl, I3.kept (t' := s1.toks) fun b o e => Heap.get?_push_of_some _ e, zb3 (n := vs.length) (ep := ep) (ob := ob) hdat rel.length.symm, ⟨_, _, Heap.get?_push_size _ rfl⟩, fun b hb => ?_, q ob⟩;have e : b = (s1.heap.push { cls := .type "dict_items", data := .fields #[.ref a] }).objs.size := by simpa using hb
    subst e;exact I3.fpOk (Zm _) (I3.hok.fresh (Zm _))
  . obtain ⟨z, hs, vs, rel, hD⟩ := qy (I1.hok a _ ha)
    refine ⟨hD.typeIs, hD.mapOf.noDict, ?_⟩
    show wpAny _ _ (callWith pos (.builtin "dict.items") [.ref a] [] []) _ _ _
    refine method_meetsIn F.slot_dict_items F.entry_dict_items rfl (PySem.evalArgs_none ⟨rfl, hD.typeIs, F.args_dict_items_1 _, _, meets_dict_items (wp X.prog X.w) a hs, ⟨vs, hD⟩, ?_⟩);obtain ⟨ob, es, ep, ho', hce, hdat, hrest⟩ := id hD;have hA := mi hD ho' hdat;have I2 : Inv X pins σ (upd H1 a (.frz ob (xk X.prog X.w a kvs))) s1 := sf (h' := s1.heap) (t' := s1.toks) I1 (by rw [ha]; exact True.intro) ⟨rfl, fun _ _ => rfl⟩ ⟨ob, ho'⟩ ⟨ho', bz z hs rel hD⟩;have I3 : Inv X pins σ (upd H1 a (.frz ob (xk X.prog X.w a kvs))) { s1 with heap := s1.heap.push { cls := .type "dict_items", data := .fields #[.ref a] } } := I2.kept (t' := s1.toks) kp;refine wpAny_pyIter_items (d := a) (kvs := vs) (ep := ep) (s := { s1 with heap := s1.heap.push { cls := .type "dict_items", data := .fields #[.ref a] } }) ⟨_, Heap.get?_push_size _ rfl, rfl, rfl⟩ (hA.at fun o e => kp _ o e) ?_;refine ⟨_, [_], _, _, _, rfl, I3.kept (t' := s1.toks) fun b o e => Heap.get?_push_of_some _ e, zal (n := vs.length) (ep := ep) (ob := ob) hdat rel.length.symm, ⟨_, _, Heap.get?_push_size _ rfl⟩, fun b hb => ?_, q ob⟩;have e : b = (s1.heap.push { cls := .type "dict_items", data := .fields #[.ref a] }).objs.size := by simpa using hb
    subst e;exact I3.fpOk (Zm _) (I3.hok.fresh (Zm _))
def zfm (t : TE) : TE := fun σ H Q => t σ H fun v H' => ∃ d o u u0, H d = some u0 /\ (∀ o u, u0 ≠ .frz o u) /\ H' d = some (.frz o u) /\ Q v (upd H' d u)
theorem zhg {t : TE} {σ : St} {H : Hp} {Q : VK} : zfm t σ H Q = t σ H fun v H' => ∃ d o u u0, H d = some u0 /\ (∀ o u, u0 ≠ .frz o u) /\ H' d = some (.frz o u) /\ Q v (upd H' d u) := rfl
theorem zf6 {e : Expr} {t : TE} (he : PE X e t) : PE X e (zfm t) := by
  intro pins s σ H Q I h;refine thn (he pins s σ H _ I h) fun v s1 ⟨x, H1, I1, rx, d, o, u, u0, h0, hn, h1, q⟩ => ?_
  have I2 : Inv X pins σ (upd H1 d u) s1 := I1.thaw h1 (fun o' u' z => by
    have := I.base.frzs d o' u' z;rw [h0] at this
    exact hn _ _ (Option.some.inj this))
  exact ⟨x, _, I2, rx, q⟩
end
section
variable {σ : St} {k : Nat} {g : TG} {tt : TT} {te : TE} {H1 : Hp} {Fin : List V -> Hp -> Prop}
theorem zag {P : Program} {w : World} {a : Addr} {ob : Obj} {kvs : List (Option Key × V)} (Pv : Nat -> List V -> Hp -> Prop) (h0 : Pv 0 [] H1) (hz : ∀ i ys H, i <= kvs.length -> Pv i ys H -> ys.length <= sizeLine /\ H a = some (.frz ob (xk P w a kvs)))
    (hs : ∀ i kv ys H T, kvs[i]? = some kv -> H T = none -> Pv i ys H -> g (.ref T) (List.replicate k none ++ σ) (upd H T (.tup [onV kv.1, kv.2])) fun σ2 H2 => σ2.drop k = σ /\ tt σ2 H2 fun b H3 => if b = true then te σ2 H3 fun v H4 => Pv (i + 1) (ys ++ [v]) H4 else Pv (i + 1) ys H3)
    (hd : ∀ ys H, Pv kvs.length ys H -> Fin ys H) : rc (ItNo P w a ob kvs) σ k g tt te H1 Fin := by
  refine ⟨fun i m ys H => m = kvs.length - i /\ i <= kvs.length /\ Pv i ys H, ⟨kvs.length, by simp, ZE _, h0⟩, ?_⟩
  rintro i m ys H ⟨rfl, hi, p⟩
  obtain ⟨q0, qa⟩ := hz i ys H hi p;refine ⟨q0, ?_⟩
  by_cases hlt : i < kvs.length
  . refine .inr ⟨⟨qa, hlt⟩, Pv (i + 1), fun ys' H' p' => ⟨kvs.length - (i + 1), by omega, rfl, hlt, p'⟩, fun x H' y => ?_⟩
    obtain ⟨T, kv, hkv, rfl, hT, rfl⟩ := y;exact hs i kv ys _ T hkv hT p
  . have e : i = kvs.length := by omega
    subst e;exact .inl ⟨⟨qa, Zm _⟩, hd ys H p⟩
end
end L2
namespace L2
open PySem PySem.Spec PyProof.Rows
def offH {K : Type} [DecidableEq K] (xs : List (K × Addr × Value)) (k : K) : List (K × Addr × Value) := xs.filter fun x => decide (x.1 ≠ k)
theorem lg {α β : Type} {g : α -> β} : ∀ {l : List α} {k : Nat}, (l.map g).eraseIdx k = (l.eraseIdx k).map g
  | [], _ => rfl
  | _ :: _, 0 => rfl
  | _ :: l, k + 1 => by simp only [YD, ZL, lg (l := l)]
theorem km {α κ : Type} [DecidableEq κ] {f : α -> κ} : ∀ {xs : List α} {j : Nat} {x : α}, (xs.map f).Nodup -> xs[j]? = some x -> xs.eraseIdx j = xs.filter fun y => decide (f y ≠ f x)
  | [], j, x, _, h => by simp at h
  | y :: ys, 0, x, n, h => by
    simp at h;subst h;have n2 := ZO.mp n;rw [List.eraseIdx_cons_zero, YE (by simp)];refine (List.filter_eq_self.mpr fun z hz => ?_).symm;rw [decide_eq_true_iff];intro e;exact n2.1 (Zp.mpr ⟨z, hz, e⟩)
  | y :: ys, j + 1, x, n, h => by
    have n2 := ZO.mp n;have h' : ys[j]? = some x := by simpa using h
    rw [YD, YF, km n2.2 h'];rw [decide_eq_true_iff];intro e;exact n2.1 (Zp.mpr ⟨x, Zi h', e.symm⟩)
theorem lx {prog : Program} {w : World} {K : Type} [DecidableEq K] {knd : HeapKind prog w K} {A : Around} {E : Value -> Shared -> Prop} {s : Shared} {d a : Addr} {xs : List (K × Addr × Value)} {k : K} {p : Addr × Value} {Q : Option DictEntry -> Shared -> Prop}
    (hr : knd.room A) (hk : knd.is s.heap k a) (hD : Heap.DictOfH knd s.heap d xs) (hp : atKey xs k = some p) (hsz : xs.length <= sizeLine)
    (h : ∀ h', Heap.DictOfH knd h' d (offH xs k) -> Heap.SameBut d s.heap h' -> Q (some ⟨knd.hash k, .ref p.1, p.2⟩) { s with heap := h', toks := s.toks + knd.draws k }) :
    wpAny (model prog w) A (Builtin.Dict.takeOut d (.ref a)) Q E s := by
  obtain ⟨o, es, ep, ho, hc, hd, he, hall, hnd⟩ := id hD;unfold Builtin.Dict.takeOut;refine wpAny_holding (wpAny_bind (knd.pyHash hr hk ?_));refine wpAny_bind (wpAny_dictFind_heap (s := { s with toks := s.toks + knd.draws k }) hr hk ho hd he hall hnd (fun hno => ?_) fun j q hj => ?_)
  . exfalso
    unfold atKey at hp;obtain ⟨x, hx, rfl⟩ := Yc.mp hp;have h1 := Xm hx;have h2 := Yw hx;obtain ⟨j, hj⟩ := ZV h2;have : x.1 = k := by simpa using h1
    exact hno j x.2 (by rw [hj, <- this])
  . have hq : q = p := by
      have e1 : atKey xs k = some q := by
        unfold atKey;have hm := Zi hj
        cases hf : xs.find? fun x => decide (x.1 = k) with
        | none => exact absurd (List.find?_eq_none.mp hf _ hm) (by simp)
        | some x =>
          have h1 : x.1 = k := by simpa using Xm hf
          obtain ⟨i, hi⟩ := ZV (Yw hf)
          have hij : i = j := by
            have li := (Zc.mp hi).1;have lj := (Zc.mp hj).1;have nd := Yk.mp hnd;have ei : (xs.map fun x => x.1)[i]'(by simpa using li) = k := by rw [List.getElem_map, (Zc.mp hi).2]; exact h1
            have ej : (xs.map fun x => x.1)[j]'(by simpa using lj) = k := by rw [List.getElem_map, (Zc.mp hj).2]
            rcases Nat.lt_trichotomy i j with z | z | z
            . exact absurd (ei.trans ej.symm) (nd i j (by simpa using li) (by simpa using lj) z)
            . exact z
            . exact absurd (ej.trans ei.symm) (nd j i (by simpa using lj) (by simpa using li) z)
          rw [hij, hj] at hi;cases hi;rfl
      rw [e1] at hp;exact Option.some.inj hp
    subst hq;have hlj := (Zc.mp hj).1
    have hes : es.size = xs.length := by
      have := congrArg List.length he
      simpa using this
    have hej : es[j]? = some ⟨knd.hash k, .ref q.1, q.2⟩ := by
      have : es.toList[j]? = some (entryOfKey knd (k, q)) := by rw [he, Ze, hj]; rfl
      rw [<- Ys, this];rfl
    refine wpAny_bind (wpAny_dictEntries ho hd ?_);rw [hej];refine wpAny_bind (wpAny_updateDictKeys ho hd (wpAny_pure ?_) (by omega) (by rw [Array.eraseIdxIfInBounds]; split <;> simp <;> omega));refine h _ ?_ (Heap.SameBut.update ..);obtain ⟨c, dc, dt, sl⟩ := o;obtain rfl : dt = .dict es ep := hd;have hg : (s.heap.update d (Obj.mapDictKeys fun x => x.eraseIdxIfInBounds j)).get? d = some ⟨c, dc, .dict (es.eraseIdxIfInBounds j) (ep + 1), sl⟩ := Heap.get?_update_self _ ho rfl;refine ⟨_, es.eraseIdxIfInBounds j, _, hg, hc, rfl, ?_, fun x hx => ?_, ?_⟩
    . have e1 : (es.eraseIdxIfInBounds j).toList = es.toList.eraseIdx j := by
        rw [Array.eraseIdxIfInBounds, dif_pos (by omega)];simp
      rw [e1, he, lg, km hnd hj];rfl
    . have hx' : x ∈ xs := (Xg.mp hx).1
      exact knd.keeps (hall x hx') ho rfl (Heap.SameBut.update ..)
    . exact List.Pairwise.sublist (List.Sublist.map _ List.filter_sublist) hnd
theorem gg {prog : Program} {w : World} {K : Type} [DecidableEq K] (knd : HeapKind prog w K) (d a : Addr) :
    MeetsIn prog w (Builtin.«dict.pop» ⟨[.ref d, .ref a], []⟩) (fun A R s => knd.room A.in1 /\ ∃ k xs p, knd.is s.heap k a /\ Heap.DictOfH knd s.heap d xs /\ xs.length <= sizeLine /\ atKey xs k = some p /\
      ∀ h', Heap.DictOfH knd h' d (offH xs k) -> Heap.SameBut d s.heap h' -> R (.ok (.ret p.2)) { s with heap := h', toks := s.toks + knd.draws k }) :=
  .of_wp fun A R s ⟨hr, k, xs, p, hk, hD, hsz, hp, h⟩ => by
    obtain ⟨o, es, ep, ho, hc, hd, he, hall, hnd⟩ := id hD
    have hne : es.isEmpty = false := by
      cases xs with
      | nil => cases hp
      | cons x xs =>
        have h1 : es.toList ≠ [] := by rw [he]; simp
        rw [Bool.eq_false_iff];intro z;exact h1 (by simpa using z)
    unfold Builtin.«dict.pop»;refine wpAny_bind ?_;unfold Builtin.Dict.keyAndDefault;refine wpAny_bind (wpAny_notOrdered_dict hD.typeIs (wpAny_bind (wpAny_pure (wpAny_bind (wpAny_pure ?_)))))
    show wpAny _ _ (do let x <- pure d; pure (x, Value.ref a, none)) _ _ s
    refine wpAny_bind (wpAny_pure (wpAny_pure ?_))
    show wpAny _ _ (dictEntries d >>= _) _ _ s
    refine wpAny_bind (wpAny_dictEntries ho hd ?_);rw [hne];refine wpAny_bind (wpAny_pure ?_)
    show wpAny _ _ (Builtin.Dict.takeOut d (.ref a) >>= _) _ _ s
    refine wpAny_bind (lx hr hk hD hp hsz fun h' hD' hs => ?_);exact wpAny_bind (wpAny_letGo (wpAny_pure ⟨_, rfl, h h' hD' hs⟩))
section
variable {X : Cx} {pins : List (Addr × Obj)} {σ : St} {H : Hp} {s : Shared} {A : Around} {E : Value -> Shared -> Prop}
theorem KT.off {H : Hp} {kvs : List (List Key × V)} {xs : List (List Key × Addr × Value)} (r : KT H kvs xs) (k : List Key) : KT H (y6 kvs k) (offH xs k) := by
  unfold y6 offH
  induction r with
  | nil => exact .nil
  | @cons p q ps qs h t ih =>
    by_cases e : p.1 = k
    . rw [YE (by simp [e]), YE (by simp [<- h.1, e])]
      exact ih
    . rw [YF (by simp [e]), YF (by simp [<- h.1, e])]
      exact .cons h ih
theorem d_popT {a b : Addr} {kvs : List (List Key × V)} {k : List Key} {v : V} {Q : Value -> Shared -> Prop} (hu : A.units + 1 < cLine) (I : Inv X pins σ H s) (e : H a = some (.dT kvs)) (eb : H b = some (.tup (k.map kV))) (l : valV kvs k = some v)
    (h : ∀ w' s', Inv X pins σ (upd H a (.dT (y6 kvs k))) s' -> RelV v w' -> Q w' s') : wpAny (model X.prog X.w) A (call (.builtin "dict.pop") [.ref a, .ref b]) Q E s := by
  obtain ⟨z, hd, xs, rel, dd⟩ := cg I.hok e;obtain ⟨w', hw, rw'⟩ := RelO.some_of (v := v) (o := (atKey xs k).map (·.2)) (by rw [<- l]; exact rel.val k);obtain ⟨p, hp, hp2⟩ := Yc.mp hw
  refine call_meetsIn PySem.F.slot_dict_pop dd.typeIs PySem.F.entry_dict_pop (PySem.F.args_dict_pop_2 _ _) (gg (tupleKind (z7 X.prog X.w)) a b)
    ⟨tupleKind_room_in1 hu, k, xs, p, qb I.hok eb, dd, by rw [<- Paired.length rel]; exact z, hp, fun h' dd' hs => h p.2 _ ?_ (by rw [hp2]; exact rw')⟩
  obtain ⟨q, es, ep, hq, h2, h3, h4, _, h5⟩ := dd';refine sf I (by rw [e]; exact True.intro) hs ⟨q, hq⟩ ⟨Zd (ag kvs k) z, hd, _, (rel.off k).keeps fun c ys ec => ?_, q, es, ep, hq, h2, h3, h4, h5⟩;rw [zn (ne_of ec e (fun z => nomatch z))];exact ec
end
def zdv (td ty : TE) : TE := fun σ H Q => td σ H fun x H1 => ∃ a, x = .ref a /\ IsD H1 a /\ ty σ H1 fun y H2 => ∃ b kvs k v, y = .ref b /\ H2 a = some (.dT kvs) /\ H2 b = some (.tup (k.map kV)) /\ valV kvs k = some v /\ Q v (upd H2 a (.dT (y6 kvs k)))
theorem zh5 {td ty : TE} {σ : St} {H : Hp} {Q : VK} : zdv td ty σ H Q = td σ H fun x H1 => ∃ a, x = .ref a /\ IsD H1 a /\ ty σ H1 fun y H2 => ∃ b kvs k v, y = .ref b /\ H2 a = some (.dT kvs) /\ H2 b = some (.tup (k.map kV)) /\ valV kvs k = some v /\ Q v (upd H2 a (.dT (y6 kvs k))) := rfl
section
variable {X : Cx} {o e f : Expr} {apos cpos : Pos} {td ty tx : TE}
theorem zga (hu : X.A.units + 1 < cLine) (ho : PE X o td) (he : PE X e ty) (m : M1 X o "pop" apos e cpos) : PE X (.Call (.Attribute o "pop" apos) [e] [] cpos) (zdv td ty) := by
  intro pins s σ H Q I h;refine wpAny_Call_method m.base m.few m.line PySem.F.plainAttrs_dict PySem.F.slot_dict_pop PySem.F.type_dict_pop (thn (ho pins s σ H _ I h) fun u s1 ⟨x, H1, I1, rx, a, ex, d, q1⟩ => ?_);subst ex;obtain rfl : u = Value.ref a := rx;obtain ⟨t1, t2, _⟩ := zdw I1 d;refine ⟨t1, t2, ?_⟩;rw [m.trees];refine Calls.callWith_builtin rfl (Calls.evalArgs_plain (Calls.spliced_cons (thn (he pins s1 σ H1 _ I1 q1) fun iv s2 ⟨y, H2, I2, ry, b, kvs, k, v, ey, ea, eb, l, q2⟩ => Calls.spliced_nil ?_)));subst ey;obtain rfl : iv = Value.ref b := ry;exact d_popT hu I2 ea eb l fun w' s3 I3 rw' => ⟨v, _, I3, rw', q2⟩
end
end L2
namespace L2
open PySem PySem.Spec PyProof.Rows
def zda (xs : List V) (H : Hp) (Q : VK) : Prop := ∃ (a : Addr) (kvs : List (Key × V)), xs = [.ref a] /\ H a = some (.dK kvs) /\ ∀ p, H p = none -> Q (.ref p) (upd H p (.lst (kvs.map fun kv => kV kv.1)))
theorem zhc {xs : List V} {H : Hp} {Q : VK} : zda xs H Q = ∃ (a : Addr) (kvs : List (Key × V)), xs = [.ref a] /\ H a = some (.dK kvs) /\ ∀ p, H p = none -> Q (.ref p) (upd H p (.lst (kvs.map fun kv => kV kv.1))) := rfl
theorem ik {P : Program} {w : World} : ∀ {es : List DictEntry} {vs : List (Key × Value)} {kvs : List (Key × V)}, Pairs (z7 P w) es vs -> KV kvs vs -> Vals (kvs.map fun kv => kV kv.1) (es.map fun e => e.key)
  | _, _, _, .nil, h => by cases h; exact .nil
  | _, _, _, .cons h1 h2 t, h => by
    cases h with
    | cons a b => exact .cons (by show RelV (kV _) _; rw [a.1]; exact zb7 h1) (ik t b)
theorem dw {P : Program} {w : World} : ∀ {es : List DictEntry} {vs : List (Key × Value)}, Pairs (z7 P w) es vs -> es.length = vs.length
  | _, _, .nil => rfl
  | _, _, .cons _ _ t => by rw [ZP, ZP, dw t]
section
variable {X : Cx}
theorem zb0 (hc : X.calm = true) : CallR X (.type "list") zda := by
  intro pins s σ H xs us Q I r h;obtain ⟨a, kvs, rfl, ha, q⟩ := h;obtain ⟨u, rfl, ru⟩ := ua r;obtain rfl : u = Value.ref a := ru;obtain ⟨z, hd, vs, rel, dd⟩ := jf I.hok ha;obtain ⟨o, es, ep, ho, hce, hdat, hk, hp, hnd⟩ := id dd
  have hl : es.size = kvs.length := by
    have h1 := dw hp;have h2 := rel.length
    simpa [h2] using h1
  refine PySem.W.kdl_call (zbr hd) (I.ok.hd hc) ⟨o, ho, hce, hdat⟩ (by omega) fun h' tk acc' c' kp e hacc => ?_
  have hv : acc'.toList = es.toList.map fun e => e.key := by
    refine Xb fun i => ?_
    have hs : acc'.size = es.size := hacc.1
    rcases Nat.lt_or_ge i es.size with hi | hi
    . have h1 : acc'[i]? = some acc'[i] := by simp [hs, hi]
      obtain ⟨e, h2, h3⟩ := hacc.2 i _ h1;rw [Ze, Ys, h1, Ys, h2, h3];rfl
    . rw [ZQ (by simp; omega), ZQ (by simp; omega)]
  refine ⟨.ref s.heap.objs.size, _, I.laid (t' := tk) kp (Zm _) (show ObjOk X.prog X.w _ h' _ (.lst (kvs.map fun kv => kV kv.1)) from ⟨?_, es.toList.map fun e => e.key, c', ik hp rel, ?_⟩), rfl, q _ (I.hok.fresh (Zm _))⟩
  . rw [Za]; exact z
  . rw [e, <- hv]
end
theorem zfu {prog : Program} {w : World} {A : Around} {E : Value -> Shared -> Prop} {s : Shared} {b : Addr} {ks : List Key} {x : Str} {t : Tok} {Q : Bool -> Shared -> Prop} (hk : (tupleKind (z7 prog w)).is s.heap ks b) (hq : Q false s) : wpAny (model prog w) A (tableMayTell (.ref b) [.str x t]) Q E s := by
  unfold tableMayTell;rw [if_neg (by simp)];refine wpAny_bind ((tupleKind (z7 prog w)).quiet hk ?_);rw [if_neg (by simp)];refine wpAny_bind ?_;simp only [YR, List.forIn_nil];refine wpAny_bind (wpAny_bind ?_);rw [show eqIsQuiet 8 (Value.str x t) = pure true from rfl];refine wpAny_pure ?_;rw [if_neg (by simp)];exact wpAny_pure (wpAny_pure (wpAny_pure hq))
theorem zcg {prog : Program} {w : World} {A : Around} {E : Value -> Shared -> Prop} {s : Shared} {d b : Addr} {o : Obj} {e : DictEntry} {ep : Nat} {ks : List Key} {x : Str} {t : Tok} {h : Int} {Q : Option Nat -> Shared -> Prop}
    (hr : A.units < cLine) (hk : (tupleKind (z7 prog w)).is s.heap ks b) (ho : s.heap.get? d = some o) (hd : o.data = .dict #[e] ep) (he : e.key = .str x t) (hq : Q none s) : wpAny (model prog w) A (dictFind d (.ref b) h) Q E s := by
  obtain ⟨ob, its, n, hb1, hb2, hb3, hb4⟩ := id hk;obtain ⟨hs, ky, vl⟩ := e;obtain rfl : ky = .str x t := he;unfold dictFind;refine wpAny_holding (wpAny_bind (wpAny_dictEntries ho hd ?_));dsimp only
  by_cases hh : hs = h
  . subst hh
    rw [show placesWithHash (#[⟨hs, .str x t, vl⟩] : Array DictEntry).size (fun i => Option.map (fun x => x.hash) (#[⟨hs, .str x t, vl⟩] : Array DictEntry)[i]?) hs = [0] by
      unfold placesWithHash
      simp [Yr]]
    rw [show List.filterMap (fun i => Option.map (fun x => x.key) (#[⟨hs, .str x t, vl⟩] : Array DictEntry)[i]?) [0] = [Value.str x t] from rfl];rw [if_neg (by simp [carriedByValue]), if_neg (show ¬ ((#[(⟨hs, .str x t, vl⟩ : DictEntry)].any fun e => e.key == Value.ref b && e.hash != hs) = true) by simp), if_neg (show ¬ (([Value.str x t] == [Value.ref b]) = true) from Bool.false_ne_true)];refine wpAny_bind (zfu hk ?_);rw [if_neg (by simp)];refine wpAny_bind ?_;simp only [YR, List.forIn_nil];refine wpAny_bind ?_
    show wpAny _ _ (if (hs == hs) = true then _ else _) _ _ s
    rw [if_pos (by simp)];refine wpAny_bind (wpAny_dictEpoch ho hd (wpAny_bind (SeqAt.EqAt.str_tuple x t (items := its) ⟨ob, hb1, hb2, n, hb3⟩ hr _ _ _ _ (wpAny_bind (wpAny_dictEpoch ho hd ?_)))));rw [if_neg (by simp), if_neg (by simp)];refine wpAny_bind (wpAny_rule ?_);rw [if_neg (by simp)];exact wpAny_pure (wpAny_pure (wpAny_pure hq))
  . rw [show placesWithHash (#[⟨hs, .str x t, vl⟩] : Array DictEntry).size (fun i => Option.map (fun x => x.hash) (#[⟨hs, .str x t, vl⟩] : Array DictEntry)[i]?) h = [] by
      unfold placesWithHash
      simp [Yr, hh]]
    rw [List.filterMap_nil];rw [if_neg (by simp [carriedByValue]), if_neg (show ¬ ((#[(⟨hs, .str x t, vl⟩ : DictEntry)].any fun e => e.key == Value.ref b && e.hash != h) = true) by simp), if_neg (show ¬ ((([] : List Value) == [Value.ref b]) = true) from Bool.false_ne_true)];refine wpAny_bind ?_;unfold tableMayTell;rw [if_pos (by simp)];refine wpAny_pure ?_;rw [if_neg (by simp)];refine wpAny_bind ?_;simp only [List.forIn_nil];exact wpAny_pure (wpAny_pure hq)
theorem gp {prog : Program} {w : World} (d b : Addr) (hd : (d == sysModules) = false) :
    MeetsIn prog w (Builtin.«dict.get» ⟨[.ref d, .ref b], []⟩) (fun A R s => A.in1.units < cLine /\ ∃ ks o e ep x t, (tupleKind (z7 prog w)).is s.heap ks b /\ s.heap.get? d = some o /\ o.ExactDict /\ o.data = .dict #[e] ep /\ e.key = .str x t /\ R (.ok (.ret .none)) { s with toks := s.toks + (tupleKind (z7 prog w)).draws ks }) :=
  .of_wp fun A R s ⟨hr, ks, o, e, ep, x, t, hk, ho, hc, hdt, he, h⟩ => by
    unfold Builtin.«dict.get»;refine wpAny_bind ?_;unfold Builtin.Dict.keyAndDefault;refine wpAny_bind (wpAny_notOrdered_dict (show s.TypeIs (.ref d) "dict" from ⟨o, ho, hc.1⟩) (wpAny_bind (wpAny_pure (wpAny_bind (wpAny_pure ?_)))))
    show wpAny _ _ (do let x <- pure d; pure (x, Value.ref b, none)) _ _ s
    refine wpAny_bind (wpAny_pure (wpAny_pure ?_))
    show wpAny _ _ (dictGet d (.ref b) >>= _) _ _ s
    unfold dictGet;refine wpAny_bind (wpAny_holding (wpAny_bind ((tupleKind (z7 prog w)).pyHash hr hk (wpAny_bind (zcg (s := { s with toks := s.toks + (tupleKind (z7 prog w)).draws ks }) hr hk ho hdt he (wpAny_pure ?_))))))
    show wpAny _ _ (Builtin.Dict.missed d (.ref b) >>= _) _ _ _
    refine wpAny_bind (wpAny_missed_other hd ?_);exact wpAny_pure ⟨_, rfl, h⟩
def ze4 (td ty : TE) : TE := fun σ H Q => td σ H fun x H1 => ∃ a, x = .ref a /\ IsD H1 a /\ ty σ H1 fun y H2 => (∃ o, DGet H2 a y o /\ Q (o.getD .non) H2) \/ ∃ (b : Addr) (z : Str) (v : V) (k : List Key), y = .ref b /\ H2 a = some (.dK [(Sum.inr z, v)]) /\ H2 b = some (.tup (k.map kV)) /\ Q .non H2
theorem e_dgO {td ty : TE} {σ : St} {H : Hp} {Q : VK} : ze4 td ty σ H Q = td σ H fun x H1 => ∃ a, x = .ref a /\ IsD H1 a /\ ty σ H1 fun y H2 => (∃ o, DGet H2 a y o /\ Q (o.getD .non) H2) \/ ∃ (b : Addr) (z : Str) (v : V) (k : List Key), y = .ref b /\ H2 a = some (.dK [(Sum.inr z, v)]) /\ H2 b = some (.tup (k.map kV)) /\ Q .non H2 := rfl
section
variable {X : Cx} {o e f : Expr} {apos cpos : Pos} {td ty tx : TE}
theorem zge (hu : X.A.units + 1 < cLine) (ho : PE X o td) (he : PE X e ty) (m : M1 X o "get" apos e cpos) : PE X (.Call (.Attribute o "get" apos) [e] [] cpos) (ze4 td ty) := by
  intro pins s σ H Q I h;refine wpAny_Call_method m.base m.few m.line PySem.F.plainAttrs_dict PySem.F.slot_dict_get PySem.F.type_dict_get (thn (ho pins s σ H _ I h) fun u s1 ⟨x, H1, I1, rx, a, ex, d, q1⟩ => ?_);subst ex;obtain rfl : u = Value.ref a := rx;obtain ⟨t1, t2, _⟩ := zdw I1 d;refine ⟨t1, t2, ?_⟩;rw [m.trees];refine Calls.callWith_builtin rfl (Calls.evalArgs_plain (Calls.spliced_cons (thn (he pins s1 σ H1 _ I1 q1) fun iv s2 ⟨y, H2, I2, ry, q2⟩ => Calls.spliced_nil ?_)))
  rcases q2 with ⟨ov, g, q2⟩ | ⟨b, z, v, k, rfl, ha, hb, q2⟩
  . exact d_get1 hu I2 g ry fun w' s3 I3 rw' => ⟨_, H2, I3, rw', q2⟩
  . obtain rfl : iv = Value.ref b := ry
    obtain ⟨_, hd, vs, rel, dd⟩ := jf I2.hok ha;obtain ⟨ob, es, ep, e1, e2, e3, e4, e5, e6⟩ := id dd
    have hes : ∃ e x t, es = #[e] /\ e.key = .str x t := by
      cases rel with
      | cons r1 r2 =>
        cases r2;obtain ⟨l⟩ := es
        cases e5 with
        | cons p1 p2 p3 =>
          cases p3;rw [<- r1.1] at p1
          rcases ym (k := Sum.inr z) p1 with ⟨i, t, q, _⟩ | ⟨y, t, q, q'⟩
          . cases q
          . exact ⟨_, y, t, rfl, q'⟩
    obtain ⟨e, x, t, rfl, hkey⟩ := hes;exact call_meetsIn PySem.F.slot_dict_get dd.typeIs PySem.F.entry_dict_get (PySem.F.args_dict_get_2 _ _) (gp a b hd) ⟨tupleKind_room_in1 (knd := z7 X.prog X.w) hu, k, ob, e, ep, x, t, qb I2.hok hb, e1, e2, e3, hkey, ⟨.non, H2, I2.tok _, rfl, q2⟩⟩
end
theorem cxPr {CX : CXT} {P : Program} {w : World} {K : Fg} {mg : Str -> Option Value} {base : Heap} {N : List Str} {qual : Str} {scope : Scope} {f : Addr} {cd : Value} {A : Around} {outer : List Env} {s : Shared} {H : Hp} {E : XK} : (cxOf CX P w K mg base N qual scope f cd A outer s H E).prog = P := rfl
theorem cxWo {CX : CXT} {P : Program} {w : World} {K : Fg} {mg : Str -> Option Value} {base : Heap} {N : List Str} {qual : Str} {scope : Scope} {f : Addr} {cd : Value} {A : Around} {outer : List Env} {s : Shared} {H : Hp} {E : XK} : (cxOf CX P w K mg base N qual scope f cd A outer s H E).w = w := rfl
end L2
namespace Mine
open PySem PySem.Spec PyProof.Rows L2
theorem yq {α β : Type} {g : α -> β} {xs : List α} {i : Nat} {x : β} (h : (xs.map g)[i]? = some x) : ∃ y, xs[i]? = some y /\ g y = x := by
  rw [Ze] at h
  cases e : xs[i]? with
  | none => rw [e] at h; cases h
  | some y => rw [e] at h; cases h; exact ⟨y, rfl, rfl⟩
def zm := And.intro @cxPr (And.intro @cxWo (And.intro @e_setN (And.intro @e_lenN (And.intro @e_isN (And.intro @zf2 (And.intro @zhg (And.intro @zh5 (And.intro @e_dgO (And.intro @zhc (And.intro @e_way (And.intro @zh8 (And.intro @e_thaw (And.intro @zhm (And.intro @e_down (And.intro @e_var (And.intro @e_C (And.intro @e_op (And.intro @e_un (And.intro @e_rI (And.intro @e_rI0 (And.intro @e_rU (And.intro @e_rEq (And.intro @e_rNe (And.intro @e_ixL (And.intro @e_ixT (And.intro @e_set (And.intro @e_cat (And.intro @e_test (And.intro @e_B (And.intro @e_and (And.intro @e_or (And.intro @e_not (And.intro @e_andV (And.intro @e_orV (And.intro @e_notV (And.intro @e_ifE (And.intro @e_all (And.intro @e_next (And.intro @e_seq (And.intro @e_brk (And.intro @e_cnt (And.intro @e_drop (And.intro @e_ret (And.intro @e_retN (And.intro @e_ifS (And.intro @e_asg (And.intro @zhf (And.intro @e_setC (And.intro @e_augS (And.intro @e_ipI (And.intro @e_nil (And.intro @e_cons (And.intro @e_tup (And.intro @e_lst (And.intro @e_call (And.intro @e_CB (And.intro @e_BM (And.intro @e_app (And.intro @e_rng1 (And.intro @e_rng2 (And.intro @e_iL (And.intro @e_for (And.intro @e_comp (And.intro @cxK (And.intro @e_zip (And.intro @e_gTup (And.intro @e_gNil (And.intro @zht (And.intro @e_rep (And.intro @e_gSub (And.intro @e_slL (And.intro @e_tSl (And.intro @zgu (And.intro @e_part (And.intro @zhv (And.intro @e_BM0 (And.intro @zh9 (And.intro @e_in (And.intro @e_enum (And.intro @e_minK (And.intro @zh4 (And.intro @zh2 (And.intro @zg2 (And.intro @e_try0 (And.intro @suK (And.intro @noxK (And.intro @tryK (And.intro @e_eqD (And.intro @e_inD (And.intro @e_iStr (And.intro @e_mulS (And.intro @e_ixS (And.intro @e_join (And.intro @e_iT (And.intro @e_iSeq (And.intro @e_tupL (And.intro @e_disp (And.intro @zgt (And.intro @zg6 (And.intro @e_minL (And.intro @e_maxL (And.intro @zfx (And.intro @e_leS (And.intro @e_vI0 (And.intro @e_vI (And.intro @e_ints (And.intro @e_isB (And.intro @e_catH (And.intro @zfw (And.intro @e_slH (And.intro @e_slT (And.intro @zf8 (And.intro @zgc (And.intro @e_inK (And.intro @e_setD (And.intro @zgy (And.intro @e_dget (And.intro @e_zip2 (And.intro @e_BMT (And.intro @zhi (@e_maxK)))))))))))))))))))))))))))))))))))))))))))))))))))))))))))))))))))))))))))))))))))))))))))))))))))))))))))))))))))))))))
def zl := And.intro @ZP.{0} (And.intro @Yv.{0} (And.intro @Nat.zero_add (And.intro @YT.{0} (And.intro @List.replicate_zero.{0} (And.intro @List.drop_succ_cons.{0} (And.intro @List.drop_zero.{0} (And.intro @Int.zero_add (And.intro @List.getElem?_cons_zero.{0} (And.intro @List.getElem?_cons_succ.{0} (And.intro @List.set_cons_zero.{0} (And.intro @List.set_cons_succ.{0} (And.intro @Option.some.injEq.{0} (And.intro @V.int.injEq (And.intro @V.ref.injEq (And.intro @V.bl.injEq (And.intro @V.ty.injEq (And.intro @V.str.injEq (And.intro @List.cons.injEq.{0} (And.intro @Ye.{0} (And.intro @List.cons_append.{0} (And.intro @List.nil_append.{0} (And.intro @exists_eq.{1} (And.intro @exists_eq'.{1} (And.intro @exists_eq_left.{1} (And.intro @exists_eq_left'.{1} (And.intro @exists_and_left.{1} (And.intro @exists_and_right.{1} (And.intro @and_assoc (And.intro @true_and (@and_true))))))))))))))))))))))))))))))
def top (i : Nat) : Stmt := PySem.Challenge.pw_trueword_k47_no_menus.main.body.getD i (.Pass ⟨0, 0, 0, 0⟩)
abbrev u9 : Stmt := top 13
theorem jq : z6 ["thing"] ["thing"] (ze u9) := ⟨rfl, rfl, rfl, by decide +kernel, rfl, by decide +kernel, by decide +kernel⟩
abbrev uw : Stmt := top 14
theorem d5 : z6 ["thing"] ["thing"] (ze uw) := ⟨rfl, rfl, rfl, by decide +kernel, rfl, by decide +kernel, by decide +kernel⟩
abbrev uc : Stmt := top 15
theorem fh : z6 ["thing", "width"] ["thing", "width"] (ze uc) := ⟨rfl, rfl, rfl, by decide +kernel, rfl, by decide +kernel, by decide +kernel⟩
abbrev ot : Stmt := top 21
theorem zcd : z6 ["thing"] ["thing"] (ze ot) := ⟨rfl, rfl, rfl, by decide +kernel, rfl, by decide +kernel, by decide +kernel⟩
abbrev sj : Stmt := top 22
theorem bq : z6 ["thing", "most"] ["thing", "most"] (ze sj) := ⟨rfl, rfl, rfl, by decide +kernel, rfl, by decide +kernel, by decide +kernel⟩
abbrev tm : Stmt := top 23
theorem dz : z6 ["thing", "height", "width"] ["thing", "height", "width"] (ze tm) := ⟨rfl, rfl, rfl, by decide +kernel, rfl, by decide +kernel, by decide +kernel⟩
abbrev oh : Stmt := top 24
theorem zck : z6 ["thing", "width"] ["thing", "width"] (ze oh) := ⟨rfl, rfl, rfl, by decide +kernel, rfl, by decide +kernel, by decide +kernel⟩
abbrev oj : Stmt := top 25
theorem zc3 : z6 ["hand"] ["hand"] (ze oj) := ⟨rfl, rfl, rfl, by decide +kernel, rfl, by decide +kernel, by decide +kernel⟩
abbrev qi : Stmt := top 26
theorem zam : z6 ["hands"] ["hands"] (ze qi) := ⟨rfl, rfl, rfl, by decide +kernel, rfl, by decide +kernel, by decide +kernel⟩
abbrev wk : Stmt := top 27
theorem qv : z6 ["hand"] ["hand"] (ze wk) := ⟨rfl, rfl, rfl, by decide +kernel, rfl, by decide +kernel, by decide +kernel⟩
abbrev x9 : Stmt := top 28
theorem qg : z6 ["hand"] ["hand"] (ze x9) := ⟨rfl, rfl, rfl, by decide +kernel, rfl, by decide +kernel, by decide +kernel⟩
abbrev sv : Stmt := top 29
theorem c7 : z6 ["hand", "word"] ["hand", "word"] (ze sv) := ⟨rfl, rfl, rfl, by decide +kernel, rfl, by decide +kernel, by decide +kernel⟩
abbrev vf : Stmt := top 30
theorem sc_count_of_rows : z6 ["hands", "count", "hand"] ["hands"] (ze vf) := ⟨rfl, rfl, rfl, by decide +kernel, rfl, by decide +kernel, by decide +kernel⟩
abbrev v7 : Stmt := top 31
theorem fu : z6 ["outcomes", "hands"] ["outcomes", "hands"] (ze v7) := ⟨rfl, rfl, rfl, by decide +kernel, rfl, by decide +kernel, by decide +kernel⟩
abbrev vx : Stmt := top 32
theorem sc_kept_hand : z6 ["hand", "worths"] ["hand"] (ze vx) := ⟨rfl, rfl, rfl, by decide +kernel, rfl, by decide +kernel, by decide +kernel⟩
abbrev u8 : Stmt := top 33
theorem jr : z6 ["outcomes", "hands"] ["outcomes", "hands"] (ze u8) := ⟨rfl, rfl, rfl, by decide +kernel, rfl, by decide +kernel, by decide +kernel⟩
abbrev ud : Stmt := top 34
theorem fc : z6 ["house"] ["house"] (ze ud) := ⟨rfl, rfl, rfl, by decide +kernel, rfl, by decide +kernel, by decide +kernel⟩
abbrev qm : Stmt := top 35
theorem zaz : z6 ["house"] ["house"] (ze qm) := ⟨rfl, rfl, rfl, by decide +kernel, rfl, by decide +kernel, by decide +kernel⟩
abbrev re : Stmt := top 36
theorem sc_with_each : z6 ["rows", "words", "longer", "row"] ["rows", "words"] (ze re) := ⟨rfl, rfl, rfl, by decide +kernel, rfl, by decide +kernel, by decide +kernel⟩
abbrev so : Stmt := top 37
theorem sc_rows_over : z6 ["hands", "rows", "hand"] ["hands"] (ze so) := ⟨rfl, rfl, rfl, by decide +kernel, rfl, by decide +kernel, by decide +kernel⟩
abbrev oz : Stmt := top 38
theorem zcb : z6 ["house"] ["house"] (ze oz) := ⟨rfl, rfl, rfl, by decide +kernel, rfl, by decide +kernel, by decide +kernel⟩
abbrev o0 : Stmt := top 39
theorem zcs : z6 ["things", "k"] ["things", "k"] (ze o0) := ⟨rfl, rfl, rfl, by decide +kernel, rfl, by decide +kernel, by decide +kernel⟩
abbrev rb : Stmt := top 40
theorem bt : z6 ["house", "k"] ["house", "k"] (ze rb) := ⟨rfl, rfl, rfl, by decide +kernel, rfl, by decide +kernel, by decide +kernel⟩
abbrev u4 : Stmt := top 42
theorem cc : z6 ["house", "thing"] ["house", "thing"] (ze u4) := ⟨rfl, rfl, rfl, by decide +kernel, rfl, by decide +kernel, by decide +kernel⟩
abbrev oo : Stmt := top 44
theorem zcy : z6 ["offer"] ["offer"] (ze oo) := ⟨rfl, rfl, rfl, by decide +kernel, rfl, by decide +kernel, by decide +kernel⟩
abbrev ut : Stmt := top 45
theorem d4 : z6 ["offer"] ["offer"] (ze ut) := ⟨rfl, rfl, rfl, by decide +kernel, rfl, by decide +kernel, by decide +kernel⟩
abbrev ie : Stmt := top 46
theorem sc_pick : z6 ["house", "k", "menu", "word", "worths", "offers"] ["house", "k", "menu", "word"] (ze ie) := ⟨rfl, rfl, rfl, by decide +kernel, rfl, by decide +kernel, by decide +kernel⟩
abbrev on : Stmt := top 47
theorem zbz : z6 ["house", "thing"] ["house", "thing"] (ze on) := ⟨rfl, rfl, rfl, by decide +kernel, rfl, by decide +kernel, by decide +kernel⟩
abbrev rg : Stmt := top 48
theorem sc_are_menus : z6 ["house", "k", "thing", "rows"] ["house", "k", "thing"] (ze rg) := ⟨rfl, rfl, rfl, by decide +kernel, rfl, by decide +kernel, by decide +kernel⟩
abbrev ub : Stmt := top 49
theorem ff : z6 ["house", "k", "menus"] ["house", "k", "menus"] (ze ub) := ⟨rfl, rfl, rfl, by decide +kernel, rfl, by decide +kernel, by decide +kernel⟩
abbrev uf : Stmt := top 51
theorem fz : z6 ["script", "k"] ["script", "k"] (ze uf) := ⟨rfl, rfl, rfl, by decide +kernel, rfl, by decide +kernel, by decide +kernel⟩
abbrev z9 : Stmt := top 52
theorem sc_law_pool : z6 ["cell", "many", "letters", "number", "filler", "begin", "step", "size", "place", "front", "back"] ["cell", "many"] (ze z9) := ⟨rfl, rfl, rfl, by decide +kernel, rfl, by decide +kernel, by decide +kernel⟩
abbrev sy : Stmt := top 53
theorem sc_law_drawn : z6 ["script", "k", "many", "cell", "number"] ["script", "k"] (ze sy) := ⟨rfl, rfl, rfl, by decide +kernel, rfl, by decide +kernel, by decide +kernel⟩
abbrev sm : Stmt := top 54
theorem a7 : z6 ["cell"] ["cell"] (ze sm) := ⟨rfl, rfl, rfl, by decide +kernel, rfl, by decide +kernel, by decide +kernel⟩
abbrev rf : Stmt := top 55
theorem sc_law_parts : z6 ["script", "tops", "first", "shape", "outcomes", "hands", "k", "j", "size", "words", "worths", "word"] ["script", "tops"] (ze rf) := ⟨rfl, rfl, rfl, by decide +kernel, rfl, by decide +kernel, by decide +kernel⟩
abbrev ql : Stmt := top 56
theorem sc_law_rows : z6 ["hands", "rows", "hand", "grown", "row"] ["hands"] (ze ql) := ⟨rfl, rfl, rfl, by decide +kernel, rfl, by decide +kernel, by decide +kernel⟩
abbrev sr : Stmt := top 57
theorem aw : z6 ["cell", "worth"] ["cell", "worth"] (ze sr) := ⟨rfl, rfl, rfl, by decide +kernel, rfl, by decide +kernel, by decide +kernel⟩
abbrev rj : Stmt := top 58
theorem sc_law_menus : z6 ["script", "outcomes", "hands", "k", "menus", "j", "rows", "step", "others", "menu", "worths", "i", "place", "cell"] ["script", "outcomes", "hands", "k"] (ze rj) := ⟨rfl, rfl, rfl, by decide +kernel, rfl, by decide +kernel, by decide +kernel⟩
abbrev qq : Stmt := top 59
theorem sc_law_told : z6 ["house", "k", "menus", "found", "kinds", "e"] ["house", "k", "menus"] (ze qq) := ⟨rfl, rfl, rfl, by decide +kernel, rfl, by decide +kernel, by decide +kernel⟩
abbrev zf : Stmt := top 60
theorem sc_law_spoiled : z6 ["menus", "others", "cell", "way", "first"] ["menus", "others", "cell"] (ze zf) := ⟨rfl, rfl, rfl, by decide +kernel, rfl, by decide +kernel, by decide +kernel⟩
abbrev ja : Stmt := top 61
theorem sc_law : z6 ["script", "outcomes", "hands", "house", "cell", "k", "menus", "rows", "thing", "found", "kinds"] ["script"] (ze ja) := ⟨rfl, rfl, rfl, by decide +kernel, rfl, by decide +kernel, by decide +kernel⟩
structure Bt (mg : Str -> Option Value) : Prop where
  «ValueError» : mg "ValueError" = none
  «abs» : mg "abs" = none
  «all» : mg "all" = none
  «bool» : mg "bool" = none
  «dict» : mg "dict" = none
  «int» : mg "int" = none
  «isinstance» : mg "isinstance" = none
  «len» : mg "len" = none
  «list» : mg "list" = none
  «max» : mg "max" = none
  «min» : mg "min" = none
  «range» : mg "range" = none
  «set» : mg "set" = none
  «str» : mg "str" = none
  «tuple» : mg "tuple" = none
  «zip» : mg "zip" = none
  k_MOST_WORDS : ∃ t, mg "MOST_WORDS" = some (Value.int 8 t)
  k_MOST_LETTERS : ∃ t, mg "MOST_LETTERS" = some (Value.int 8 t)
  k_MOST_OUTCOMES : ∃ t, mg "MOST_OUTCOMES" = some (Value.int 8 t)
  k_MOST_HANDS : ∃ t, mg "MOST_HANDS" = some (Value.int 4 t)
  k_MOST_ROWS : ∃ t, mg "MOST_ROWS" = some (Value.int 256 t)
structure Ad where
  NoHouse : Addr
  NoMenu : Addr
  TrueError : Addr
  NoWord : Addr
  NoWeight : Addr
  NoStand : Addr
  NoShare : Addr
  NoRule : Addr
  NoRow : Addr
  NoPays : Addr
structure Ct (K : Fg) (mg : Str -> Option Value) (a : Ad) : Prop where
  m_NoHouse : mg "NoHouse" = some (.ref a.NoHouse)
  q_NoHouse : ErrQ K a.NoHouse
  m_NoMenu : mg "NoMenu" = some (.ref a.NoMenu)
  q_NoMenu : ErrQ K a.NoMenu
  v_NoMenu : PySem.W.kitOne K (.ref a.NoMenu) (.type "ValueError") = some true
  m_TrueError : mg "TrueError" = some (.ref a.TrueError)
  q_TrueError : ErrQ K a.TrueError
  m_NoWord : mg "NoWord" = some (.ref a.NoWord)
  m_NoWeight : mg "NoWeight" = some (.ref a.NoWeight)
  m_NoStand : mg "NoStand" = some (.ref a.NoStand)
  m_NoShare : mg "NoShare" = some (.ref a.NoShare)
  m_NoRule : mg "NoRule" = some (.ref a.NoRule)
  m_NoRow : mg "NoRow" = some (.ref a.NoRow)
  m_NoPays : mg "NoPays" = some (.ref a.NoPays)
  k_NoMenu_NoHouse : PySem.W.kitOne K (.ref a.NoMenu) (.ref a.NoHouse) = some false
  s_NoMenu_NoMenu : PySem.W.mroIn K a.NoMenu (.ref a.NoMenu) = some true
  k_NoMenu_NoMenu : PySem.W.kitOne K (.ref a.NoMenu) (.ref a.NoMenu) = some true
  s_NoMenu_TrueError : PySem.W.mroIn K a.NoMenu (.ref a.TrueError) = some true
  k_NoMenu_TrueError : PySem.W.kitOne K (.ref a.NoMenu) (.ref a.TrueError) = some true
  k_NoMenu_NoWord : PySem.W.kitOne K (.ref a.NoMenu) (.ref a.NoWord) = some false
  k_NoMenu_NoWeight : PySem.W.kitOne K (.ref a.NoMenu) (.ref a.NoWeight) = some false
  k_NoMenu_NoStand : PySem.W.kitOne K (.ref a.NoMenu) (.ref a.NoStand) = some false
  k_NoMenu_NoShare : PySem.W.kitOne K (.ref a.NoMenu) (.ref a.NoShare) = some false
  k_NoMenu_NoRule : PySem.W.kitOne K (.ref a.NoMenu) (.ref a.NoRule) = some false
  k_NoMenu_NoRow : PySem.W.kitOne K (.ref a.NoMenu) (.ref a.NoRow) = some false
  k_NoMenu_NoPays : PySem.W.kitOne K (.ref a.NoMenu) (.ref a.NoPays) = some false
structure NewGrid (H H' : Hp) (b : Addr) (bs : List Addr) (rows : List (List Int)) (k n : Nat) : Prop where
  same : Same H H'
  nb : H b = none
  nr : ∀ r ∈ bs, H r = none
  nd : bs.Nodup
  ne : b ∉ bs
  at' : H' b = some (.lst (bs.map V.ref))
  lb : bs.length = k
  lr : rows.length = k
  row : ∀ (i : Nat) (r : Addr) (ns : List Int), bs[i]? = some r -> rows[i]? = some ns -> H' r = some (.lst (ns.map V.int)) /\ ns.length = n
theorem NewGrid.grid {K : Fg} {H H' : Hp} {b : Addr} {bs : List Addr} {rows : List (List Int)} {k n : Nat} (g : NewGrid H H' b bs rows k n) : GridL K H' b bs rows :=
  ⟨.of g.at', g.lb.trans g.lr.symm, fun i r ns e1 e2 => .of (g.row i r ns e1 e2).1⟩
theorem Same.upd {H H' : Hp} (s : Same H H') {a : Addr} {o : HO} (n : H a = none) : Same H (upd H' a o) := fun b u e => by
  rw [zn (y0 e n)]; exact s b u e
theorem NewGrid.nil {H H' : Hp} {b : Addr} {n : Nat} (s : Same H H') (nb : H' b = none) : NewGrid H (upd H' b (.lst [])) b [] [] 0 n :=
  ⟨Same.upd s (s.free nb), s.free nb, (fun _ z => nomatch z), YB, (fun z => nomatch z), zd, rfl, rfl, (fun i r ns e => by simp at e)⟩
theorem NewGrid.laid {H H' : Hp} {b c : Addr} {bs : List Addr} {rows : List (List Int)} {k n : Nat} {o : HO} (g : NewGrid H H' b bs rows k n) (nc : H' c = none) : NewGrid H (L2.upd H' c o) b bs rows k n :=
  ⟨Same.upd g.same (g.same.free nc), g.nb, g.nr, g.nd, g.ne, by rw [zn (y0 g.at' nc)]; exact g.at', g.lb, g.lr, fun i r ns e1 e2 => by
    obtain ⟨q, l⟩ := g.row i r ns e1 e2
    exact ⟨by rw [zn (y0 q nc)]; exact q, l⟩⟩
theorem NewGrid.snoc {H H' : Hp} {b c : Addr} {bs : List Addr} {rows : List (List Int)} {k n : Nat} {ns : List Int} (g : NewGrid H H' b bs rows k n) (hn : H c = none) (hc : H' c = some (.lst (ns.map V.int))) (hl : ns.length = n) (hb : c ∉ bs) (hcb : c ≠ b) :
    NewGrid H (L2.upd H' b (.lst (bs.map V.ref ++ [.ref c]))) b (bs ++ [c]) (rows ++ [ns]) (k + 1) n := by
  refine ⟨Same.upd g.same g.nb, g.nb, fun r hr => ?_, ?_, ?_, ?_, by rw [Zo, g.lb]; rfl, by rw [Zo, g.lr]; rfl, fun i r ms e1 e2 => ?_⟩
  . rcases ZH.mp hr with z | z
    . exact g.nr r z
    . rw [ZC.mp z]; exact hn
  . refine YI.mpr ⟨g.nd, by simp, fun x hx y hy => ?_⟩
    rw [ZC.mp hy]
    rintro rfl
    exact hb hx
  . intro z
    rcases ZH.mp z with z | z
    . exact g.ne z
    . exact hcb (ZC.mp z).symm
  . rw [zd, Zn]; rfl
  . have nb' : ∀ r, r ∈ bs ++ [c] -> r ≠ b := fun r hr => by
      rcases ZH.mp hr with z | z
      . rintro rfl; exact g.ne z
      . rw [ZC.mp z]; exact hcb
    have hr : r ∈ bs ++ [c] := Zi e1;rw [zn (nb' r hr)]
    by_cases hi : i < bs.length
    . rw [Zg hi] at e1
      rw [Zg (by rw [g.lr, <- g.lb]; exact hi)] at e2;exact g.row i r ms e1 e2
    . have hi' : bs.length <= i := ZD.mp hi
      rw [Zf hi'] at e1;rw [Zf (by rw [g.lr, <- g.lb]; exact hi')] at e2
      have e0 : i - bs.length = 0 := by
        have := (Zc.mp e1).1;simp at this; omega
      rw [e0] at e1;have e0' : i - rows.length = 0 := by rw [g.lr, <- g.lb]; exact e0
      rw [e0'] at e2;simp at e1 e2;subst e1 e2;exact ⟨hc, hl⟩
theorem NewGrid.put {H H' : Hp} {b c : Addr} {bs : List Addr} {rows : List (List Int)} {k n j i : Nat} {ns : List Int} {v : Int} (g : NewGrid H H' b bs rows k n) (hi : bs[i]? = some c) (hr : rows[i]? = some ns) :
    NewGrid H (L2.upd H' c (.lst ((ns.map V.int).set j (.int v)))) b bs (rows.set i (ns.set j v)) k n := by
  have hm : c ∈ bs := Zi hi;have hcb : b ≠ c := by rintro rfl; exact g.ne hm
  refine ⟨Same.upd g.same (g.nr c hm), g.nb, g.nr, g.nd, g.ne, by rw [zn hcb]; exact g.at', g.lb, by rw [Xl]; exact g.lr, fun i' r ms e1 e2 => ?_⟩
  by_cases e : i' = i
  . subst e
    rw [hi] at e1; cases e1;rw [Yb (Zc.mp hr).1] at e2;cases e2;refine ⟨by rw [zd, List.map_set], ?_⟩;rw [Xl];exact (g.row _ c ns hi hr).2
  . have hrc : r ≠ c := by
      rintro rfl
      obtain ⟨h1, e1'⟩ := Zc.mp e1;obtain ⟨h2, e2'⟩ := Zc.mp hi;exact e ((YK g.nd).mp (e1'.trans e2'.symm))
    rw [Yj (Ne.symm e)] at e2;rw [zn hrc];exact g.row i' r ms e1 e2
theorem NewGrid.trans {H H1 H' : Hp} {b : Addr} {bs : List Addr} {rows : List (List Int)} {k n : Nat} (s : Same H H1) (g : NewGrid H1 H' b bs rows k n) : NewGrid H H' b bs rows k n :=
  ⟨s.trans g.same, s.free g.nb, fun r hr => s.free (g.nr r hr), g.nd, g.ne, g.at', g.lb, g.lr, g.row⟩
def zr (ns : List Int) (k : Nat) : Int := ns.getD k 0
def numA (c : Int) : Int := (c % 2147483647 * 48271 + 11) % 2147483647
def letA (i : Int) : Nat := 97 + (i % 26).toNat
def p9 (c : Int) : Str := chr1 (letA (numA c))
def stepsA : List Int := [1, 3, 5, 7, 9, 11, 15, 17, 19, 21, 23, 25]
def um (c : Int) : Int := stepsA.getD (numA c / 2028 % 12).toNat 0
def vn (c : Int) : Int := 1 + numA c / 24336 % 8
def uv (c : Int) : Int := numA c / 194688 % vn c
def w9 (c : Int) (k : Nat) : Str := if numA c / 26 % 3 = 1 then xl (p9 c) (k + 1) else xl (p9 c) (uv c).toNat ++ chr1 (letA (numA c / 78 % 26 + um c * k)) ++ xl (p9 c) (vn c - 1 - uv c).toNat
def xp (c : Int) (many : Nat) : List Str := (List.range many).map (w9 c)
def qu (K : Fg) : Sp := fun vs H Q _ => ∃ (a : Addr) (ns : List Int) (k : Nat), vs = [.ref a, .int k] /\ SqL K H a (ns.map V.int) /\ Q (.int (zr ns k)) H
def zei : Sp := fun vs H Q _ => ∃ (c : Int) (many : Nat), vs = [.int c, .int many] /\ many <= 9 /\ ∀ H' l, Same H H' -> H l = none -> H' l = some (.lst ((xp c many).map V.str)) -> Q (.ref l) H'
theorem x0 (c : Int) (n : Nat) : (xp c n).length = n := by rw [xp, Za, Yh]
theorem gu (c : Int) (n : Nat) : xp c (n + 1) = xp c n ++ [w9 c n] := by rw [xp, Yr, Zn]; rfl
theorem xt (z : Str) (n : Nat) : (xl z n).length = z.length * n := by
  unfold xl Str.length;simp [List.length_flatten, Nat.mul_comm]
theorem v6 (y z : Str) : (y ++ z).length = y.length + z.length := by
  show (y.cps ++ z.cps).size = _
  simp [Str.length]
theorem zai (c : Int) : 0 <= numA c := ZZ _ (by decide)
theorem zfa {i : Int} (h0 : 0 <= i) (h1 : i < 26) : atI (Str.ofString "abcdefghijklmnopqrstuvwxyz").cps.toList i = some (97 + i.toNat) := by
  have h : ∀ j : Fin 26, (Str.ofString "abcdefghijklmnopqrstuvwxyz").cps.toList[j.val]? = some (97 + j.val) := by decide +kernel
  have := zx (xs := (Str.ofString "abcdefghijklmnopqrstuvwxyz").cps.toList) (j := i.toNat) (v := 97 + i.toNat) (h ⟨i.toNat, by omega⟩)
  rwa [Yn h0] at this
section
variable {P : Program} {w : World} {K : Fg} {mg : Str -> Option Value} {base : Heap}
theorem yo (B : Bt mg) (D : zj K mg "_law_cell_at" uf ["script", "k"]) : FnAt P w K mg base "_law_cell_at" 1 ["script", "k"] (qu K) := by
  refine FnAt.of D fz (fun vs H Q E h => ?_) (fun f cdv A outer s H vs Q E hr h => ?_)
  . obtain ⟨a, ns, k, rfl, _⟩ := h
    rfl
  . obtain ⟨a, ns, k, rfl, hS, q⟩ := h
    refine ⟨_, (@zk _ _ _ _ _ (@yl _ _ _ _ _ _ _ _ (@ye _ _ _ _ _ _ _ _ mj (pv 1) (zq yb rfl B.len yp (za (pv 0) (@zb _))) (yf _)) (@zi _ _ _ (@zt _ _ _ _ (@yi _ _ _ _ _ _ _ y9 (pv 0) (pv 1) (fun _ _ => rfl)))) (@yc _)) (@zi _ _ _ (@zt _ _ _ _ (@zc _ _ _ _)))), ?_⟩;rw [show start ["script", "k"] [V.ref a, V.int k] = [some (V.ref a), some (V.int k)] from rfl];simp only [zm, zl, ↓reduceIte];refine ⟨ns.map V.int, .inl hS, ?_⟩;rw [Za];unfold zr at q;refine ite2 (fun h => ?_) (fun h => ?_)
    . have h' : (k : Int) < ns.length := of_decide_eq_true h
      have hlt : k < ns.length := by omega
      have e : ns[k]? = some ns[k] := by simp [hlt]
      have e2 := zx (xs := ns.map V.int) (j := k) (v := V.int ns[k]) (by rw [Ze, e]; rfl);rw [Zk, e] at q;exact ⟨ns.map V.int, hS, _, e2, q⟩
    . have h' : ¬ (k : Int) < ns.length := fun z => h (decide_eq_true z)
      rw [Zk, ZQ (by omega)] at q;exact q
theorem uo (B : Bt mg) (D : zj K mg "_law_pool" z9 ["cell", "many"]) : FnAt P w K mg base "_law_pool" 1 ["cell", "many"] zei := by
  refine FnAt.of D sc_law_pool (fun vs H Q E h => ?_) (fun f cdv A outer s H vs Q E hr h => ?_)
  . obtain ⟨c, many, rfl, _⟩ := h
    rfl
  . obtain ⟨c, many, rfl, hm, q⟩ := h
    have b10 : PSs (cxOf CX0 P w K mg base ["cell", "many", "letters", "number", "filler", "begin", "step", "size", "place", "front", "back"] "_law_pool" (ze z9) f cdv A outer s H E).nox ((zy z9).drop 10) _ := (@zbt _ _ _ _ _ (@zt _ _ _ _ (yx ["k"] ["cell", "many", "letters", "number", "filler", "begin", "step", "size", "place", "front", "back"] rfl (rn rfl B.range (za (pv 1) (@zb _))) (fun _ => (ya (i := 0) (show (["k", "cell", "many", "letters", "number", "filler", "begin", "step", "size", "place", "front", "back"] : List Str).Nodup by decide +kernel) rfl (Or.inl rfl))) (fun _ => (@yy _)) (fun _ => (@zg _ _ _ _ _ _ _ _ gb (@zg _ _ _ _ _ _ _ _ gb (pv 10) (@yi _ _ _ _ _ _ _ zdg (pv 3) (@zg _ _ _ _ _ _ _ _ z8 (@zg _ _ _ _ _ _ _ _ y4 (pv 6) (@zg _ _ _ _ _ _ _ _ wj (pv 7) (pv 0))) (@zc _ _ _ _)) (fun _ _ => rfl))) (pv 11))) rfl (by decide +kernel) rfl rfl)) rfl rfl);have b9 : PSs (cxOf CX0 P w K mg base ["cell", "many", "letters", "number", "filler", "begin", "step", "size", "place", "front", "back"] "_law_pool" (ze z9) f cdv A outer s H E).nox ((zy z9).drop 9) _ := (@y3 _ _ _ _ _ _ (zz (i := 10) sc_law_pool.nd rfl (Or.inr rfl) (@zg _ _ _ _ _ _ _ _ fv (pv 4) (@zg _ _ _ _ _ _ _ _ ww (@zg _ _ _ _ _ _ _ _ ww (pv 7) (@zc _ _ _ _)) (pv 8)))) rfl @b10);have b8 : PSs (cxOf CX0 P w K mg base ["cell", "many", "letters", "number", "filler", "begin", "step", "size", "place", "front", "back"] "_law_pool" (ze z9) f cdv A outer s H E).nox ((zy z9).drop 8) _ := (@y3 _ _ _ _ _ _ (zz (i := 9) sc_law_pool.nd rfl (Or.inr rfl) (@zg _ _ _ _ _ _ _ _ fv (pv 4) (pv 8))) rfl @b9);have b7 : PSs (cxOf CX0 P w K mg base ["cell", "many", "letters", "number", "filler", "begin", "step", "size", "place", "front", "back"] "_law_pool" (ze z9) f cdv A outer s H E).nox ((zy z9).drop 7) _ := (@y3 _ _ _ _ _ _ (zz (i := 8) sc_law_pool.nd rfl (Or.inl rfl) (@zg _ _ _ _ _ _ _ _ z8 (@zg _ _ _ _ _ _ _ _ yh (pv 3) (@zc _ _ _ _)) (pv 7))) rfl @b8);have b6 : PSs (cxOf CX0 P w K mg base ["cell", "many", "letters", "number", "filler", "begin", "step", "size", "place", "front", "back"] "_law_pool" (ze z9) f cdv A outer s H E).nox ((zy z9).drop 6) _ := (@y3 _ _ _ _ _ _ (zz (i := 7) sc_law_pool.nd rfl (Or.inl rfl) (@zg _ _ _ _ _ _ _ _ y4 (@zc _ _ _ _) (@zg _ _ _ _ _ _ _ _ z8 (@zg _ _ _ _ _ _ _ _ yh (pv 3) (@zc _ _ _ _)) (@zc _ _ _ _)))) rfl @b7);have b5 : PSs (cxOf CX0 P w K mg base ["cell", "many", "letters", "number", "filler", "begin", "step", "size", "place", "front", "back"] "_law_pool" (ze z9) f cdv A outer s H E).nox ((zy z9).drop 5) _ := (@y3 _ _ _ _ _ _ (zz (i := 6) sc_law_pool.nd rfl (Or.inr rfl) (@yi _ _ _ _ _ _ _ y9 (@xg _ _ _ _ (zbv (ns := [1, 3, 5, 7, 9, 11, 15, 17, 19, 21, 23, 25]) rfl)) (@zg _ _ _ _ _ _ _ _ z8 (@zg _ _ _ _ _ _ _ _ yh (pv 3) (@zc _ _ _ _)) (@zc _ _ _ _)) (fun _ _ => rfl))) rfl @b6);have b4 : PSs (cxOf CX0 P w K mg base ["cell", "many", "letters", "number", "filler", "begin", "step", "size", "place", "front", "back"] "_law_pool" (ze z9) f cdv A outer s H E).nox ((zy z9).drop 4) _ := (@y3 _ _ _ _ _ _ (zz (i := 5) sc_law_pool.nd rfl (Or.inr rfl) (@zg _ _ _ _ _ _ _ _ z8 (@zg _ _ _ _ _ _ _ _ yh (pv 3) (@zc _ _ _ _)) (@zc _ _ _ _))) rfl @b5);have b3 : PSs (cxOf CX0 P w K mg base ["cell", "many", "letters", "number", "filler", "begin", "step", "size", "place", "front", "back"] "_law_pool" (ze z9) f cdv A outer s H E).nox ((zy z9).drop 3) _ := (@y3 _ _ _ _ _ _ (@yl _ _ _ _ _ _ _ _ (@ye _ _ _ _ _ _ _ _ xy (@zg _ _ _ _ _ _ _ _ z8 (@zg _ _ _ _ _ _ _ _ yh (pv 3) (@zc _ _ _ _)) (@zc _ _ _ _)) (@zc _ _ _ _) (yf _)) (@zi _ _ _ (@zt _ _ _ _ (yx ["k"] ["cell", "many", "letters", "number", "filler", "begin", "step", "size", "place", "front", "back"] rfl (rn rfl B.range (za (pv 1) (@zb _))) (fun _ => (ya (i := 0) (show (["k", "cell", "many", "letters", "number", "filler", "begin", "step", "size", "place", "front", "back"] : List Str).Nodup by decide +kernel) rfl (Or.inl rfl))) (fun _ => (@yy _)) (fun _ => (@zg _ _ _ _ _ _ _ _ fv (pv 5) (@zg _ _ _ _ _ _ _ _ y4 (pv 0) (@zc _ _ _ _)))) rfl (by decide +kernel) rfl rfl))) (@yc _)) rfl @b4);have b2 : PSs (cxOf CX0 P w K mg base ["cell", "many", "letters", "number", "filler", "begin", "step", "size", "place", "front", "back"] "_law_pool" (ze z9) f cdv A outer s H E).nox ((zy z9).drop 2) _ := (@y3 _ _ _ _ _ _ (zz (i := 4) sc_law_pool.nd rfl (Or.inr rfl) (@yi _ _ _ _ _ _ _ zdg (pv 2) (@zg _ _ _ _ _ _ _ _ z8 (pv 3) (@zc _ _ _ _)) (fun _ _ => rfl))) rfl @b3);have b1 : PSs (cxOf CX0 P w K mg base ["cell", "many", "letters", "number", "filler", "begin", "step", "size", "place", "front", "back"] "_law_pool" (ze z9) f cdv A outer s H E).nox ((zy z9).drop 1) _ := (@y3 _ _ _ _ _ _ (zz (i := 3) sc_law_pool.nd rfl (Or.inl rfl) (@zg _ _ _ _ _ _ _ _ z8 (@zg _ _ _ _ _ _ _ _ y4 (@zg _ _ _ _ _ _ _ _ wj (@zg _ _ _ _ _ _ _ _ z8 (pv 0) (@zc _ _ _ _)) (@zc _ _ _ _)) (@zc _ _ _ _)) (@zc _ _ _ _))) rfl @b2);have b0 : PSs (cxOf CX0 P w K mg base ["cell", "many", "letters", "number", "filler", "begin", "step", "size", "place", "front", "back"] "_law_pool" (ze z9) f cdv A outer s H E).nox ((zy z9).drop 0) _ := (@y3 _ _ _ _ _ _ (zz (i := 2) sc_law_pool.nd rfl (Or.inr rfl) (@wm _ _ _ _)) rfl @b1);have b_ := @zbe _ _ _ @b0;refine ⟨_, @b_, ?_⟩;rw [show start ["cell", "many", "letters", "number", "filler", "begin", "step", "size", "place", "front", "back"] [V.int c, V.int many] = [some (V.int c), some (V.int many), none, none, none, none, none, none, none, none, none] from rfl];simp only [zm, zl, ↓reduceIte];simp only [show (c % 2147483647 * 48271 + 11) % 2147483647 = numA c from rfl, show numA c % 26 = numA c % 26 from rfl];have hn := zai c
    have hs1 : 1 <= vn c /\ vn c <= 8 := by
      have h1 := ZZ (numA c / 24336) (show (8 : Int) ≠ 0 by decide);have h2 := ZU (numA c / 24336) (show (0 : Int) < 8 by decide);unfold vn;omega
    have hp1 : 0 <= uv c /\ uv c < vn c := ⟨ZZ _ (by omega), ZU _ (by omega)⟩;have hl1 := zfa (ZZ (numA c) (show (26 : Int) ≠ 0 by decide)) (ZU (numA c) (show (0 : Int) < 26 by decide));refine ⟨by decide, ?_, by decide, by decide, by decide, _, hl1, ?_⟩
    . exact .inr ⟨by decide, by decide⟩
    refine ⟨⟨by decide, by decide⟩, by decide, rfl, ite2 (fun h => ?_) (fun h => ?_)⟩
    . have h := of_decide_eq_true h
      refine ⟨by omega, by omega, fun d => ?_⟩;rw [Zw];refine m4 (fun i ys H' => H' = H /\ ys = (xp c i).map V.str) ⟨rfl, rfl⟩ ?_ ?_ ?_
      . rintro i ys H' hi ⟨rfl, rfl⟩
        rw [Za, x0];exact Zd (show i <= 9 by omega) (by decide)
      . rintro i ys H' hi ⟨rfl, rfl⟩
        simp only [zm, zl, ↓reduceIte];refine ⟨by omega, by omega, ?_, ?_⟩
        . show 1 * _ <= _
          rw [Nat.one_mul];exact Zd (show ((i : Int) + 1).toNat <= 10 by omega) (by decide)
        . rw [gu, w9, if_pos h, Zn, show ((i : Int) + 1).toNat = i + 1 by omega]
          rfl
      . rintro ys H' ⟨rfl, rfl⟩ l hl
        exact q _ l (Same.upd (Same.refl _) hl) hl zd
    . have h : ¬ _ := fun z => h (decide_eq_true z)
      refine ⟨⟨by decide, by decide⟩, by decide, by decide, fun p hp => ⟨⟨by decide, by decide⟩, by decide, _, .of zd, ?_⟩⟩
      have hst : ∃ st : Int, atI [V.int 1, V.int 3, V.int 5, V.int 7, V.int 9, V.int 11, V.int 15, V.int 17, V.int 19, V.int 21, V.int 23, V.int 25] (numA c / 2028 % 12) = some (V.int st) /\ st = um c /\ 0 <= st /\ st < 26 := by
        have h1 := ZZ (numA c / 2028) (show (12 : Int) ≠ 0 by decide);have h2 := ZU (numA c / 2028) (show (0 : Int) < 12 by decide);unfold um;generalize numA c / 2028 % 12 = m at h1 h2 ⊢;have h3 : ∀ j : Fin 12, [V.int 1, V.int 3, V.int 5, V.int 7, V.int 9, V.int 11, V.int 15, V.int 17, V.int 19, V.int 21, V.int 23, V.int 25][j.val]? = some (V.int (stepsA.getD j.val 0)) /\ 0 <= stepsA.getD j.val 0 /\ stepsA.getD j.val 0 < 26 := by decide
        have h4 := h3 ⟨m.toNat, by omega⟩;have h5 := zx h4.1;rw [Yn h1] at h5;exact ⟨_, h5, rfl, h4.2⟩
      obtain ⟨st, e1, e2, e3, e4⟩ := hst;subst e2;refine ⟨_, e1, ⟨by decide, by decide⟩, by decide, ⟨by decide, by decide⟩, ?_⟩;simp only [show 1 + numA c / 24336 % 8 = vn c from rfl, show numA c / 194688 % vn c = uv c from rfl, show (⟨#[97 + (numA c % 26).toNat]⟩ : Str) = p9 c from rfl];have hf : (p9 c).length = 1 := rfl;rw [hf, Nat.one_mul, Nat.one_mul];refine ⟨by omega, by omega, by omega, ?_, by omega, by omega, ?_, by omega, by omega, fun d => ?_⟩
      . exact Zd (show (uv c).toNat <= 8 by omega) (by decide)
      . exact Zd (show (vn c - 1 - uv c).toNat <= 8 by omega) (by decide)
      rw [Zw];have S1 : Same H (upd H p (.lst [V.int 1, V.int 3, V.int 5, V.int 7, V.int 9, V.int 11, V.int 15, V.int 17, V.int 19, V.int 21, V.int 23, V.int 25])) := Same.upd (Same.refl _) hp;generalize upd H p (.lst [V.int 1, V.int 3, V.int 5, V.int 7, V.int 9, V.int 11, V.int 15, V.int 17, V.int 19, V.int 21, V.int 23, V.int 25]) = H1 at *;refine m4 (fun i ys H' => H' = H1 /\ ys = (xp c i).map V.str) ⟨rfl, rfl⟩ ?_ ?_ ?_
      . rintro i ys H' hi ⟨rfl, rfl⟩
        rw [Za, x0];exact Zd (show i <= 9 by omega) (by decide)
      . rintro i ys H' hi ⟨rfl, rfl⟩
        simp only [zm, zl, ↓reduceIte];have hb := zfa (ZZ (numA c / 78 % 26 + um c * i) (show (26 : Int) ≠ 0 by decide)) (ZU (numA c / 78 % 26 + um c * i) (show (0 : Int) < 26 by decide));refine ⟨.inl ⟨by omega, by omega⟩, by decide, by decide, _, hb, ?_, ?_, ?_⟩
        . rw [xt, hf]
          exact Zd (show _ <= 20 by show 1 * _ + 1 <= 20; omega) (by decide)
        . rw [v6, xt, xt, hf]
          exact Zd (show _ <= 30 by show 1 * _ + 1 + 1 * _ <= 30; omega) (by decide)
        . rw [gu, w9, if_neg h, Zn]
          rfl
      . rintro ys H' ⟨rfl, rfl⟩ l hl
        exact q _ l (Same.upd S1 (S1.free hl)) (S1.free hl) zd
end
def wb (ns : List Int) : Nat := max 1 (min ns.length 63 - 5)
def pi (ns : List Int) (k : Nat) : Int :=
  if k < wb ns then zr ns (5 + k % wb ns)
  else (zr ns (5 + k % wb ns) % 2147483647 * 48271 + (k / wb ns : Nat) * 7919 + k) % 2147483647 * ((zr ns (5 + k % wb ns) % 2147483647 * 48271 + (k / wb ns : Nat) * 7919 + k) % 2147483647) % 2147483629
def q8 (c : Int) : Int :=
  if c % 5 = 2 then c / 5 % 10 ^ 18 - 5 * 10 ^ 17 else if c % 5 = 3 then c / 5 % (2 * 10 ^ 60 - 1) - 10 ^ 60 + 1 else if c % 5 = 4 then 0 else c / 5 % 19 - 9
def fr (K : Fg) : Sp := fun vs H Q _ => ∃ (a : Addr) (ns : List Int) (k : Nat), vs = [.ref a, .int k] /\ SqL K H a (ns.map V.int) /\ Q (.int (pi ns k)) H
def zbd : Sp := fun vs H Q _ => ∃ c : Int, vs = [.int c] /\ Q (.int (q8 c)) H
section
variable {P : Program} {w : World} {K : Fg} {mg : Str -> Option Value} {base : Heap}
theorem o9 (D : zj K mg "_law_worth" sm ["cell"]) : FnAt P w K mg base "_law_worth" 1 ["cell"] zbd := by
  refine FnAt.of D a7 (fun vs H Q E h => ?_) (fun f cdv A outer s H vs Q E hr h => ?_)
  . obtain ⟨c, rfl, _⟩ := h
    rfl
  . obtain ⟨c, rfl, q⟩ := h
    refine ⟨_, (@zk _ _ _ _ _ (@yl _ _ _ _ _ _ _ _ (@ye _ _ _ _ _ _ _ _ xy (@zg _ _ _ _ _ _ _ _ z8 (pv 0) (@zc _ _ _ _)) (@zc _ _ _ _) (yf _)) (@zi _ _ _ (@zt _ _ _ _ (@zg _ _ _ _ _ _ _ _ ww (@zg _ _ _ _ _ _ _ _ z8 (@zg _ _ _ _ _ _ _ _ yh (pv 0) (@zc _ _ _ _)) (@zg _ _ _ _ _ _ _ _ vo (@zc _ _ _ _) (@zc _ _ _ _))) (@zg _ _ _ _ _ _ _ _ wj (@zc _ _ _ _) (@zg _ _ _ _ _ _ _ _ vo (@zc _ _ _ _) (@zc _ _ _ _)))))) (@yc _)) (@zk _ _ _ _ _ (@yl _ _ _ _ _ _ _ _ (@ye _ _ _ _ _ _ _ _ xy (@zg _ _ _ _ _ _ _ _ z8 (pv 0) (@zc _ _ _ _)) (@zc _ _ _ _) (yf _)) (@zi _ _ _ (@zt _ _ _ _ (@zg _ _ _ _ _ _ _ _ y4 (@zg _ _ _ _ _ _ _ _ ww (@zg _ _ _ _ _ _ _ _ z8 (@zg _ _ _ _ _ _ _ _ yh (pv 0) (@zc _ _ _ _)) (@zg _ _ _ _ _ _ _ _ ww (@zg _ _ _ _ _ _ _ _ wj (@zc _ _ _ _) (@zg _ _ _ _ _ _ _ _ vo (@zc _ _ _ _) (@zc _ _ _ _))) (@zc _ _ _ _))) (@zg _ _ _ _ _ _ _ _ vo (@zc _ _ _ _) (@zc _ _ _ _))) (@zc _ _ _ _)))) (@yc _)) (@zk _ _ _ _ _ (@yl _ _ _ _ _ _ _ _ (@ye _ _ _ _ _ _ _ _ xy (@zg _ _ _ _ _ _ _ _ z8 (pv 0) (@zc _ _ _ _)) (@zc _ _ _ _) (yf _)) (@zi _ _ _ (@zt _ _ _ _ (@zc _ _ _ _))) (@yc _)) (@zi _ _ _ (@zt _ _ _ _ (@zg _ _ _ _ _ _ _ _ ww (@zg _ _ _ _ _ _ _ _ z8 (@zg _ _ _ _ _ _ _ _ yh (pv 0) (@zc _ _ _ _)) (@zc _ _ _ _)) (@zc _ _ _ _))))))), ?_⟩;rw [show start ["cell"] [V.int c] = [some (V.int c)] from rfl];simp only [zm, zl, ↓reduceIte];unfold q8 at q;refine ⟨by decide, rfl, ite2 (fun h => ?_) (fun h => ?_)⟩
    . rw [if_pos (of_decide_eq_true h)] at q
      exact ⟨⟨by decide, by decide⟩, ⟨by decide, by decide, by decide⟩, by decide, ⟨by decide, by decide, by decide⟩, .inl ⟨by decide, by decide⟩, q⟩
    . rw [if_neg (fun z => h (decide_eq_true z))] at q
      refine ⟨by decide, rfl, ite2 (fun h => ?_) (fun h => ?_)⟩
      . rw [if_pos (of_decide_eq_true h)] at q
        exact ⟨⟨by decide, by decide⟩, ⟨by decide, by decide, by decide⟩, .inl ⟨by decide, by decide⟩, by decide, ⟨by decide, by decide, by decide⟩, q⟩
      . rw [if_neg (fun z => h (decide_eq_true z))] at q
        refine ⟨by decide, rfl, ite2 (fun h => ?_) (fun h => ?_)⟩
        . rw [if_pos (of_decide_eq_true h)] at q
          exact q
        . rw [if_neg (fun z => h (decide_eq_true z))] at q
          exact ⟨⟨by decide, by decide⟩, by decide, q⟩
theorem v0 (B : Bt mg) (yo : FnAt P w K mg base "_law_cell_at" 1 ["script", "k"] (qu K)) (D : zj K mg "_law_drawn" sy ["script", "k"]) : FnAt P w K mg base "_law_drawn" 2 ["script", "k"] (fr K) := by
  refine FnAt.of D sc_law_drawn (fun vs H Q E h => ?_) (fun f cdv A outer s H vs Q E hr h => ?_)
  . obtain ⟨a, ns, k, rfl, _⟩ := h
    rfl
  . obtain ⟨a, ns, k, rfl, hS, q⟩ := h
    refine ⟨_, (@zk _ _ _ _ _ (zz (i := 2) sc_law_drawn.nd rfl (Or.inl rfl) (zq (zeb rfl) rfl B.max zdx (za (@zc _ _ _ _) (za (@zg _ _ _ _ _ _ _ _ ww (zq (ze9 rfl) rfl B.min bt_min (za (zq yb rfl B.len yp (za (pv 0) (@zb _))) (za (@zc _ _ _ _) (@zb _)))) (@zc _ _ _ _)) (@zb _))))) (@zk _ _ _ _ _ (zz (i := 3) sc_law_drawn.nd rfl (Or.inl rfl) (zp yo (hr.mono (by decide)) rfl (za (pv 0) (za (@zg _ _ _ _ _ _ _ _ y4 (@zc _ _ _ _) (@zg _ _ _ _ _ _ _ _ z8 (pv 1) (pv 2))) (@zb _))))) (@zk _ _ _ _ _ (@yl _ _ _ _ _ _ _ _ (@ye _ _ _ _ _ _ _ _ mj (pv 1) (pv 2) (yf _)) (@zi _ _ _ (@zt _ _ _ _ (pv 3))) (@yc _)) (@zk _ _ _ _ _ (zz (i := 4) sc_law_drawn.nd rfl (Or.inl rfl) (@zg _ _ _ _ _ _ _ _ z8 (@zg _ _ _ _ _ _ _ _ y4 (@zg _ _ _ _ _ _ _ _ y4 (@zg _ _ _ _ _ _ _ _ wj (@zg _ _ _ _ _ _ _ _ z8 (pv 3) (@zc _ _ _ _)) (@zc _ _ _ _)) (@zg _ _ _ _ _ _ _ _ wj (@zg _ _ _ _ _ _ _ _ yh (pv 1) (pv 2)) (@zc _ _ _ _))) (pv 1)) (@zc _ _ _ _))) (@zi _ _ _ (@zt _ _ _ _ (@zg _ _ _ _ _ _ _ _ z8 (@zg _ _ _ _ _ _ _ _ wj (pv 4) (pv 4)) (@zc _ _ _ _)))))))), ?_⟩;rw [show start ["script", "k", "many", "cell", "number"] [V.ref a, V.int k] = [some (V.ref a), some (V.int k), none, none, none] from rfl];simp only [zm, zl, ↓reduceIte];refine ⟨_, Or.inl hS, ?_⟩;rw [Za]
    have hm : (if (if (63 : Int) < (ns.length : Int) then (63 : Int) else (ns.length : Int)) - 5 > 1 then (if (63 : Int) < (ns.length : Int) then (63 : Int) else (ns.length : Int)) - 5 else 1) = (wb ns : Int) := by
      unfold wb
      by_cases h1 : (63 : Int) < (ns.length : Int)
      . rw [if_pos h1, if_pos (by omega)]
        omega
      . rw [if_neg h1]
        by_cases h2 : (ns.length : Int) - 5 > 1
        . rw [if_pos h2]; omega
        . rw [if_neg h2]; omega
    rw [hm];have hm1 : 1 <= wb ns := by unfold wb; omega
    have hm2 : wb ns <= 58 := by unfold wb; omega
    refine ⟨by omega, a, ns, 5 + k % wb ns, ?_, hS, ?_⟩
    . rw [show (5 : Int) + (k : Int) % (wb ns : Int) = ((5 + k % wb ns : Nat) : Int) by rw [Yx, Xf]; rfl]
    unfold pi at q;refine ite2 (fun h => ?_) (fun h => ?_)
    . rw [if_pos (by have := of_decide_eq_true h; omega)] at q
      exact q
    . rw [if_neg (by have : ¬ (k : Int) < (wb ns : Int) := fun z => h (decide_eq_true z); omega)] at q
      refine ⟨_, rfl, by decide, .inr ⟨by decide, by decide⟩, ⟨by omega, by omega⟩, .inr ⟨by decide, by decide⟩, by decide, .inl ?_, by decide, ?_⟩
      . generalize zr ns (5 + k % wb ns) % 2147483647 * 48271 + (k : Int) / (wb ns : Int) * 7919 + (k : Int) = m
        have h1 := ZZ m (show (2147483647 : Int) ≠ 0 by decide);have h2 := ZU m (show (0 : Int) < 2147483647 by decide);omega
      . rw [Int.natCast_ediv] at q
        exact q
end
structure HX where
  t : Addr
  w : Addr
  g : Addr
  gs : List Addr
def HX.adr (x : HX) : List Addr := x.t :: x.w :: x.g :: x.gs
structure HD where
  name : Str
  words : List Str
  worths : List (List Int)
structure HandAt (H : Hp) (x : HX) (d : HD) : Prop where
  tup : H x.t = some (.tup [.str d.name, .ref x.w, .ref x.g])
  words : H x.w = some (.lst (d.words.map V.str))
  grid : H x.g = some (.lst (x.gs.map V.ref))
  len : x.gs.length = d.worths.length
  row : ∀ (i : Nat) (r : Addr) (ns : List Int), x.gs[i]? = some r -> d.worths[i]? = some ns -> H r = some (.lst (ns.map V.int))
theorem HandAt.mono {H H' : Hp} {x : HX} {d : HD} (S : Same H H') (h : HandAt H x d) : HandAt H' x d :=
  ⟨S _ _ h.tup, S _ _ h.words, S _ _ h.grid, h.len, fun i r ns e1 e2 => S _ _ (h.row i r ns e1 e2)⟩
def adrs (xs : List HX) : List Addr := (xs.map HX.adr).flatten
structure NewHands (H H' : Hp) (b : Addr) (xs : List HX) (ds : List HD) : Prop where
  same : Same H H'
  nb : H b = none
  at' : H' b = some (.lst (xs.map fun x => V.ref x.t))
  len : xs.length = ds.length
  hand : ∀ (i : Nat) (x : HX) (d : HD), xs[i]? = some x -> ds[i]? = some d -> HandAt H' x d
  new : ∀ y ∈ adrs xs, H y = none
  old : ∀ y ∈ adrs xs, H' y ≠ none
  nd : (adrs xs).Nodup
  ne : b ∉ adrs xs
theorem NewHands.nil {H H' : Hp} {b : Addr} (s : Same H H') (nb : H' b = none) : NewHands H (upd H' b (.lst [])) b [] [] :=
  ⟨Same.upd s (s.free nb), s.free nb, zd, rfl, (fun i x d e => by simp at e), (fun y z => nomatch z), (fun y z => nomatch z), YB, (fun z => nomatch z)⟩
theorem NewHands.more {H H' H2 : Hp} {b : Addr} {xs : List HX} {ds : List HD} (g : NewHands H H' b xs ds) (S : Same H' H2) : NewHands H H2 b xs ds :=
  ⟨g.same.trans S, g.nb, S _ _ g.at', g.len, fun i x d e1 e2 => (g.hand i x d e1 e2).mono S, g.new, fun y hy => by
    cases e : H' y with
    | none => exact absurd e (g.old y hy)
    | some o => rw [S _ _ e]; simp, g.nd, g.ne⟩
theorem NewHands.snoc {H H' : Hp} {b : Addr} {xs : List HX} {ds : List HD} {x : HX} {d : HD} (g : NewHands H H' b xs ds) (h : HandAt H' x d) (hn : ∀ y ∈ x.adr, H y = none) (hx : x.adr.Nodup) (ho : ∀ y ∈ x.adr, y ∉ adrs xs) (hb : b ∉ x.adr) :
    NewHands H (upd H' b (.lst (xs.map (fun x => V.ref x.t) ++ [.ref x.t]))) b (xs ++ [x]) (ds ++ [d]) := by
  have ap : adrs (xs ++ [x]) = adrs xs ++ x.adr := by simp [adrs]
  have keep : ∀ y o, y ≠ b -> H' y = some o -> upd H' b (.lst (xs.map (fun x => V.ref x.t) ++ [.ref x.t])) y = some o := fun y o e q => by rw [zn e]; exact q
  have hand' : ∀ {z : HX} {e : HD}, HandAt H' z e -> b ∉ z.adr -> HandAt (upd H' b (.lst (xs.map (fun x => V.ref x.t) ++ [.ref x.t]))) z e := fun {z e} q nb => by
    have n : ∀ y ∈ z.adr, y ≠ b := fun y hy e => nb (e ▸ hy)
    exact ⟨keep _ _ (n _ (by simp [HX.adr])) q.tup, keep _ _ (n _ (by simp [HX.adr])) q.words, keep _ _ (n _ (by simp [HX.adr])) q.grid, q.len, fun i r ns e1 e2 => keep _ _ (n _ (by simp [HX.adr, Zi e1])) (q.row i r ns e1 e2)⟩
  refine ⟨Same.upd g.same g.nb, g.nb, by rw [zd]; simp, by simp [g.len], fun i z e e1 e2 => ?_, fun y hy => ?_, fun y hy => ?_, ?_, ?_⟩
  . by_cases hi : i < xs.length
    . rw [Zg hi] at e1
      rw [Zg (by rw [<- g.len]; exact hi)] at e2;refine hand' (g.hand i z e e1 e2) fun q => g.ne ?_
      exact YN.mpr ⟨_, Zp.mpr ⟨z, Zi e1, rfl⟩, q⟩
    . rw [Zf (ZD.mp hi)] at e1
      rw [Zf (by rw [<- g.len]; exact ZD.mp hi)] at e2
      have e0 : i - xs.length = 0 := by
        have := (Zc.mp e1).1;simp at this; omega
      rw [e0] at e1;rw [<- g.len, e0] at e2;simp at e1 e2;subst e1 e2;exact hand' h hb
  . rw [ap] at hy
    rcases ZH.mp hy with z | z
    . exact g.new y z
    . exact hn y z
  . rw [ap] at hy
    have hyb : y ≠ b := fun e => by
      rcases ZH.mp hy with z | z
      . exact g.ne (e ▸ z)
      . exact hb (e ▸ z)
    rw [zn hyb]
    rcases ZH.mp hy with z | z
    . exact g.old y z
    . rcases ZK.mp z with e | z
      . rw [e, h.tup]; simp
      rcases ZK.mp z with e | z
      . rw [e, h.words]; simp
      rcases ZK.mp z with e | z
      . rw [e, h.grid]; simp
      . obtain ⟨i, hi, rfl⟩ := Zy z
        have e1 : x.gs[i]? = some x.gs[i] := by simp [hi]
        have hi2 : i < d.worths.length := by rw [<- h.len]; exact hi
        have e2 : d.worths[i]? = some d.worths[i] := by simp [hi2]
        rw [h.row i _ _ e1 e2]; simp
  . rw [ap]
    refine YI.mpr ⟨g.nd, hx, fun y hy z hz e => ?_⟩;exact ho z hz (e ▸ hy)
  . rw [ap]
    intro z
    rcases ZH.mp z with z | z
    . exact g.ne z
    . exact hb z
def yr (ns : List Int) : Nat := (1 + zr ns 1 % 8).toNat
def ra (ns : List Int) : List Str := xp (zr ns 0) (yr ns)
def wx (ns : List Int) : Nat := (1 + zr ns 1 / 8 % 4).toNat
def xu (ns tops : List Int) (j : Nat) : Nat := (1 + zr ns 2 / ([1, 9, 83, 761] : List Int).getD j 0 % tops.getD (zr ns 1 / 8 % 4).toNat 0).toNat
def nq (ns : List Int) (j : Nat) : Int := [zr ns 0, zr ns 0 / 5 + j, zr ns 3 + 31 * j].getD (zr ns 1 / 32 % 3).toNat 0
def vq (ns : List Int) : Int := [zr ns 0, zr ns 0 / 7 + 2].getD (zr ns 1 / 96 % 2).toNat 0
def rowA (ns : List Int) (k n : Nat) : List Int := (List.range n).map fun i => q8 (pi ns (k + i))
def vg (ns : List Int) (k n m : Nat) : List (List Int) := (List.range m).map fun r => rowA ns (k + r * n) n
def xi (ns tops : List Int) : Nat -> Nat
  | 0 => 0
  | j + 1 => xi ns tops j + xu ns tops j * yr ns
def cn (ns tops : List Int) (j : Nat) : HD := ⟨w9 (vq ns) j, xp (nq ns j) (xu ns tops j), vg ns (xi ns tops j) (yr ns) (xu ns tops j)⟩
def wg (ns tops : List Int) (m : Nat) : List HD := (List.range m).map (cn ns tops)
theorem zay (ns tops : List Int) (m : Nat) : wg ns tops (m + 1) = wg ns tops m ++ [cn ns tops m] := by rw [wg, Yr, Zn]; rfl
theorem zfl (ns : List Int) (k n : Nat) : rowA ns k (n + 1) = rowA ns k n ++ [q8 (pi ns (k + n))] := by rw [rowA, Yr, Zn]; rfl
theorem j3 (ns : List Int) (k n : Nat) : (rowA ns k n).length = n := by rw [rowA, Za, Yh]
theorem zb4 (ns : List Int) (k n m : Nat) : vg ns k n (m + 1) = vg ns k n m ++ [rowA ns (k + m * n) n] := by rw [vg, Yr, Zn]; rfl
theorem dh (ns : List Int) (k n m : Nat) : (vg ns k n m).length = m := by rw [vg, Za, Yh]
theorem yn (a : Int) {n : Int} (h : 0 < n) : 0 <= a % n /\ a % n < n := ⟨ZZ _ (by omega), ZU _ h⟩
theorem qw (ns : List Int) : 1 <= yr ns /\ yr ns <= 8 := by
  have := yn (zr ns 1) (show (0 : Int) < 8 by decide);unfold yr; omega
theorem ox (ns : List Int) : 1 <= wx ns /\ wx ns <= 4 := by
  have := yn (zr ns 1 / 8) (show (0 : Int) < 4 by decide);unfold wx; omega
def Tops (tops : List Int) : Prop := tops.length = 4 /\ ∀ t ∈ tops, 1 <= t /\ t <= 8
theorem Tops.get {tops : List Int} (h : Tops tops) (ns : List Int) : ∃ t, tops[(zr ns 1 / 8 % 4).toNat]? = some t /\ tops.getD (zr ns 1 / 8 % 4).toNat 0 = t /\ 1 <= t /\ t <= 8 := by
  have := yn (zr ns 1 / 8) (show (0 : Int) < 4 by decide);have hl : (zr ns 1 / 8 % 4).toNat < tops.length := by rw [h.1]; omega
  refine ⟨tops[(zr ns 1 / 8 % 4).toNat], by simp [hl], by rw [Zk]; simp [hl], h.2 _ (Zl hl)⟩
theorem qc {ns tops : List Int} (h : Tops tops) (j : Nat) : 1 <= xu ns tops j /\ xu ns tops j <= 8 := by
  obtain ⟨t, _, e, h1, h2⟩ := h.get ns;unfold xu;rw [e];have := yn (zr ns 2 / ([1, 9, 83, 761] : List Int).getD j 0) (show 0 < t by omega);omega
theorem bv {α : Type} {xs : List α} {i : Int} (h0 : 0 <= i) {v : α} (h : xs[i.toNat]? = some v) : atI xs i = some v := by
  have := zx h
  rwa [Yn h0] at this
def za2 (K : Fg) : Sp := fun vs H Q _ => ∃ (a tp : Addr) (ns tops : List Int), vs = [.ref a, .ref tp] /\ SqL K H a (ns.map V.int) /\ SqL K H tp (tops.map V.int) /\ Tops tops /\
  ∀ H1 H2 H3 (o b p : Addr) (xs : List HX), Same H H1 -> H o = none -> H1 o = some (.lst ((ra ns).map V.str)) -> NewHands H1 H2 b xs (wg ns tops (wx ns)) -> H2 p = none -> H3 = upd H2 p (.tup [.ref o, .ref b]) -> Q (.ref p) H3
def PvH (a tp o b : Addr) (ns tops : List Int) (H1 : Hp) (j : Nat) : L2.St -> Hp -> Prop := fun σ H' => ∃ (xs : List HX) (t1 t2 t3 t4 t5 : Option V), NewHands H1 H' b xs (wg ns tops j) /\ σ = [some (V.ref a), some (V.ref tp), some (V.int (zr ns 0)), some (V.int (zr ns 1)), some (V.ref o), some (V.ref b), some (V.int (xi ns tops j)), t1, t2, t3, t4, t5]
def PvG (a tp o b g wl : Addr) (ns tops : List Int) (H5 : Hp) (j : Nat) (m : Nat) : L2.St -> Hp -> Prop := fun σ H' => ∃ (gs : List Addr) (t2 t5 : Option V), NewGrid H5 H' g gs (vg ns (xi ns tops j) (yr ns) m) m (yr ns) /\ σ = [some (V.ref a), some (V.ref tp), some (V.int (zr ns 0)), some (V.int (zr ns 1)), some (V.ref o), some (V.ref b), some (V.int ((xi ns tops j + m * yr ns : Nat) : Int)), some (V.int j), t2, some (V.ref wl), some (V.ref g), t5]
def PvR (ns : List Int) (H6 : Hp) (k : Nat) (i : Nat) (ys : List V) (H' : Hp) : Prop := H' = H6 /\ ys = (rowA ns k i).map V.int
section
variable {P : Program} {w : World} {K : Fg} {mg : Str -> Option Value} {base : Heap}
theorem ni (B : Bt mg) (yo : FnAt P w K mg base "_law_cell_at" 1 ["script", "k"] (qu K)) (uo : FnAt P w K mg base "_law_pool" 1 ["cell", "many"] zei) (o9 : FnAt P w K mg base "_law_worth" 1 ["cell"] zbd) (v0 : FnAt P w K mg base "_law_drawn" 2 ["script", "k"] (fr K))
    (D : zj K mg "_law_parts" rf ["script", "tops"]) : FnAt P w K mg base "_law_parts" 3 ["script", "tops"] (za2 K) := by
  refine FnAt.of D sc_law_parts (fun vs H Q E h => ?_) (fun f cdv A outer s H vs Q E hr h => ?_)
  . obtain ⟨a, tp, ns, tops, rfl, _⟩ := h
    rfl
  . obtain ⟨a, tp, ns, tops, rfl, hS, hT, ht, q⟩ := h
    refine ⟨_, (@zk _ _ _ _ _ (zz (i := 2) sc_law_parts.nd rfl (Or.inl rfl) (zp yo (hr.mono (by decide)) rfl (za (pv 0) (za (@zc _ _ _ _) (@zb _))))) (@zk _ _ _ _ _ (zz (i := 3) sc_law_parts.nd rfl (Or.inl rfl) (zp yo (hr.mono (by decide)) rfl (za (pv 0) (za (@zc _ _ _ _) (@zb _))))) (@zk _ _ _ _ _ (zz (i := 4) sc_law_parts.nd rfl (Or.inl rfl) (zp uo (hr.mono (by decide)) rfl (za (pv 2) (za (@zg _ _ _ _ _ _ _ _ y4 (@zc _ _ _ _) (@zg _ _ _ _ _ _ _ _ z8 (pv 3) (@zc _ _ _ _))) (@zb _))))) (@zk _ _ _ _ _ (zz (i := 5) sc_law_parts.nd rfl (Or.inl rfl) (@xg _ _ _ _ (@zb _))) (@zk _ _ _ _ _ (zz (i := 6) sc_law_parts.nd rfl (Or.inr rfl) (@zc _ _ _ _)) (@zk _ _ _ _ _ (ul PassesOwn.never rfl (rn rfl B.range (za (@zg _ _ _ _ _ _ _ _ y4 (@zc _ _ _ _) (@zg _ _ _ _ _ _ _ _ z8 (@zg _ _ _ _ _ _ _ _ yh (pv 3) (@zc _ _ _ _)) (@zc _ _ _ _))) (@zb _))) (ya (i := 7) sc_law_parts.nd rfl (Or.inl rfl)) (@zk _ _ _ _ _ (zz (i := 8) sc_law_parts.nd rfl (Or.inl rfl) (@zg _ _ _ _ _ _ _ _ y4 (@zc _ _ _ _) (@zg _ _ _ _ _ _ _ _ z8 (@zg _ _ _ _ _ _ _ _ yh (zp yo (hr.mono (by decide)) rfl (za (pv 0) (za (@zc _ _ _ _) (@zb _)))) (@yi _ _ _ _ _ _ _ y9 (@xg _ _ _ _ (za (@zc _ _ _ _) (za (@zc _ _ _ _) (za (@zc _ _ _ _) (za (@zc _ _ _ _) (@zb _)))))) (pv 7) (fun _ _ => rfl))) (@yi _ _ _ _ _ _ _ y9 (pv 1) (@zg _ _ _ _ _ _ _ _ z8 (@zg _ _ _ _ _ _ _ _ yh (pv 3) (@zc _ _ _ _)) (@zc _ _ _ _)) (fun _ _ => rfl))))) (@zk _ _ _ _ _ (zz (i := 9) sc_law_parts.nd rfl (Or.inl rfl) (zp uo (hr.mono (by decide)) rfl (za (@yi _ _ _ _ _ _ _ y9 (@xg _ _ _ _ (za (pv 2) (za (@zg _ _ _ _ _ _ _ _ y4 (@zg _ _ _ _ _ _ _ _ yh (pv 2) (@zc _ _ _ _)) (pv 7)) (za (@zg _ _ _ _ _ _ _ _ y4 (zp yo (hr.mono (by decide)) rfl (za (pv 0) (za (@zc _ _ _ _) (@zb _)))) (@zg _ _ _ _ _ _ _ _ wj (@zc _ _ _ _) (pv 7))) (@zb _))))) (@zg _ _ _ _ _ _ _ _ z8 (@zg _ _ _ _ _ _ _ _ yh (pv 3) (@zc _ _ _ _)) (@zc _ _ _ _)) (fun _ _ => rfl)) (za (pv 8) (@zb _))))) (@zk _ _ _ _ _ (zz (i := 10) sc_law_parts.nd rfl (Or.inl rfl) (@xg _ _ _ _ (@zb _))) (@zk _ _ _ _ _ (ul PassesOwn.never rfl (@yz _ _ _ _ (pv 9)) (ya (i := 11) sc_law_parts.nd rfl (Or.inl rfl)) (@zk _ _ _ _ _ (je (zc4 PySem.F.plainAttrs_list PySem.F.slot_list_append PySem.F.type_list_append ef (pv 10) (za (yx ["i"] ["script", "tops", "first", "shape", "outcomes", "hands", "k", "j", "size", "words", "worths", "word"] rfl (rn rfl B.range (za (zq yb rfl B.len yp (za (pv 4) (@zb _))) (@zb _))) (fun _ => (ya (i := 0) (show (["i", "script", "tops", "first", "shape", "outcomes", "hands", "k", "j", "size", "words", "worths", "word"] : List Str).Nodup by decide +kernel) rfl (Or.inl rfl))) (fun _ => (@yy _)) (fun _ => (zp o9 (hr.mono (by decide)) rfl (za (zp v0 (hr.mono (by decide)) rfl (za (pv 1) (za (@zg _ _ _ _ _ _ _ _ y4 (pv 7) (pv 0)) (@zb _)))) (@zb _)))) rfl (by decide +kernel) rfl rfl) (@zb _)))) (@zi _ _ _ (zz (i := 6) sc_law_parts.nd rfl (Or.inr rfl) (@zg _ _ _ _ _ _ _ _ y4 (pv 6) (zq yb rfl B.len yp (za (pv 4) (@zb _)))))))) (@zi _ _ _ (je (zc4 PySem.F.plainAttrs_list PySem.F.slot_list_append PySem.F.type_list_append ef (pv 5) (@za _ _ _ _ _ (@xc _ _ _ _ _ (@za _ _ _ _ _ (@yi _ _ _ _ _ _ _ y9 (zp uo (hr.mono (by decide)) rfl (@za _ _ _ _ _ (@yi _ _ _ _ _ _ _ y9 (@xg _ _ _ _ (@za _ _ _ _ _ (pv 2) (@za _ _ _ _ _ (@zg _ _ _ _ _ _ _ _ y4 (@zg _ _ _ _ _ _ _ _ yh (pv 2) (@zc _ _ _ _)) (@zc _ _ _ _)) (@zb _) (zw nofun)) (zw nofun))) (@zg _ _ _ _ _ _ _ _ z8 (@zg _ _ _ _ _ _ _ _ yh (pv 3) (@zc _ _ _ _)) (@zc _ _ _ _)) (fun _ _ => rfl)) (@za _ _ _ _ _ (@zc _ _ _ _) (@zb _) (zw nofun)) (zw nofun))) (pv 7) (fun _ _ => rfl)) (@za _ _ _ _ _ (pv 9) (@za _ _ _ _ _ (pv 10) (@zb _) (zw nofun)) (zw nofun)) (zw nofun))) (@zb _) (zw nofun)))))))))) (@zi _ _ _ (@zt _ _ _ _ (@xc _ _ _ _ _ (za (pv 4) (za (pv 5) (@zb _)))))))))))), ?_⟩;rw [show start ["script", "tops", "first", "shape", "outcomes", "hands", "k", "j", "size", "words", "worths", "word"] [V.ref a, V.ref tp] = [some (V.ref a), some (V.ref tp), none, none, none, none, none, none, none, none, none, none] from rfl];simp only [zm, zl, ↓reduceIte];refine ⟨a, ns, 0, rfl, hS, ?_⟩;simp only [zm, zl, ↓reduceIte];refine ⟨a, ns, 1, rfl, hS, ?_⟩;simp only [zm, zl, ↓reduceIte];refine ⟨by decide, zr ns 0, yr ns, ?_, ?_, fun H1 o S1 ho ho1 => ?_⟩
    . have := yn (zr ns 1) (show (0 : Int) < 8 by decide)
      rw [show ((yr ns : Nat) : Int) = 1 + zr ns 1 % 8 by unfold yr; omega]
    . have := qw ns; omega
    simp only [zm, zl, ↓reduceIte];refine ⟨by decide, fun b hb => ?_⟩;have hh := yn (zr ns 1 / 8) (show (0 : Int) < 4 by decide);have hN := ox ns;have hO := qw ns;refine ⟨⟨by decide, by decide⟩, by decide, by omega, by omega, ?_⟩;rw [show (1 + zr ns 1 / 8 % 4).toNat = wx ns from rfl];refine di (PvH a tp o b ns tops H1) ⟨[], _, _, _, _, _, NewHands.nil (Same.refl _) hb, rfl⟩ ?_ ?_
    . rintro j σ H' hj ⟨xs, t1, t2, t3, t4, t5, G, rfl⟩
      simp only [zm, zl, ↓reduceIte];have SA := S1.trans G.same;refine ⟨a, ns, 2, rfl, SA.seq hS, by decide, fun p1 hp1 => ?_⟩;have S2 : Same H' (upd H' p1 (.lst [V.int 1, V.int 9, V.int 83, V.int 761])) := Same.upd (Same.refl _) hp1;have hl2 : upd H' p1 (.lst [V.int 1, V.int 9, V.int 83, V.int 761]) p1 = some (.lst [V.int 1, V.int 9, V.int 83, V.int 761]) := zd;generalize upd H' p1 (.lst [V.int 1, V.int 9, V.int 83, V.int 761]) = H2 at *
      have hdiv : [V.int 1, V.int 9, V.int 83, V.int 761][j]? = some (V.int (([1, 9, 83, 761] : List Int).getD j 0)) /\ 0 < ([1, 9, 83, 761] : List Int).getD j 0 /\ ([1, 9, 83, 761] : List Int).getD j 0 < 1073741824 := by
        have : ∀ k : Fin 4, [V.int 1, V.int 9, V.int 83, V.int 761][k.val]? = some (V.int (([1, 9, 83, 761] : List Int).getD k.val 0)) /\ 0 < ([1, 9, 83, 761] : List Int).getD k.val 0 /\ ([1, 9, 83, 761] : List Int).getD k.val 0 < 1073741824 := by decide
        exact this ⟨j, by omega⟩
      refine ⟨_, .of hl2, _, zx hdiv.1, ?_⟩;simp only [zm, zl, ↓reduceIte];obtain ⟨t, et, et2, ht1, ht2⟩ := ht.get ns;refine ⟨⟨hdiv.2.1, hdiv.2.2⟩, ⟨by decide, by decide⟩, by decide, _, (SA.trans S2).seq hT, _, bv hh.1 (v := V.int t) (by rw [Ze, et]; rfl), ?_⟩;simp only [zm, zl, ↓reduceIte];refine ⟨by omega, ⟨by decide, by decide⟩, a, ns, 3, rfl, (SA.trans S2).seq hS, ?_⟩;simp only [zm, zl, ↓reduceIte];refine ⟨.inl ⟨by decide, by decide⟩, by decide, fun p2 hp2 => ?_⟩;have S3 : Same H2 (upd H2 p2 (.lst [V.int (zr ns 0), V.int (zr ns 0 / 5 + j), V.int (zr ns 3 + 31 * j)])) := Same.upd (Same.refl _) hp2;have hl3 : upd H2 p2 (.lst [V.int (zr ns 0), V.int (zr ns 0 / 5 + j), V.int (zr ns 3 + 31 * j)]) p2 = some (.lst [V.int (zr ns 0), V.int (zr ns 0 / 5 + j), V.int (zr ns 3 + 31 * j)]) := zd;generalize upd H2 p2 (.lst [V.int (zr ns 0), V.int (zr ns 0 / 5 + j), V.int (zr ns 3 + 31 * j)]) = H3 at *;have h32 := yn (zr ns 1 / 32) (show (0 : Int) < 3 by decide)
      have hw3 : [V.int (zr ns 0), V.int (zr ns 0 / 5 + j), V.int (zr ns 3 + 31 * j)][(zr ns 1 / 32 % 3).toNat]? = some (V.int (nq ns j)) := by
        unfold nq;have : (zr ns 1 / 32 % 3).toNat < 3 := by omega
        generalize (zr ns 1 / 32 % 3).toNat = m at this ⊢
        match m, this with
        | 0, _ => rfl
        | 1, _ => rfl
        | 2, _ => rfl
      refine ⟨⟨by decide, by decide⟩, by decide, _, .of hl3, _, bv h32.1 hw3, nq ns j, xu ns tops j, ?_, ?_, fun H4 wl S4 hwl hwl4 => ?_⟩
      . have := yn (zr ns 2 / ([1, 9, 83, 761] : List Int).getD j 0) (show 0 < t by omega)
        rw [show ((xu ns tops j : Nat) : Int) = 1 + zr ns 2 / ([1, 9, 83, 761] : List Int).getD j 0 % t by unfold xu; rw [et2]; omega]
      . have := qc (ns := ns) ht j; omega
      refine ⟨by decide, fun g hg => ?_⟩;have hwN := qc (ns := ns) ht j;have SB := (SA.trans S2).trans (S3.trans S4);have GG := (G.more S2).more (S3.trans S4);have hwg : upd H4 g (.lst []) wl = some (.lst ((xp (nq ns j) (xu ns tops j)).map V.str)) := by rw [zn (y0 hwl4 hg)]; exact hwl4
      refine ⟨_, rfl, ⟨_, .of hwg⟩, ?_⟩;refine sd (K := K) (xs := (xp (nq ns j) (xu ns tops j)).map V.str) (PvG a tp o b g wl ns tops H4 j) ⟨[], _, _, NewGrid.nil (Same.refl _) hg, by rw [Nat.zero_mul, Nat.add_zero]⟩ ?_ ?_ ?_
      . rintro m σ H5 hm ⟨gs, t2, t5, NG, rfl⟩
        exact .of (NG.same _ _ hwl4)
      . rintro m x σ H5 hx ⟨gs, t2, t5, NG, rfl⟩
        simp only [zm, zl, ↓reduceIte];have So : Same H1 H5 := (G.same.trans (S2.trans (S3.trans S4))).trans NG.same;have ho5 : H5 o = some (.lst ((ra ns).map V.str)) := So _ _ ho1
        have hm : m < xu ns tops j := by
          have := (Zc.mp hx).1;rw [Za, x0] at this;exact this
        have hol : ((ra ns).map V.str).length = yr ns := by rw [Za, ra, x0]
        refine ⟨.inl ⟨rfl, _, .of NG.at'⟩, _, .inl (.of ho5), ?_⟩;rw [hol, Zw];refine ⟨by omega, by omega, fun d => ?_⟩;refine m4 (PvR ns H5 (xi ns tops j + m * yr ns)) ⟨rfl, rfl⟩ ?_ ?_ ?_
        . rintro i ys H6 hi ⟨rfl, rfl⟩
          rw [Za, j3];exact Zd (show i <= 8 by omega) (by decide)
        . rintro i ys H6 hi ⟨rfl, rfl⟩
          simp only [zm, zl, ↓reduceIte];refine ⟨a, ns, xi ns tops j + m * yr ns + i, ?_, (S1.trans So).seq hS, ?_⟩
          . rw [show ((xi ns tops j + m * yr ns : Nat) : Int) + (i : Int) = ((xi ns tops j + m * yr ns + i : Nat) : Int) by omega]
          refine ⟨_, rfl, rfl, ?_⟩;rw [zfl, Zn];rfl
        . rintro ys H6 ⟨rfl, rfl⟩ l hl
          have hgl : g ≠ l := y0 NG.at' hl;refine ⟨gs.map V.ref, by rw [zn hgl]; exact NG.at', ?_, (ra ns).map V.str, .inl ?_, ?_⟩
          . rw [Za, NG.lb]
            exact Zh hm (Zd hwN.2 (by decide))
          . have hog : o ≠ g := fun e => by
              have h1 := (G.same.trans (S2.trans (S3.trans S4))) _ _ ho1;rw [e, hg] at h1; cases h1
            have hol2 : o ≠ l := y0 ho5 hl;exact .of (by rw [zn hog, zn hol2]; exact ho5)
          . have NG2 := NG.laid (c := l) (o := .lst ((rowA ns (xi ns tops j + m * yr ns) (yr ns)).map V.int)) hl
            have NG3 := NG2.snoc (c := l) (ns := rowA ns (xi ns tops j + m * yr ns) (yr ns)) (NG.same.free hl) zd (j3 ..) (fun z => by
              obtain ⟨k, hk, e⟩ := Zy z;have e1 : gs[k]? = some l := by rw [<- e]; simp [hk]
              have hk2 : k < (vg ns (xi ns tops j) (yr ns) m).length := by rw [NG.lr, <- NG.lb]; exact hk
              have e2 : (vg ns (xi ns tops j) (yr ns) m)[k]? = some (vg ns (xi ns tops j) (yr ns) m)[k] := by simp [hk2]
              have := (NG.row k l _ e1 e2).1
              rw [hl] at this; cases this) (Ne.symm hgl)
            refine ⟨gs ++ [l], t2, some x, ?_, ?_⟩
            . rw [zb4]
              exact NG3
            . rw [hol, show ((xi ns tops j + m * yr ns : Nat) : Int) + (yr ns : Int) = ((xi ns tops j + (m + 1) * yr ns : Nat) : Int) by rw [Nat.succ_mul]; omega]
      . rintro σ H5 ⟨gs, t2, t5, NG, rfl⟩
        rw [Za, x0] at NG ⊢;simp only [zm, zl, ↓reduceIte];have S5 := NG.same;have GH := GG.more S5;have hb5 := GH.at';refine ⟨.inl ⟨rfl, _, .of hb5⟩, ⟨by decide, by decide⟩, by decide, fun p3 hp3 => ?_⟩;have S6 : Same H5 (upd H5 p3 (.lst [V.int (zr ns 0), V.int (zr ns 0 / 7 + 2)])) := Same.upd (Same.refl _) hp3;have hl6 : upd H5 p3 (.lst [V.int (zr ns 0), V.int (zr ns 0 / 7 + 2)]) p3 = some (.lst [V.int (zr ns 0), V.int (zr ns 0 / 7 + 2)]) := zd;generalize upd H5 p3 (.lst [V.int (zr ns 0), V.int (zr ns 0 / 7 + 2)]) = H6 at *;have h96 := yn (zr ns 1 / 96) (show (0 : Int) < 2 by decide)
        have hw6 : [V.int (zr ns 0), V.int (zr ns 0 / 7 + 2)][(zr ns 1 / 96 % 2).toNat]? = some (V.int (vq ns)) := by
          unfold vq;have : (zr ns 1 / 96 % 2).toNat < 2 := by omega
          generalize (zr ns 1 / 96 % 2).toNat = m at this ⊢
          match m, this with
          | 0, _ => rfl
          | 1, _ => rfl
        refine ⟨⟨by decide, by decide⟩, by decide, _, .of hl6, _, bv h96.1 hw6, vq ns, 4, rfl, by decide, fun H7 l S7 hl hl7 => ?_⟩;have hj4 : j < 4 := by omega
        refine ⟨_, rfl, _, .of hl7, V.str (w9 (vq ns) j), ?_, by decide, fun tt htt => ?_⟩
        . refine zx ?_
          rw [Ze, xp, Ze, List.getElem?_range hj4];rfl
        have S57 := S6.trans S7;have S8 : Same H7 (upd H7 tt (.tup [V.str (w9 (vq ns) j), V.ref wl, V.ref g])) := Same.upd (Same.refl _) htt;have htt8 : upd H7 tt (.tup [V.str (w9 (vq ns) j), V.ref wl, V.ref g]) tt = some (.tup [V.str (w9 (vq ns) j), V.ref wl, V.ref g]) := zd;generalize upd H7 tt (.tup [V.str (w9 (vq ns) j), V.ref wl, V.ref g]) = H8 at *;have S58 := S57.trans S8;have G7 := GH.more S57;have G8 := GH.more S58;have hb8 := G8.at';have hd : HandAt H8 ⟨tt, wl, g, gs⟩ (cn ns tops j) := ⟨htt8, S58 _ _ (S5 _ _ hwl4), S58 _ _ NG.at', by rw [NG.lb]; exact (dh ..).symm, fun i r ms e1 e2 => S58 _ _ (NG.row i r ms e1 e2).1⟩
        have h4 : ∀ y ∈ g :: gs, H4 y = none := fun y hy => by
          rcases ZK.mp hy with e | z
          . rw [e]; exact hg
          . exact NG.nr y z
        have S14 : Same H1 H4 := GG.same;have S13 : Same H1 H3 := G.same.trans (S2.trans S3)
        have h5 : ∀ y ∈ wl :: g :: gs, H5 y ≠ none := fun y hy => by
          rcases ZK.mp hy with e | z
          . rw [e, S5 _ _ hwl4]; simp
          rcases ZK.mp z with e | z
          . rw [e, NG.at']; simp
          . obtain ⟨k, hk, e⟩ := Zy z
            have e1 : gs[k]? = some y := by rw [<- e]; simp [hk]
            have hk2 : k < (vg ns (xi ns tops j) (yr ns) (xu ns tops j)).length := by rw [NG.lr, <- NG.lb]; exact hk
            have e2 : (vg ns (xi ns tops j) (yr ns) (xu ns tops j))[k]? = some (vg ns (xi ns tops j) (yr ns) (xu ns tops j))[k] := by simp [hk2]
            rw [(NG.row k y _ e1 e2).1]; simp
        have htt5 : H5 tt = none := S57.free htt;have G3 := (G.more S2).more S3;refine ⟨_, hb8, ?_, ?_⟩
        . rw [Za, G.len, wg, Za, Yh]
          exact Zh hj4 (by decide)
        refine ⟨xs ++ [⟨tt, wl, g, gs⟩], _, _, _, _, _, ?_, rfl⟩;rw [zay];refine G8.snoc hd (fun y hy => ?_) ?_ (fun y hy => ?_) ?_
        . rcases ZK.mp hy with e | hy
          . rw [e]; exact (S14.trans S5).free htt5
          rcases ZK.mp hy with e | hy
          . rw [e]; exact S13.free hwl
          . exact S14.free (h4 y hy)
        . refine ZO.mpr ⟨fun z => h5 _ z htt5, ZO.mpr ⟨fun z => ?_, ZO.mpr ⟨NG.ne, NG.nd⟩⟩⟩
          have := h4 _ z;rw [hwl4] at this; cases this
        . intro hz
          rcases ZK.mp hy with e | hy
          . rw [e] at hz; exact G7.old _ hz htt
          rcases ZK.mp hy with e | hy
          . rw [e] at hz; exact G3.old _ hz hwl
          . exact GG.old _ hz (h4 y hy)
        . intro hy
          rcases ZK.mp hy with e | hy
          . have := G7.at'
            rw [e, htt] at this; cases this
          rcases ZK.mp hy with e | hy
          . have := G3.at'
            rw [e, hwl] at this; cases this
          . have := GG.at'
            rw [h4 _ hy] at this; cases this
    . rintro σ H' ⟨xs, t1, t2, t3, t4, t5, G, rfl⟩
      simp only [zm, zl, ↓reduceIte];exact ⟨by decide, fun p hp => q H1 H' _ o b p xs S1 ho ho1 G hp rfl⟩
end
def ss (z : Str) : Prop := 1 <= z.length /\ z.length <= 8 /\ ∀ c ∈ z.cps.toList, 97 <= c /\ c <= 122
theorem zbu (i : Int) : 97 <= letA i /\ letA i <= 122 := by
  have := yn i (show (0 : Int) < 26 by decide);unfold letA; omega
theorem m5 {z : Str} {n c : Nat} (h : c ∈ (xl z n).cps.toList) : c ∈ z.cps.toList := by
  unfold xl at h;simp only [List.toList_toArray, YN] at h;obtain ⟨l, h1, h2⟩ := h;rw [(List.mem_replicate.mp h1).2] at h2;exact h2
theorem jl {y z : Str} {c : Nat} (h : c ∈ (y ++ z).cps.toList) : c ∈ y.cps.toList \/ c ∈ z.cps.toList := by
  have : (y ++ z).cps.toList = y.cps.toList ++ z.cps.toList := by
    show (y.cps ++ z.cps).toList = _
    simp
  rw [this] at h;exact ZH.mp h
theorem bp (c : Int) : 1 <= vn c /\ vn c <= 8 := by
  have := yn (numA c / 24336) (show (0 : Int) < 8 by decide);unfold vn; omega
theorem zdb (c : Int) : 0 <= uv c /\ uv c < vn c := yn _ (by have := bp c; omega)
theorem oa (c : Int) : (p9 c).length = 1 := rfl
theorem kj {c : Int} {d : Nat} (h : d ∈ (p9 c).cps.toList) : 97 <= d /\ d <= 122 := by
  have : d = letA (numA c) := by simpa [p9, chr1] using h
  rw [this]; exact zbu _
theorem gi (c : Int) {k : Nat} (hk : k < 8) : ss (w9 c k) := by
  unfold w9;have hs := bp c;have hp := zdb c
  by_cases h : numA c / 26 % 3 = 1
  . rw [if_pos h]
    refine ⟨?_, ?_, fun d hd => kj (m5 hd)⟩ <;> rw [xt, oa] <;> omega
  . rw [if_neg h]
    refine ⟨?_, ?_, fun d hd => ?_⟩
    . rw [v6, v6, xt, xt, oa]
      show 1 <= _ + 1 + _
      omega
    . rw [v6, v6, xt, xt, oa]
      show _ + 1 + _ <= 8
      omega
    . rcases jl hd with z | z
      . rcases jl z with z | z
        . exact kj (m5 z)
        . have : d = letA (numA c / 78 % 26 + um c * k) := by simpa [chr1] using z
          rw [this]; exact zbu _
      . exact kj (m5 z)
theorem zib {x y : Str} {n : Nat} {a b : Nat} (f : Str) (h : xl f n ++ chr1 a ++ x = xl f n ++ chr1 b ++ y) : a = b := by
  have h1 : (xl f n ++ chr1 a ++ x).cps.toList = (xl f n ++ chr1 b ++ y).cps.toList := by rw [h]
  have e : ∀ (z : Str) (a : Nat), (xl f n ++ chr1 a ++ z).cps.toList = (xl f n).cps.toList ++ ([a] ++ z.cps.toList) := fun z a => by
    show (((xl f n).cps ++ (chr1 a).cps) ++ z.cps).toList = _
    simp [chr1]
  rw [e, e] at h1;have := List.append_cancel_left h1;simp at this;exact this.1
theorem zae (c : Int) : um c ∈ stepsA := by
  have := yn (numA c / 2028) (show (0 : Int) < 12 by decide);unfold um;have hl : (numA c / 2028 % 12).toNat < stepsA.length := by show _ < 12; omega
  rw [Zk, Zb hl];exact Zl hl
theorem zgv {c : Int} {b : Int} {i j : Nat} (hi : i < 13) (hj : j < 13) (h : letA (b + um c * i) = letA (b + um c * j)) : i = j := by
  have hs := zae c;generalize um c = st at hs h;have h1 := yn (b + st * i) (show (0 : Int) < 26 by decide);have h2 := yn (b + st * j) (show (0 : Int) < 26 by decide);have h3 : (b + st * i) % 26 = (b + st * j) % 26 := by unfold letA at h; omega
  simp only [stepsA, ZK, Zx, or_false] at hs
  rcases hs with rfl | rfl | rfl | rfl | rfl | rfl | rfl | rfl | rfl | rfl | rfl | rfl <;> omega
theorem zd6 (c : Int) {i j : Nat} (hi : i < 13) (hj : j < 13) (h : w9 c i = w9 c j) : i = j := by
  unfold w9 at h
  by_cases q : numA c / 26 % 3 = 1
  . rw [if_pos q, if_pos q] at h
    have := congrArg Str.length h;rw [xt, xt, oa] at this;omega
  . rw [if_neg q, if_neg q] at h
    exact zgv hi hj (zib _ h)
theorem o8 (c : Int) {n : Nat} (hn : n <= 13) : (xp c n).Nodup := by
  unfold xp;refine Yg.mpr ?_;refine List.Pairwise.imp_of_mem ?_ (List.nodup_range (n := n));intro i j hi hj hne e;exact hne (zd6 c (by have := ZX.mp hi; omega) (by have := ZX.mp hj; omega) e)
theorem ib (c : Int) {n : Nat} (hn : n <= 8) : ∀ z ∈ xp c n, ss z := fun z hz => by
  obtain ⟨i, hi, rfl⟩ := Zp.mp hz;exact gi c (by have := ZX.mp hi; omega)
theorem zfc (c : Int) : -(10 ^ 60) < q8 c /\ q8 c < 10 ^ 60 := by
  unfold q8;have h1 := yn (c / 5) (show (0 : Int) < 10 ^ 18 by decide);have h2 := yn (c / 5) (show (0 : Int) < 2 * 10 ^ 60 - 1 by decide);have h3 := yn (c / 5) (show (0 : Int) < 19 by decide)
  split
  . omega
  . split
    . omega
    . split
      . exact ⟨by decide, by decide⟩
      . omega
def strT (z : Str) : Tr := .lf (.str z)
def intT (i : Int) : Tr := .lf (.int i)
def rowT (ns : List Int) : Tr := .tp (ns.map intT)
def zb9 (d : HD) : Tr := .tp [strT d.name, .tp (d.words.map strT), .tp (d.worths.map rowT)]
def houseT (outs : List Str) (ds : List HD) : Tr := .tp [.tp (outs.map strT), .tp (ds.map zb9)]
structure HandsL (H : Hp) (b : Addr) (xs : List HX) (ds : List HD) : Prop where
  at' : H b = some (.lst (xs.map fun x => V.ref x.t))
  len : xs.length = ds.length
  hand : ∀ (i : Nat) (x : HX) (d : HD), xs[i]? = some x -> ds[i]? = some d -> HandAt H x d
theorem NewHands.lists {H H' : Hp} {b : Addr} {xs : List HX} {ds : List HD} (g : NewHands H H' b xs ds) : HandsL H' b xs ds := ⟨g.at', g.len, g.hand⟩
theorem HandsL.mono {H H' : Hp} {b : Addr} {xs : List HX} {ds : List HD} (S : Same H H') (g : HandsL H b xs ds) : HandsL H' b xs ds := ⟨S _ _ g.at', g.len, fun i x d e1 e2 => (g.hand i x d e1 e2).mono S⟩
theorem jb {K : Fg} {H : Hp} : ∀ (zs : List Str), TrsAt K H (zs.map strT) (zs.map V.str)
  | [] => TrsAt.nil
  | z :: zs => TrsAt.cons (TrAt.lf rfl) (jb zs)
theorem fe {K : Fg} {H : Hp} : ∀ (zs : List Int), TrsAt K H (zs.map intT) (zs.map V.int)
  | [] => TrsAt.nil
  | z :: zs => TrsAt.cons (TrAt.lf rfl) (fe zs)
def PvD (K : Fg) (ds : List HD) (H1 : Hp) (i : Nat) (ys : List V) (H' : Hp) : Prop := Same H1 H' /\ ys.length = i /\ TrsAt K H' ((ds.take i).map zb9) ys
def PvE (K : Fg) (rows : List (List Int)) (H1 : Hp) (i : Nat) (ys : List V) (H' : Hp) : Prop := Same H1 H' /\ ys.length = i /\ TrsAt K H' ((rows.take i).map rowT) ys
section
variable {P : Program} {w : World} {K : Fg} {mg : Str -> Option Value} {base : Heap}
end
def rowL (ns : List Int) : Tr := .ls (ns.map intT)
def zce (d : HD) : Tr := .tp [strT d.name, .ls (d.words.map strT), .ls (d.worths.map rowL)]
theorem zbg {K : Fg} {H : Hp} : ∀ {gs : List Addr} {rows : List (List Int)}, gs.length = rows.length -> (∀ (i : Nat) (r : Addr) (ns : List Int), gs[i]? = some r -> rows[i]? = some ns -> H r = some (.lst (ns.map V.int))) -> TrsAt K H (rows.map rowL) (gs.map V.ref)
  | [], [], _, _ => TrsAt.nil
  | g :: gs, r :: rows, hl, h => TrsAt.cons (TrAt.ls (.of (h 0 g r rfl rfl)) (fe r)) (zbg (by simpa using hl) fun i a b e1 e2 => h (i + 1) a b e1 e2)
theorem HandAt.tree {K : Fg} {H : Hp} {x : HX} {d : HD} (h : HandAt H x d) : TrAt K H (zce d) (.ref x.t) :=
  TrAt.tp (.of h.tup) (TrsAt.cons (TrAt.lf rfl) (TrsAt.cons (TrAt.ls (.of h.words) (jb _)) (TrsAt.cons (TrAt.ls (.of h.grid) (zbg h.len h.row)) TrsAt.nil)))
theorem ba {K : Fg} {H : Hp} : ∀ {xs : List HX} {ds : List HD}, xs.length = ds.length -> (∀ (i : Nat) (x : HX) (d : HD), xs[i]? = some x -> ds[i]? = some d -> HandAt H x d) -> TrsAt K H (ds.map zce) (xs.map fun x => V.ref x.t)
  | [], [], _, _ => TrsAt.nil
  | x :: xs, d :: ds, hl, h => TrsAt.cons (h 0 x d rfl rfl).tree (ba (by simpa using hl) fun i a b e1 e2 => h (i + 1) a b e1 e2)
theorem HandsL.tree {K : Fg} {H : Hp} {b : Addr} {xs : List HX} {ds : List HD} (h : HandsL H b xs ds) : TrAt K H (.ls (ds.map zce)) (.ref b) := TrAt.ls (.of h.at') (ba h.len h.hand)
mutual
def tups : Tr -> Bool
  | .lf _ => true
  | .ls _ => false
  | .tp ts => ck ts
def ck : List Tr -> Bool
  | [] => true
  | t :: ts => tups t && ck ts
end
mutual
theorem TrAt.past {K : Fg} {H : Hp} {a : Addr} {xs ys : List V} (ha : H a = some (.lst xs)) : ∀ {t : Tr} {x : V}, tups t = true -> TrAt K H t x -> TrAt K (upd H a (.lst ys)) t x
  | .lf v, x, _, h => by rw [TrAt] at h ⊢; exact h
  | .ls ts, x, p, h => by rw [tups] at p; cases p
  | .tp ts, x, p, h => by
    rw [tups] at p;rw [TrAt] at h ⊢;obtain ⟨c, us, e, sq, h⟩ := h;refine ⟨c, us, e, ?_, TrsAt.past ha p h⟩
    have ne : ∀ o, H c = some o -> (∀ zs, o ≠ .lst zs) -> upd H a (.lst ys) c = some o := fun o q n => by
      rw [zn (fun e => by rw [e, ha] at q; cases q; exact n _ rfl)]; exact q
    rcases sq with (q | ⟨o, q⟩) | q
    . exact .inl (.inl (ne _ q (by intro zs z; cases z)))
    . exact .inl (.inr ⟨o, ne _ q (by intro zs z; cases z)⟩)
    . exact .inr q
theorem TrsAt.past {K : Fg} {H : Hp} {a : Addr} {xs ys : List V} (ha : H a = some (.lst xs)) : ∀ {ts : List Tr} {us : List V}, ck ts = true -> TrsAt K H ts us -> TrsAt K (upd H a (.lst ys)) ts us
  | [], us, _, h => by rw [TrsAt] at h ⊢; exact h
  | t :: ts, us, p, h => by
    rw [ck, Bool.and_eq_true] at p;rw [TrsAt] at h ⊢;obtain ⟨y, zs, e, h1, h2⟩ := h;exact ⟨y, zs, e, TrAt.past ha p.1 h1, TrsAt.past ha p.2 h2⟩
end
structure GoodHouse (outs : List Str) (ds : List HD) : Prop where
  outs1 : 1 <= outs.length /\ outs.length <= 8
  outsG : ∀ z ∈ outs, ss z
  outsD : outs.Nodup
  hands : 1 <= ds.length /\ ds.length <= 4
  handsG : ∀ d ∈ ds, ss d.name
  handsD : (ds.map HD.name).Nodup
  words1 : ∀ d ∈ ds, 1 <= d.words.length /\ d.words.length <= 8
  wordsG : ∀ d ∈ ds, ∀ z ∈ d.words, ss z
  wordsD : ∀ d ∈ ds, d.words.Nodup
  rows : ∀ d ∈ ds, d.worths.length = d.words.length
  cols : ∀ d ∈ ds, ∀ r ∈ d.worths, r.length = outs.length
  nums : ∀ d ∈ ds, ∀ r ∈ d.worths, ∀ n ∈ r, -(10 ^ 60) < n /\ n < 10 ^ 60
  few : (ds.map fun d => d.words.length).prod <= 256
def zg4 (K : Fg) : Sp := fun vs H Q _ => ∃ (o b : Addr) (outs : List Str) (xs : List HX) (ds : List HD), vs = [.ref o, .ref b] /\ H o = some (.lst (outs.map V.str)) /\ HandsL H b xs ds /\ GoodHouse outs ds /\
  ∀ H' p us, Same H H' -> H' p = some (.tup us) -> TrAt K H' (houseT outs ds) (.ref p) -> Q (.ref p) H'
theorem wo {ns tops : List Int} {m : Nat} {d : HD} (h : d ∈ wg ns tops m) : ∃ j, j < m /\ d = cn ns tops j := by
  obtain ⟨j, hj, rfl⟩ := Zp.mp h;exact ⟨j, ZX.mp hj, rfl⟩
theorem zhr {n t : Nat} : ∀ {l : List Nat}, (∀ x ∈ l, x <= t) -> l.length = n -> l.prod <= t ^ n := by
  induction n with
  | zero => intro l _ hl; rw [Yo.mp hl]; simp
  | succ n ih =>
    intro l h hl
    match l, hl with
    | x :: l, hl =>
      rw [List.prod_cons, Nat.pow_succ, Nat.mul_comm];exact YV (ih (fun y hy => h y (Zv _ hy)) (by simpa using hl)) (h x ZA)
def FewT (tops : List Int) : Prop := ∀ h, h < 4 -> (tops.getD h 0).toNat ^ (h + 1) <= 256
theorem goodA (ns : List Int) {tops : List Int} (ht : Tops tops) (hf : FewT tops) : GoodHouse (ra ns) (wg ns tops (wx ns)) where
  outs1 := by rw [ra, x0]; exact qw ns
  outsG := ib _ (qw ns).2
  outsD := o8 _ (by have := qw ns; omega)
  hands := by rw [wg, Za, Yh]; exact ox ns
  handsG := fun d hd => by
    obtain ⟨j, hj, rfl⟩ := wo hd;exact gi _ (by have := ox ns; omega)
  handsD := by
    have : (wg ns tops (wx ns)).map HD.name = xp (vq ns) (wx ns) := by rw [wg, xp, Yz]; rfl
    rw [this];exact o8 _ (by have := ox ns; omega)
  words1 := fun d hd => by
    obtain ⟨j, hj, rfl⟩ := wo hd
    show 1 <= (xp _ _).length /\ (xp _ _).length <= 8
    rw [x0]; exact qc ht j
  wordsG := fun d hd => by
    obtain ⟨j, hj, rfl⟩ := wo hd;exact ib _ (qc ht j).2
  wordsD := fun d hd => by
    obtain ⟨j, hj, rfl⟩ := wo hd;exact o8 _ (by have := qc (ns := ns) ht j; omega)
  rows := fun d hd => by
    obtain ⟨j, hj, rfl⟩ := wo hd
    show (vg _ _ _ _).length = (xp _ _).length
    rw [dh, x0]
  cols := fun d hd r hr => by
    obtain ⟨j, hj, rfl⟩ := wo hd;obtain ⟨i, _, rfl⟩ := Zp.mp hr;rw [j3, ra, x0]
  nums := fun d hd r hr n hn => by
    obtain ⟨j, hj, rfl⟩ := wo hd;obtain ⟨i, _, rfl⟩ := Zp.mp hr;obtain ⟨k, _, rfl⟩ := Zp.mp hn;exact zfc _
  few := by
    obtain ⟨t, e1, e2, h1, h2⟩ := ht.get ns;have hh := yn (zr ns 1 / 8) (show (0 : Int) < 4 by decide);have h3 := hf (zr ns 1 / 8 % 4).toNat (by omega);rw [e2] at h3;refine Zd (zhr (n := wx ns) (t := t.toNat) (fun x hx => ?_) (by rw [Za, wg, Za, Yh])) ?_
    . obtain ⟨d, hd, rfl⟩ := Zp.mp hx
      obtain ⟨j, hj, rfl⟩ := wo hd
      show (xp _ _).length <= _
      rw [x0];unfold xu;rw [e2];have := yn (zr ns 2 / ([1, 9, 83, 761] : List Int).getD j 0) (show 0 < t by omega);omega
    . rw [show wx ns = (zr ns 1 / 8 % 4).toNat + 1 by unfold wx; omega]
      exact h3
def ci (i : Int) : Prop := -(10 ^ 60) < i /\ i < 10 ^ 60
def zdu : Sp := fun vs H Q _ => ∃ i : Int, vs = [.int i] /\ Q (.bl true) H
def zd7 : Sp := fun vs H Q _ => ∃ i : Int, vs = [.int i] /\ ci i /\ Q (.bl true) H
def qRow : Sp := fun vs H Q _ => ∃ (r : Addr) (ns : List Int) (n : Nat), vs = [.ref r, .int n] /\ H r = some (.lst (ns.map V.int)) /\ ns.length = n /\ n <= 8 /\ (∀ i ∈ ns, ci i) /\ ∀ H', Same H H' -> Q (.bl true) H'
def zcv : Sp := fun vs H Q _ => ∃ z : Str, vs = [.str z] /\ ss z /\ ∀ H', Same H H' -> Q (.bl true) H'
def zad : Sp := fun vs H Q _ => ∃ (l : Addr) (zs : List Str) (m : Nat), vs = [.ref l, .int m] /\ H l = some (.lst (zs.map V.str)) /\ 1 <= zs.length /\ zs.length <= m /\ m <= 8 /\ (∀ z ∈ zs, ss z) /\ zs.Nodup /\ ∀ H', Same H H' -> Q (.bl true) H'
def zbk : Sp := fun vs H Q _ => ∃ (g : Addr) (gs : List Addr) (rows : List (List Int)) (h n : Nat), vs = [.ref g, .int h, .int n] /\ H g = some (.lst (gs.map V.ref)) /\ gs.length = h /\ rows.length = h /\ h <= 8 /\ n <= 8 /\ (∀ (i : Nat) (r : Addr) (ns : List Int), gs[i]? = some r -> rows[i]? = some ns -> H r = some (.lst (ns.map V.int))) /\
  (∀ r ∈ rows, r.length = n /\ ∀ i ∈ r, ci i) /\ ∀ H', Same H H' -> Q (.bl true) H'
structure GoodD (d : HD) (n : Nat) : Prop where
  name : ss d.name
  words : 1 <= d.words.length /\ d.words.length <= 8
  wordsG : ∀ z ∈ d.words, ss z
  wordsD : d.words.Nodup
  rows : d.worths.length = d.words.length
  cols : ∀ r ∈ d.worths, r.length = n /\ ∀ i ∈ r, ci i
theorem GoodHouse.hand {outs : List Str} {ds : List HD} (g : GoodHouse outs ds) {d : HD} (h : d ∈ ds) : GoodD d outs.length :=
  ⟨g.handsG d h, g.words1 d h, g.wordsG d h, g.wordsD d h, g.rows d h, fun r hr => ⟨g.cols d h r hr, fun i hi => g.nums d h r hr i hi⟩⟩
def qHand : Sp := fun vs H Q _ => ∃ (x : HX) (d : HD) (n : Nat), vs = [.ref x.t, .int n] /\ HandAt H x d /\ GoodD d n /\ n <= 8 /\ ∀ H', Same H H' -> Q (.bl true) H'
def uy (f : HX -> HD -> V) : Sp := fun vs H Q _ => ∃ (x : HX) (d : HD), vs = [.ref x.t] /\ HandAt H x d /\ Q (f x d) H
def zex : Sp := fun vs H Q _ => ∃ (b : Addr) (xs : List HX) (ds : List HD), vs = [.ref b] /\ HandsL H b xs ds /\ (∀ d ∈ ds, d.words.length <= 8) /\ ds.length <= 4 /\ Q (.int ((ds.map fun d => d.words.length).prod : Nat)) H
def ay : Sp := fun vs H Q _ => ∃ (o b : Addr) (outs : List Str) (xs : List HX) (ds : List HD), vs = [.ref o, .ref b] /\ H o = some (.lst (outs.map V.str)) /\ HandsL H b xs ds /\ GoodHouse outs ds /\ ∀ H', Same H H' -> Q (.bl true) H'
def qKept (K : Fg) : Sp := fun vs H Q _ => ∃ (x : HX) (d : HD), vs = [.ref x.t] /\ HandAt H x d /\ d.worths.length <= 8 /\ ∀ H' p, Same H H' -> TrAt K H' (zb9 d) (.ref p) -> Q (.ref p) H'
def allT (n : Nat) : List Bool := List.replicate n true
def PvAT (H : Hp) (i : Nat) (ys : List V) (H' : Hp) : Prop := Same H H' /\ ys = (allT i).map V.bl
theorem rq (n : Nat) : (allT n).map V.bl ++ [V.bl true] = (allT (n + 1)).map V.bl := by
  rw [allT, allT, List.replicate_succ', Zn]; rfl
theorem pp (n : Nat) : (allT n).all id = true := by
  rw [ZS];intro x hx;exact YA hx
theorem pc (n : Nat) : ((allT n).map V.bl).length = n := by rw [Za, allT, ZI]
theorem za5 {zs : List Str} (hd : zs.Nodup) : ∀ i, i <= zs.length -> seen (fun j => zs.getD j ⟨#[]⟩) i = zs.take i
  | 0, _ => rfl
  | i + 1, h => by
    have ih := za5 hd i (by omega);have hi : i < zs.length := by omega
    have e : zs.getD i ⟨#[]⟩ = zs[i] := by simp [Zk, hi]
    show (if zs.getD i ⟨#[]⟩ ∈ seen (fun j => zs.getD j ⟨#[]⟩) i then _ else seen (fun j => zs.getD j ⟨#[]⟩) i ++ [zs.getD i ⟨#[]⟩]) = _
    rw [ih, e, if_neg, Zq]
    . simp [hi]
    . intro hm
      obtain ⟨j, hj, ej⟩ := Zy hm;rw [Zj] at hj;rw [List.getElem_take] at ej;have := (YK hd).mp ej;omega
theorem zhw : kit0 "str" "str" = some true := by decide +kernel
theorem k9 : kit0 "list" "list" = some true := by decide +kernel
theorem zhe : kit0 "tuple" "tuple" = some true := by decide +kernel
theorem zh1 : kit0 "int" "int" = some true := by decide +kernel
theorem zhu : kit0 "int" "bool" = some false := by decide +kernel
theorem zg9 {c : Nat} (h1 : 97 <= c) (h2 : c <= 122) : (!decide ((chr1 c).cps.toList < (Str.ofString "a").cps.toList)) = true /\ (!decide ((Str.ofString "z").cps.toList < (chr1 c).cps.toList)) = true := by
  have ea : (Str.ofString "a").cps.toList = [97] := by decide +kernel
  have ez : (Str.ofString "z").cps.toList = [122] := by decide +kernel
  have ec : (chr1 c).cps.toList = [c] := rfl;rw [ea, ez, ec]
  constructor
  . rw [decide_eq_false]
    . rfl
    . intro z
      rw [List.cons_lt_cons_iff] at z
      rcases z with z | ⟨_, z⟩
      . omega
      . exact absurd z (by simp)
  . rw [decide_eq_false]
    . rfl
    . intro z
      rw [List.cons_lt_cons_iff] at z
      rcases z with z | ⟨_, z⟩
      . omega
      . exact absurd z (by simp)
def PvNm (H : Hp) (ds : List HD) (i : Nat) (ys : List V) (H' : Hp) : Prop := H' = H /\ ys = ((ds.take i).map HD.name).map V.str
def PvCt (H : Hp) (b : Addr) (ds : List HD) (i : Nat) (σ : L2.St) (H4 : Hp) : Prop := H4 = H /\ ∃ v, σ = [some (.ref b), some (.int (((ds.take i).map fun d => d.words.length).prod : Nat)), v]
section
variable {P : Program} {w : World} {K : Fg} {mg : Str -> Option Value} {base : Heap} {a : Ad}
theorem ur (B : Bt mg) (D : zj K mg "is_whole" u9 ["thing"]) : FnAt P w K mg base "is_whole" 1 ["thing"] zdu := by
  refine FnAt.of D jq (fun vs H Q E h => ?_) (fun f cdv A outer s H vs Q E hr h => ?_)
  . obtain ⟨x, rfl, _⟩ := h
    rfl
  . obtain ⟨x, rfl, q⟩ := h
    refine ⟨_, (@zi _ _ _ (@zt _ _ _ _ (@vi _ _ _ _ _ _ _ (zq yt rfl B.isinstance yd (za (pv 0) (za (w6 rfl B.int bd) (@zb _)))) (@uz _ _ _ _ _ (@ze8 _ _ _ _ (zq yt rfl B.isinstance yd (za (pv 0) (za (w6 rfl B.bool zbh) (@zb _))))))))), ?_⟩;rw [show start ["thing"] [V.int x] = [some (V.int x)] from rfl];simp only [zm, zl, ↓reduceIte];exact ⟨_, .int _, true, zh1, iteT ⟨_, .int _, false, zhu, q⟩⟩
theorem qx (B : Bt mg) (ur : FnAt P w K mg base "is_whole" 1 ["thing"] zdu) (D : zj K mg "is_bounded" uw ["thing"]) : FnAt P w K mg base "is_bounded" 2 ["thing"] zd7 := by
  refine FnAt.of D d5 (fun vs H Q E h => ?_) (fun f cdv A outer s H vs Q E hr h => ?_)
  . obtain ⟨x, rfl, _⟩ := h
    rfl
  . obtain ⟨x, rfl, g, q⟩ := h
    refine ⟨_, (@zi _ _ _ (@zt _ _ _ _ (@vi _ _ _ _ _ _ _ (zp ur (hr.mono (by decide)) rfl (za (pv 0) (@zb _))) (@uz _ _ _ _ _ (@se _ _ _ _ _ _ _ _ mj (zq zfq rfl B.abs bt_abs (za (pv 0) (@zb _))) (@zg _ _ _ _ _ _ _ _ vo (@zc _ _ _ _) (@zc _ _ _ _)) (yf _)))))), ?_⟩;rw [show start ["thing"] [V.int x] = [some (V.int x)] from rfl];simp only [zm, zl, ↓reduceIte];refine ⟨x, rfl, _, rfl, iteT ⟨⟨by decide, by decide, by decide⟩, ?_⟩⟩;rw [decide_eq_true]
    . exact q
    . have h1 := g.1
      have h2 := g.2
      show _ < (10 : Int) ^ 60
      split <;> omega
theorem qf (B : Bt mg) (qx : FnAt P w K mg base "is_bounded" 2 ["thing"] zd7) (D : zj K mg "is_grid_row" uc ["thing", "width"]) : FnAt P w K mg base "is_grid_row" 3 ["thing", "width"] qRow := by
  refine FnAt.of D fh (fun vs H Q E h => ?_) (fun f cdv A outer s H vs Q E hr h => ?_)
  . obtain ⟨r, ns, n, rfl, _⟩ := h
    rfl
  . obtain ⟨r, ns, n, rfl, hr1, ln, n8, hg, q⟩ := h
    refine ⟨_, (@zk _ _ _ _ _ (@yl _ _ _ _ _ _ _ _ (PW.pt (@qh _ _ _ _ _ _ _ (@xv _ _ _ _ (wf (zq yt rfl B.isinstance yd (za (pv 0) (za (w6 rfl B.list tu) (@zb _)))))) (@u5 _ _ _ _ (@ye _ _ _ _ _ _ _ _ cp (zq yb rfl B.len yp (za (pv 0) (@zb _))) (pv 1) (yf _))))) (@zi _ _ _ (@zt _ _ _ _ (@wa _ _ _ _))) (@yc _)) (@zi _ _ _ (@zt _ _ _ _ (zq (vh rfl) rfl B.all qt (za (yx ["worth"] ["thing", "width"] rfl (@yz _ _ _ _ (pv 0)) (fun _ => (ya (i := 0) (show (["worth", "thing", "width"] : List Str).Nodup by decide +kernel) rfl (Or.inl rfl))) (fun _ => (@yy _)) (fun _ => (zp qx (hr.mono (by decide)) rfl (za (pv 0) (@zb _)))) rfl (by decide +kernel) rfl rfl) (@zb _)))))), ?_⟩;rw [show start ["thing", "width"] [V.ref r, V.int n] = [some (V.ref r), some (V.int n)] from rfl];simp only [zm, zl, ↓reduceIte];refine ⟨_, .lst hr1, true, k9, iteF ⟨_, .inl (.of hr1), rfl, ?_⟩⟩;rw [Za, ln];refine zcx rfl ⟨⟨_, .of hr1⟩, fun d => ?_⟩;refine xm (xs := ns.map V.int) (PvAT H) ⟨Same.refl _, rfl⟩ ?_ ?_ ?_
    . rintro i ys H2 hi ⟨S, rfl⟩
      rw [Za] at hi;exact ⟨by rw [pc]; exact Zd hi (Zd (show ns.length <= 8 by omega) (by decide)), S.seq (.of hr1)⟩
    . rintro i x ys H2 hx ⟨S, rfl⟩
      obtain ⟨y, hy, rfl⟩ := yq hx;simp only [zm, zl, ↓reduceIte];exact ⟨y, rfl, hg y (Zi hy), S, rq i⟩
    . rintro ys H2 ⟨S, rfl⟩ l hl
      refine ⟨_, .of zd, ?_⟩;rw [pp];exact q _ (S.trans (Same.upd (Same.refl _) hl))
theorem rp (B : Bt mg) (D : zj K mg "is_name" ot ["thing"]) : FnAt P w K mg base "is_name" 1 ["thing"] zcv := by
  refine FnAt.of D zcd (fun vs H Q E h => ?_) (fun f cdv A outer s H vs Q E hr h => ?_)
  . obtain ⟨x, rfl, _⟩ := h
    rfl
  . obtain ⟨z, rfl, g, q⟩ := h
    refine ⟨_, (@zk _ _ _ _ _ (@yl _ _ _ _ _ _ _ _ (PW.pt (@qh _ _ _ _ _ _ _ (@xv _ _ _ _ (wf (zq yt rfl B.isinstance yd (za (pv 0) (za (w6 rfl B.str zdc) (@zb _)))))) (@u5 _ _ _ _ (@xv _ _ _ _ (aa iq iq (@zc _ _ _ _) (zq bw rfl B.len yp (za (pv 0) (@zb _))) (pj rfl B.k_MOST_LETTERS)))))) (@zi _ _ _ (@zt _ _ _ _ (@wa _ _ _ _))) (@yc _)) (@zi _ _ _ (@zt _ _ _ _ (zq (vh rfl) rfl B.all qt (za (yx ["sign"] ["thing"] rfl (@pi_str _ _ _ _ (pv 0)) (fun _ => (ya (i := 0) (show (["sign", "thing"] : List Str).Nodup by decide +kernel) rfl (Or.inl rfl))) (fun _ => (@yy _)) (fun _ => (zf0 zeh zeh (@wm _ _ _ _) (pv 0) (@wm _ _ _ _))) rfl (by decide +kernel) rfl rfl) (@zb _)))))), ?_⟩;rw [show start ["thing"] [V.str z] = [some (V.str z)] from rfl];simp only [zm, zl, ↓reduceIte];obtain ⟨g1, g2, g3⟩ := g;refine ⟨_, .str _, true, zhw, iteF ?_⟩;refine ⟨Zd g2 (by decide), ite2 (fun _ => ite2 (fun h => ?_) fun _ => ?_) fun h => (h (decide_eq_true (by omega))).elim⟩
    . rw [decide_eq_true (show (z.length : Int) <= 8 by omega)] at h
      cases h
    . intro d
      refine zfn (PvAT H) ⟨Same.refl _, rfl⟩ ?_ ?_ ?_
      . rintro i ys H' hi ⟨S, rfl⟩
        rw [pc];exact Zd hi (Zd (show z.cps.size <= 8 from g2) (by decide))
      . rintro i c ys H' hc ⟨S, rfl⟩
        have hm : c ∈ z.cps.toList := by
          obtain ⟨hi, e⟩ := Array.getElem?_eq_some_iff.mp hc;rw [<- e];exact Array.getElem_mem_toList hi
        obtain ⟨o1, o2⟩ := zg9 (g3 c hm).1 (g3 c hm).2;simp only [zm, zl, ↓reduceIte];rw [if_pos o1, o2];exact ⟨S, rq i⟩
      . rintro ys H' ⟨S, rfl⟩ l hl
        refine ⟨_, .of zd, ?_⟩;rw [pp];exact q _ (S.trans (Same.upd (Same.refl _) hl))
theorem ve (B : Bt mg) (rp : FnAt P w K mg base "is_name" 1 ["thing"] zcv) (D : zj K mg "are_names" sj ["thing", "most"]) : FnAt P w K mg base "are_names" 2 ["thing", "most"] zad := by
  refine FnAt.of D bq (fun vs H Q E h => ?_) (fun f cdv A outer s H vs Q E hr h => ?_)
  . obtain ⟨l, zs, m, rfl, _⟩ := h
    rfl
  . obtain ⟨l, zs, m, rfl, hl, g1, g2, g3, gG, gD, q⟩ := h
    refine ⟨_, (@zk _ _ _ _ _ (@yl _ _ _ _ _ _ _ _ (PW.pt (@qh _ _ _ _ _ _ _ (@xv _ _ _ _ (wf (zq yt rfl B.isinstance yd (za (pv 0) (za (w6 rfl B.list tu) (@zb _)))))) (@u5 _ _ _ _ (@xv _ _ _ _ (aa iq iq (@zc _ _ _ _) (zq yb rfl B.len yp (za (pv 0) (@zb _))) (pv 1)))))) (@zi _ _ _ (@zt _ _ _ _ (@wa _ _ _ _))) (@yc _)) (@zi _ _ _ (@zt _ _ _ _ (@vi _ _ _ _ _ _ _ (zq (vh rfl) rfl B.all qt (za (yx ["one"] ["thing", "most"] rfl (@yz _ _ _ _ (pv 0)) (fun _ => (ya (i := 0) (show (["one", "thing", "most"] : List Str).Nodup by decide +kernel) rfl (Or.inl rfl))) (fun _ => (@yy _)) (fun _ => (zp rp (hr.mono (by decide)) rfl (za (pv 0) (@zb _)))) rfl (by decide +kernel) rfl rfl) (@zb _))) (@uz _ _ _ _ _ (@se _ _ _ _ _ _ _ _ xy (ze3 rfl rfl B.len rfl B.set (za (pv 0) (@zb _))) (zq yb rfl B.len yp (za (pv 0) (@zb _))) (yf _))))))), ?_⟩;rw [show start ["thing", "most"] [V.ref l, V.int m] = [some (V.ref l), some (V.int m)] from rfl];simp only [zm, zl, ↓reduceIte];refine ⟨_, .lst hl, true, k9, iteF ⟨_, .inl (.of hl), ?_⟩⟩;rw [Za];refine ite2 (fun _ => ite2 (fun h => ?_) fun _ => ?_) fun h => (h (decide_eq_true (by omega))).elim
    . rw [decide_eq_true (show (zs.length : Int) <= m by omega)] at h
      cases h
    . refine ⟨⟨_, .of hl⟩, fun d => ?_⟩
      refine xm (xs := zs.map V.str) (PvAT H) ⟨Same.refl _, rfl⟩ ?_ ?_ ?_
      . rintro i ys H2 hi ⟨S, rfl⟩
        rw [Za] at hi;exact ⟨by rw [pc]; exact Zd hi (Zd (show zs.length <= 8 by omega) (by decide)), S.seq (.of hl)⟩
      . rintro i x ys H2 hx ⟨S, rfl⟩
        obtain ⟨y, hy, rfl⟩ := yq hx;simp only [zm, zl, ↓reduceIte];exact ⟨y, rfl, gG y (Zi hy), fun H3 S3 => ⟨S.trans S3, rq i⟩⟩
      . rintro ys H2 ⟨S, rfl⟩ p hp
        have S2 : Same H (upd H2 p (.lst ((allT (zs.map V.str).length).map V.bl))) := S.trans (Same.upd (Same.refl _) hp);refine ⟨_, .of zd, ?_⟩;rw [pp];generalize upd H2 p (.lst ((allT (zs.map V.str).length).map V.bl)) = H3 at *;refine ⟨zs, S2.seq (.of hl), by omega, _, .inl (S2.seq (.of hl)), rfl, ?_⟩;rw [za5 gD _ (Zm _), Zt, Za, decide_eq_true rfl];exact q _ S2
theorem pb (B : Bt mg) (qf : FnAt P w K mg base "is_grid_row" 3 ["thing", "width"] qRow) (D : zj K mg "are_worths" tm ["thing", "height", "width"]) : FnAt P w K mg base "are_worths" 4 ["thing", "height", "width"] zbk := by
  refine FnAt.of D dz (fun vs H Q E h => ?_) (fun f cdv A outer s H vs Q E hr h => ?_)
  . obtain ⟨g, gs, rows, ht, n, rfl, _⟩ := h
    rfl
  . obtain ⟨g, gs, rows, ht, n, rfl, hg, l1, l2, b1, b2, hrow, hG, q⟩ := h
    refine ⟨_, (@zk _ _ _ _ _ (@yl _ _ _ _ _ _ _ _ (PW.pt (@qh _ _ _ _ _ _ _ (@xv _ _ _ _ (wf (zq yt rfl B.isinstance yd (za (pv 0) (za (w6 rfl B.list tu) (@zb _)))))) (@u5 _ _ _ _ (@ye _ _ _ _ _ _ _ _ cp (zq yb rfl B.len yp (za (pv 0) (@zb _))) (pv 1) (yf _))))) (@zi _ _ _ (@zt _ _ _ _ (@wa _ _ _ _))) (@yc _)) (@zi _ _ _ (@zt _ _ _ _ (zq (vh rfl) rfl B.all qt (za (yx ["row"] ["thing", "height", "width"] rfl (@yz _ _ _ _ (pv 0)) (fun _ => (ya (i := 0) (show (["row", "thing", "height", "width"] : List Str).Nodup by decide +kernel) rfl (Or.inl rfl))) (fun _ => (@yy _)) (fun _ => (zp qf (hr.mono (by decide)) rfl (za (pv 0) (za (pv 3) (@zb _))))) rfl (by decide +kernel) rfl rfl) (@zb _)))))), ?_⟩;rw [show start ["thing", "height", "width"] [V.ref g, V.int ht, V.int n] = [some (V.ref g), some (V.int ht), some (V.int n)] from rfl];simp only [zm, zl, ↓reduceIte];refine ⟨_, .lst hg, true, k9, iteF ⟨_, .inl (.of hg), rfl, ?_⟩⟩;rw [Za, l1];refine zcx rfl ⟨⟨_, .of hg⟩, fun d => ?_⟩;refine xm (xs := gs.map V.ref) (PvAT H) ⟨Same.refl _, rfl⟩ ?_ ?_ ?_
    . rintro i ys H2 hi ⟨S, rfl⟩
      rw [Za] at hi;exact ⟨by rw [pc]; exact Zd hi (Zd (show gs.length <= 8 by omega) (by decide)), S.seq (.of hg)⟩
    . rintro i x ys H2 hx ⟨S, rfl⟩
      obtain ⟨r, hr', rfl⟩ := yq hx;have hi : i < rows.length := by have := (Zc.mp hr').1; omega
      have e2 : rows[i]? = some rows[i] := by simp [hi]
      have hm := hG rows[i] (Zl hi);simp only [zm, zl, ↓reduceIte];exact ⟨r, rows[i], n, rfl, S _ _ (hrow i r rows[i] hr' e2), hm.1, b2, hm.2, fun H3 S3 => ⟨S.trans S3, rq i⟩⟩
    . rintro ys H2 ⟨S, rfl⟩ l hl
      refine ⟨_, .of zd, ?_⟩;rw [pp];exact q _ (S.trans (Same.upd (Same.refl _) hl))
theorem lq (B : Bt mg) (rp : FnAt P w K mg base "is_name" 1 ["thing"] zcv) (ve : FnAt P w K mg base "are_names" 2 ["thing", "most"] zad) (pb : FnAt P w K mg base "are_worths" 4 ["thing", "height", "width"] zbk) (D : zj K mg "is_hand" oh ["thing", "width"]) : FnAt P w K mg base "is_hand" 5 ["thing", "width"] qHand := by
  refine FnAt.of D zck (fun vs H Q E h => ?_) (fun f cdv A outer s H vs Q E hr h => ?_)
  . obtain ⟨x, d, n, rfl, _⟩ := h
    rfl
  . obtain ⟨x, d, n, rfl, hx, g, n8, q⟩ := h
    refine ⟨_, (@zk _ _ _ _ _ (@yl _ _ _ _ _ _ _ _ (PW.pt (@qh _ _ _ _ _ _ _ (@xv _ _ _ _ (wf (zq yt rfl B.isinstance yd (za (pv 0) (za (w6 rfl B.tuple x8) (@zb _)))))) (@u5 _ _ _ _ (@ye _ _ _ _ _ _ _ _ cp (zq yb rfl B.len yp (za (pv 0) (@zb _))) (@zc _ _ _ _) (yf _))))) (@zi _ _ _ (@zt _ _ _ _ (@wa _ _ _ _))) (@yc _)) (@zi _ _ _ (@zt _ _ _ _ (@vi _ _ _ _ _ _ _ (zp rp (hr.mono (by decide)) rfl (za (@yi _ _ _ _ _ _ _ xf (pv 0) (@zc _ _ _ _) (fun _ _ => rfl)) (@zb _))) (@vi _ _ _ _ _ _ _ (zp ve (hr.mono (by decide)) rfl (za (@yi _ _ _ _ _ _ _ xf (pv 0) (@zc _ _ _ _) (fun _ _ => rfl)) (za (pj rfl B.k_MOST_WORDS) (@zb _)))) (@uz _ _ _ _ _ (zp pb (hr.mono (by decide)) rfl (za (@yi _ _ _ _ _ _ _ xf (pv 0) (@zc _ _ _ _) (fun _ _ => rfl)) (za (zq yb rfl B.len yp (za (@yi _ _ _ _ _ _ _ xf (pv 0) (@zc _ _ _ _) (fun _ _ => rfl)) (@zb _))) (za (pv 1) (@zb _))))))))))), ?_⟩;rw [show start ["thing", "width"] [V.ref x.t, V.int n] = [some (V.ref x.t), some (V.int n)] from rfl];simp only [zm, zl, ↓reduceIte];refine ⟨_, .tup hx.tup, true, zhe, iteF ⟨_, .inr (.of hx.tup), rfl, zcx rfl ?_⟩⟩;refine ⟨_, .of hx.tup, _, zx (j := 0) rfl, d.name, rfl, g.name, fun H1 S1 => ?_⟩;have hx1 := hx.mono S1;refine ⟨_, rfl, iteT ⟨_, .of hx1.tup, _, zx (j := 1) rfl, x.w, d.words, 8, rfl, hx1.words, g.words.1, g.words.2, Zm _, g.wordsG, g.wordsD, fun H2 S2 => ?_⟩⟩;have hx2 := hx1.mono S2;refine ⟨_, rfl, iteT ⟨_, .of hx2.tup, _, zx (j := 2) rfl, _, .of hx2.tup, _, zx (j := 1) rfl, x.w, rfl, _, .inl (.of hx2.words), ?_⟩⟩;rw [Za];have hw := g.words.2;have hr2 := g.rows;exact ⟨x.g, x.gs, d.worths, d.words.length, n, rfl, hx2.grid, by rw [hx2.len]; exact hr2, hr2, hw, n8, hx2.row, g.cols, fun H3 S3 => q H3 (S1.trans (S2.trans S3))⟩
theorem vj (D : zj K mg "name_of" oj ["hand"]) : FnAt P w K mg base "name_of" 1 ["hand"] (uy fun _ d => .str d.name) := by
  refine FnAt.of D zc3 (fun vs H Q E h => ?_) (fun f cdv A outer s H vs Q E hr h => ?_)
  . obtain ⟨x, d, rfl, _⟩ := h
    rfl
  . obtain ⟨x, d, rfl, hx, q⟩ := h
    refine ⟨_, (@zi _ _ _ (@zt _ _ _ _ (@yi _ _ _ _ _ _ _ xf (pv 0) (@zc _ _ _ _) (fun _ _ => rfl)))), ?_⟩;rw [show start ["hand"] [V.ref x.t] = [some (V.ref x.t)] from rfl];simp only [zm, zl, ↓reduceIte];exact ⟨_, .of hx.tup, _, zx (j := 0) rfl, q⟩
theorem yk (D : zj K mg "words_of_hand" wk ["hand"]) : FnAt P w K mg base "words_of_hand" 1 ["hand"] (uy fun x _ => .ref x.w) := by
  refine FnAt.of D qv (fun vs H Q E h => ?_) (fun f cdv A outer s H vs Q E hr h => ?_)
  . obtain ⟨x, d, rfl, _⟩ := h
    rfl
  . obtain ⟨x, d, rfl, hx, q⟩ := h
    refine ⟨_, (@zi _ _ _ (@zt _ _ _ _ (@yi _ _ _ _ _ _ _ xf (pv 0) (@zc _ _ _ _) (fun _ _ => rfl)))), ?_⟩;rw [show start ["hand"] [V.ref x.t] = [some (V.ref x.t)] from rfl];simp only [zm, zl, ↓reduceIte];exact ⟨_, .of hx.tup, _, zx (j := 1) rfl, q⟩
theorem y7 (D : zj K mg "worths_of_hand" x9 ["hand"]) : FnAt P w K mg base "worths_of_hand" 1 ["hand"] (uy fun x _ => .ref x.g) := by
  refine FnAt.of D qg (fun vs H Q E h => ?_) (fun f cdv A outer s H vs Q E hr h => ?_)
  . obtain ⟨x, d, rfl, _⟩ := h
    rfl
  . obtain ⟨x, d, rfl, hx, q⟩ := h
    refine ⟨_, (@zi _ _ _ (@zt _ _ _ _ (@yi _ _ _ _ _ _ _ xf (pv 0) (@zc _ _ _ _) (fun _ _ => rfl)))), ?_⟩;rw [show start ["hand"] [V.ref x.t] = [some (V.ref x.t)] from rfl];simp only [zm, zl, ↓reduceIte];exact ⟨_, .of hx.tup, _, zx (j := 2) rfl, q⟩
theorem ux (B : Bt mg) (yk : FnAt P w K mg base "words_of_hand" 1 ["hand"] (uy fun x _ => .ref x.w)) (D : zj K mg "count_of_rows" vf ["hands"]) : FnAt P w K mg base "count_of_rows" 2 ["hands"] zex := by
  refine FnAt.of D sc_count_of_rows (fun vs H Q E h => ?_) (fun f cdv A outer s H vs Q E hr h => ?_)
  . obtain ⟨b, xs, ds, rfl, _⟩ := h
    rfl
  . obtain ⟨b, xs, ds, rfl, hh, h8, h4, q⟩ := h
    refine ⟨_, (@zk _ _ _ _ _ (zz (i := 1) sc_count_of_rows.nd rfl (Or.inl rfl) (@zc _ _ _ _)) (@zk _ _ _ _ _ (ul PassesOwn.never rfl (@yz _ _ _ _ (pv 0)) (ya (i := 2) sc_count_of_rows.nd rfl (Or.inl rfl)) (@zi _ _ _ (zz (i := 1) sc_count_of_rows.nd rfl (Or.inl rfl) (@zg _ _ _ _ _ _ _ _ wj (pv 1) (zq yb rfl B.len yp (za (zp yk (hr.mono (by decide)) rfl (za (pv 2) (@zb _))) (@zb _))))))) (@zi _ _ _ (@zt _ _ _ _ (pv 1))))), ?_⟩;rw [show start ["hands", "count", "hand"] [V.ref b] = [some (V.ref b), none, none] from rfl];simp only [zm, zl, ↓reduceIte];refine ⟨⟨_, .of hh.at'⟩, ?_⟩;refine sd (xs := xs.map fun x => V.ref x.t) (PvCt H b ds) ⟨rfl, _, rfl⟩ ?_ ?_ ?_
    . rintro i σ H4 hi ⟨rfl, v, rfl⟩
      exact .of hh.at'
    . rintro i x σ H4 hx ⟨rfl, v, rfl⟩
      obtain ⟨y, hy, rfl⟩ := yq hx;have hi : i < ds.length := by have := (Zc.mp hy).1; have := hh.len; omega
      have e2 : ds[i]? = some ds[i] := by simp [hi]
      have hd := hh.hand i y ds[i] hy e2;have hw := h8 ds[i] (Zl hi);simp only [zm, zl, ↓reduceIte];refine ⟨y, ds[i], rfl, hd, ?_⟩;simp only [zm, zl, ↓reduceIte];refine ⟨_, .inl (.of hd.words), ?_⟩;rw [Za];refine ⟨.inr ⟨by omega, by omega⟩, rfl, some (V.ref y.t), ?_⟩;rw [Zq, e2, Zn, List.prod_append];simp only [Option.toList, ZL, Xc, List.prod_cons, List.prod_nil, Nat.mul_one, Xj]
    . rintro σ H4 ⟨rfl, v, rfl⟩
      simp only [zm, zl, ↓reduceIte];rw [Za, hh.len, Zt];exact q
def zab : Sp := fun vs H Q _ => ∃ (b : Addr) (xs : List HX) (ds : List HD), vs = [.ref b] /\ HandsL H b xs ds /\ ds.length <= 4 /\ ∀ l, H l = none -> Q (.ref l) (upd H l (.lst ((ds.map HD.name).map V.str)))
theorem m6 (vj : FnAt P w K mg base "name_of" 1 ["hand"] (uy fun _ d => .str d.name)) (D : zj K mg "names_of" qi ["hands"]) : FnAt P w K mg base "names_of" 2 ["hands"] zab := by
  refine FnAt.of D zam (fun vs H Q E h => ?_) (fun f cdv A outer s H vs Q E hr h => ?_)
  . obtain ⟨b, xs, ds, rfl, _⟩ := h
    rfl
  . obtain ⟨b, xs, ds, rfl, hh3, g4, q⟩ := h
    refine ⟨_, (@zi _ _ _ (@zt _ _ _ _ (yx ["hand"] ["hands"] rfl (@yz _ _ _ _ (pv 0)) (fun _ => (ya (i := 0) (show (["hand", "hands"] : List Str).Nodup by decide +kernel) rfl (Or.inl rfl))) (fun _ => (@yy _)) (fun _ => (zp vj (hr.mono (by decide)) rfl (za (pv 0) (@zb _)))) rfl (by decide +kernel) rfl rfl))), ?_⟩;rw [show start ["hands"] [V.ref b] = [some (V.ref b)] from rfl];simp only [zm, zl, ↓reduceIte];refine ⟨⟨_, .of hh3.at'⟩, fun d2 => ?_⟩;refine xm (xs := xs.map fun x => V.ref x.t) (PvNm H ds) ⟨rfl, rfl⟩ ?_ ?_ ?_
    . rintro i ys H4 hi ⟨rfl, rfl⟩
      refine ⟨?_, .of hh3.at'⟩;rw [Za, Za, Zj];exact Zd (ZB _ _) (Zd g4 (by decide))
    . rintro i x ys H4 hx ⟨rfl, rfl⟩
      obtain ⟨y, hy, rfl⟩ := yq hx;have hi : i < ds.length := by have := (Zc.mp hy).1; have := hh3.len; omega
      have e2 : ds[i]? = some ds[i] := by simp [hi]
      simp only [zm, zl, ↓reduceIte];refine ⟨y, ds[i], rfl, hh3.hand i y ds[i] hy e2, rfl, ?_⟩;rw [Zq, e2, Zn, Zn];rfl
    . rintro ys H4 ⟨rfl, rfl⟩ l hl
      rw [Za, hh3.len, Zt];exact q l hl
theorem vc (B : Bt mg) (ve : FnAt P w K mg base "are_names" 2 ["thing", "most"] zad) (lq : FnAt P w K mg base "is_hand" 5 ["thing", "width"] qHand) (m6 : FnAt P w K mg base "names_of" 2 ["hands"] zab) (ux : FnAt P w K mg base "count_of_rows" 2 ["hands"] zex)
    (D : zj K mg "makes_house" v7 ["outcomes", "hands"]) : FnAt P w K mg base "makes_house" 6 ["outcomes", "hands"] ay := by
  refine FnAt.of D fu (fun vs H Q E h => ?_) (fun f cdv A outer s H vs Q E hr h => ?_)
  . obtain ⟨o, b, outs, xs, ds, rfl, _⟩ := h
    rfl
  . obtain ⟨o, b, outs, xs, ds, rfl, ho, hh, g, q⟩ := h
    refine ⟨_, (@zk _ _ _ _ _ (@yl _ _ _ _ _ _ _ _ (PW.pt (@qh _ _ _ _ _ _ _ (@xv _ _ _ _ (wf (zp ve (hr.mono (by decide)) rfl (za (pv 0) (za (pj rfl B.k_MOST_OUTCOMES) (@zb _)))))) (@u5 _ _ _ _ (@xv _ _ _ _ (wf (zq yt rfl B.isinstance yd (za (pv 1) (za (w6 rfl B.list tu) (@zb _))))))))) (@zi _ _ _ (@zt _ _ _ _ (@wa _ _ _ _))) (@yc _)) (@zk _ _ _ _ _ (@yl _ _ _ _ _ _ _ _ (@xv _ _ _ _ (wf (zq (vh rfl) rfl B.all qt (za (yx ["hand"] ["outcomes", "hands"] rfl (@yz _ _ _ _ (pv 1)) (fun _ => (ya (i := 0) (show (["hand", "outcomes", "hands"] : List Str).Nodup by decide +kernel) rfl (Or.inl rfl))) (fun _ => (@yy _)) (fun _ => (zp lq (hr.mono (by decide)) rfl (za (pv 0) (za (zq yb rfl B.len yp (za (pv 1) (@zb _))) (@zb _))))) rfl (by decide +kernel) rfl rfl) (@zb _))))) (@zi _ _ _ (@zt _ _ _ _ (@wa _ _ _ _))) (@yc _)) (@zi _ _ _ (@zt _ _ _ _ (@vi _ _ _ _ _ _ _ (zp ve (hr.mono (by decide)) rfl (za (zp m6 (hr.mono (by decide)) rfl (za (pv 1) (@zb _))) (za (pj rfl B.k_MOST_HANDS) (@zb _)))) (@uz _ _ _ _ _ (@se _ _ _ _ _ _ _ _ iq (zp ux (hr.mono (by decide)) rfl (za (pv 1) (@zb _))) (pj rfl B.k_MOST_ROWS) (yf _)))))))), ?_⟩;rw [show start ["outcomes", "hands"] [V.ref o, V.ref b] = [some (V.ref o), some (V.ref b)] from rfl];simp only [zm, zl, ↓reduceIte];have g1 := g.outs1;have g2 := g.hands;refine ⟨o, outs, 8, rfl, ho, g1.1, g1.2, Zm _, g.outsG, g.outsD, fun H1 S1 => ?_⟩;simp only [zm, zl, ↓reduceIte];have hh1 := hh.mono S1;have ho1 := S1 _ _ ho;refine iteF ⟨_, .lst hh1.at', true, k9, iteF ⟨⟨_, .of hh1.at'⟩, fun d => ?_⟩⟩;refine xm (xs := xs.map fun x => V.ref x.t) (PvAT H1) ⟨Same.refl _, rfl⟩ ?_ ?_ ?_
    . rintro i ys H2 hi ⟨S, rfl⟩
      rw [Za, hh.len] at hi;exact ⟨by rw [pc]; exact Zd hi (Zd g2.2 (by decide)), S.seq (.of hh1.at')⟩
    . rintro i x ys H2 hx ⟨S, rfl⟩
      obtain ⟨y, hy, rfl⟩ := yq hx;have hi : i < ds.length := by have := (Zc.mp hy).1; have := hh.len; omega
      have e2 : ds[i]? = some ds[i] := by simp [hi]
      simp only [zm, zl, ↓reduceIte];refine ⟨_, .inl (S.seq (.of ho1)), ?_⟩;rw [Za];exact ⟨y, ds[i], outs.length, rfl, (hh1.hand i y ds[i] hy e2).mono S, g.hand (Zl hi), g1.2, fun H3 S3 => ⟨S.trans S3, rq i⟩⟩
    . rintro ys H2 ⟨S, rfl⟩ p hp
      have S2 : Same H1 (upd H2 p (.lst ((allT (xs.map fun x => V.ref x.t).length).map V.bl))) := S.trans (Same.upd (Same.refl _) hp);refine ⟨_, .of zd, ?_⟩;rw [pp];generalize upd H2 p (.lst ((allT (xs.map fun x => V.ref x.t).length).map V.bl)) = H3 at *;have hh3 := hh1.mono S2;refine iteF ⟨b, xs, ds, rfl, hh3, g2.2, fun l hl => ?_⟩;have S5 : Same H3 (upd H3 l (.lst ((ds.map HD.name).map V.str))) := Same.upd (Same.refl _) hl;refine ⟨l, ds.map HD.name, 4, rfl, zd, by rw [Za]; exact g2.1, by rw [Za]; exact g2.2, by decide, fun z hz => ?_, g.handsD, fun H6 S6 => ?_⟩
      . obtain ⟨d, hd, rfl⟩ := Zp.mp hz
        exact g.handsG d hd
      . generalize upd H3 l (.lst ((ds.map HD.name).map V.str)) = H5 at *
        have S36 := S5.trans S6;have few := g.few;refine ⟨_, rfl, iteT ⟨b, xs, ds, rfl, hh3.mono S36, fun d hd => (g.words1 d hd).2, g2.2, _, rfl, ?_⟩⟩;rw [decide_eq_true (by omega)];exact q _ (S1.trans (S2.trans S36))
theorem sw (B : Bt mg) (vj : FnAt P w K mg base "name_of" 1 ["hand"] (uy fun _ d => .str d.name)) (yk : FnAt P w K mg base "words_of_hand" 1 ["hand"] (uy fun x _ => .ref x.w)) (y7 : FnAt P w K mg base "worths_of_hand" 1 ["hand"] (uy fun x _ => .ref x.g))
    (D : zj K mg "kept_hand" vx ["hand"]) : FnAt P w K mg base "kept_hand" 2 ["hand"] (qKept K) := by
  refine FnAt.of D sc_kept_hand (fun vs H Q E h => ?_) (fun f cdv A outer s H vs Q E hr h => ?_)
  . obtain ⟨x, d, rfl, _⟩ := h
    rfl
  . obtain ⟨x, d, rfl, hx, h8, q⟩ := h
    refine ⟨_, (@zk _ _ _ _ _ (zz (i := 1) sc_kept_hand.nd rfl (Or.inl rfl) (yu xz rfl B.tuple x8 (za (yx ["row"] ["hand", "worths"] rfl (@yz _ _ _ _ (zp y7 (hr.mono (by decide)) rfl (za (pv 0) (@zb _)))) (fun _ => (ya (i := 0) (show (["row", "hand", "worths"] : List Str).Nodup by decide +kernel) rfl (Or.inl rfl))) (fun _ => (@yy _)) (fun _ => (yu xz rfl B.tuple x8 (za (pv 0) (@zb _)))) rfl (by decide +kernel) rfl rfl) (@zb _)))) (@zi _ _ _ (@zt _ _ _ _ (@xc _ _ _ _ _ (za (zp vj (hr.mono (by decide)) rfl (za (pv 0) (@zb _))) (za (yu xz rfl B.tuple x8 (za (zp yk (hr.mono (by decide)) rfl (za (pv 0) (@zb _))) (@zb _))) (za (pv 1) (@zb _)))))))), ?_⟩;rw [show start ["hand", "worths"] [V.ref x.t] = [some (V.ref x.t), none] from rfl];simp only [zm, zl, ↓reduceIte];refine ⟨x, d, rfl, hx, ?_⟩;simp only [zm, zl, ↓reduceIte];refine ⟨⟨_, .of hx.grid⟩, fun dd => ?_⟩;refine xm (xs := x.gs.map V.ref) (PvE K d.worths H) ⟨Same.refl _, rfl, TrsAt.nil⟩ ?_ ?_ ?_
    . rintro i ys H2 hi ⟨S, ly, _⟩
      rw [Za, hx.len] at hi;exact ⟨by rw [ly]; exact Zd hi (Zd h8 (by decide)), S.seq (.of hx.grid)⟩
    . rintro i y ys H2 hy ⟨S, ly, ty⟩
      obtain ⟨r, hr', rfl⟩ := yq hy;have hi : i < d.worths.length := by have := (Zc.mp hr').1; have := hx.len; omega
      have e2 : d.worths[i]? = some d.worths[i] := by simp [hi]
      simp only [zm, zl, ↓reduceIte];refine ⟨_, S.seq (.of (hx.row i r _ hr' e2)), fun l hl => ?_⟩;have S3 : Same H2 (upd H2 l (.tup ((d.worths[i]).map V.int))) := Same.upd (Same.refl _) hl;refine ⟨S.trans S3, by simp [ly], ?_⟩;rw [Zq, e2, Zn];exact TrsAt.append (TrsAt.mono S3 ty) (TrsAt.cons (TrAt.tp (.of zd) (fe _)) TrsAt.nil)
    . rintro ys H2 ⟨S, ly, ty⟩ l hl
      rw [Za, hx.len, Zt] at ty;have S3 : Same H2 (upd H2 l (.lst ys)) := Same.upd (Same.refl _) hl;refine ⟨_, .of zd, fun l1 hl1 => ?_⟩;generalize upd H2 l (.lst ys) = H3 at *;have S4 : Same H3 (upd H3 l1 (.tup ys)) := Same.upd (Same.refl _) hl1;have h4 : upd H3 l1 (.tup ys) l1 = some (.tup ys) := zd;generalize upd H3 l1 (.tup ys) = H4 at *;have S24 := S.trans (S3.trans S4);refine ⟨x, d, rfl, hx.mono S24, x, d, rfl, hx.mono S24, x.w, rfl, _, .of (hx.mono S24).words, fun l2 hl2 => ⟨by decide, fun p hp => ?_⟩⟩;have S5 : Same H4 (upd H4 l2 (.tup (d.words.map V.str))) := Same.upd (Same.refl _) hl2;have h5 : upd H4 l2 (.tup (d.words.map V.str)) l2 = some (.tup (d.words.map V.str)) := zd;generalize upd H4 l2 (.tup (d.words.map V.str)) = H5 at *;have S6 : Same H5 (upd H5 p (.tup [V.str d.name, V.ref l2, V.ref l1])) := Same.upd (Same.refl _) hp;refine q _ p (S24.trans (S5.trans S6)) (TrAt.tp (.of zd) (TrsAt.cons (TrAt.lf rfl) (TrsAt.cons (TrAt.tp (.of (S6 _ _ h5)) (jb _)) (TrsAt.cons (TrAt.tp (.of ((S5.trans S6) _ _ h4)) (TrsAt.mono (S3.trans (S4.trans (S5.trans S6))) ty)) TrsAt.nil))))
theorem io (B : Bt mg) (C : Ct K mg a) (vc : FnAt P w K mg base "makes_house" 6 ["outcomes", "hands"] ay) (sw : FnAt P w K mg base "kept_hand" 2 ["hand"] (qKept K)) (D : zj K mg "house_of" u8 ["outcomes", "hands"]) : FnAtX P w K mg base "house_of" 7 ["outcomes", "hands"] (zg4 K) := by
  refine FnAtX.of D jr (fun vs H Q E h => ?_) (fun f cdv A outer s H vs Q E hr h => ?_)
  . obtain ⟨o, b, outs, xs, ds, rfl, _⟩ := h
    rfl
  . obtain ⟨o, b, outs, xs, ds, rfl, ho, hh, g, q⟩ := h
    refine ⟨_, (@zk _ _ _ _ _ (@yl _ _ _ _ _ _ _ _ (@xv _ _ _ _ (wf (zp vc (hr.mono (by decide)) rfl (za (pv 0) (za (pv 1) (@zb _)))))) (@zi _ _ _ (my rfl C.q_NoHouse.toErr rfl C.m_NoHouse (sk rfl) (za (@wm _ _ _ _) (@zb _)))) (@yc _)) (@zi _ _ _ (PS.nox (@zt _ _ _ _ (@xc _ _ _ _ _ (za (yu xz rfl B.tuple x8 (za (pv 0) (@zb _))) (za (yu xz rfl B.tuple x8 (za (yx ["hand"] ["outcomes", "hands"] rfl (@yz _ _ _ _ (pv 1)) (fun _ => (ya (i := 0) (show (["hand", "outcomes", "hands"] : List Str).Nodup by decide +kernel) rfl (Or.inl rfl))) (fun _ => (@yy _)) (fun _ => (zp sw (hr.mono (by decide)) rfl (za (pv 0) (@zb _)))) rfl (by decide +kernel) rfl rfl) (@zb _))) (@zb _)))))))), ?_⟩;rw [show start ["outcomes", "hands"] [V.ref o, V.ref b] = [some (V.ref o), some (V.ref b)] from rfl];simp only [zm, zl, ↓reduceIte];have g2 := g.hands;refine ⟨o, b, outs, xs, ds, rfl, ho, hh, g, fun H1 S1 => ?_⟩;simp only [zm, zl, ↓reduceIte];have hh1 := hh.mono S1;have ho1 := S1 _ _ ho;refine iteF ⟨_, .of ho1, fun l hl => ?_⟩;have S2 : Same H1 (upd H1 l (.tup (outs.map V.str))) := Same.upd (Same.refl _) hl;have h2 : upd H1 l (.tup (outs.map V.str)) l = some (.tup (outs.map V.str)) := zd;generalize upd H1 l (.tup (outs.map V.str)) = H2 at *;have hh2 := hh1.mono S2;refine ⟨⟨_, .of hh2.at'⟩, fun d => ?_⟩;refine xm (xs := xs.map fun x => V.ref x.t) (PvD K ds H2) ⟨Same.refl _, rfl, TrsAt.nil⟩ ?_ ?_ ?_
    . rintro i ys H3 hi ⟨S, ly, _⟩
      rw [Za, hh.len] at hi;exact ⟨by rw [ly]; exact Zd hi (Zd g2.2 (by decide)), S.seq (.of hh2.at')⟩
    . rintro i y ys H3 hy ⟨S, ly, ty⟩
      obtain ⟨x, hx, rfl⟩ := yq hy;have hi : i < ds.length := by have := (Zc.mp hx).1; have := hh.len; omega
      have e2 : ds[i]? = some ds[i] := by simp [hi]
      have hm := Zl hi;have r8 : (ds[i]).worths.length <= 8 := by rw [g.rows _ hm]; exact (g.words1 _ hm).2
      simp only [zm, zl, ↓reduceIte];refine ⟨x, ds[i], rfl, (hh2.hand i x ds[i] hx e2).mono S, r8, fun H4 p S4 tp => ?_⟩;refine ⟨S.trans S4, by simp [ly], ?_⟩;rw [Zq, e2, Zn];exact TrsAt.append (TrsAt.mono S4 ty) (TrsAt.cons tp TrsAt.nil)
    . rintro ys H3 ⟨S, ly, ty⟩ l1 hl1
      rw [Za, hh.len, Zt] at ty;have S4 : Same H3 (upd H3 l1 (.lst ys)) := Same.upd (Same.refl _) hl1;refine ⟨_, .of zd, fun l2 hl2 => ⟨by decide, fun p hp => ?_⟩⟩;generalize upd H3 l1 (.lst ys) = H4 at *;have S5 : Same H4 (upd H4 l2 (.tup ys)) := Same.upd (Same.refl _) hl2;have h5 : upd H4 l2 (.tup ys) l2 = some (.tup ys) := zd;generalize upd H4 l2 (.tup ys) = H5 at *;have S6 : Same H5 (upd H5 p (.tup [V.ref l, V.ref l2])) := Same.upd (Same.refl _) hp;have S36 := S4.trans (S5.trans S6);exact q _ p _ (S1.trans (S2.trans (S.trans S36))) zd (TrAt.tp (.of zd) (TrsAt.cons (TrAt.tp (.of ((S.trans S36) _ _ h2)) (jb _)) (TrsAt.cons (TrAt.tp (.of (S6 _ _ h5)) (TrsAt.mono S36 ty)) TrsAt.nil)))
end
section
variable {α : Type}
def x6 (r : List α) (ws : List α) : List (List α) := ws.map fun w => r ++ [w]
def xq (rs : List (List α)) (ws : List α) : List (List α) := (rs.map fun r => x6 r ws).flatten
def z0 (wss : List (List α)) : List (List α) := wss.foldl xq [[]]
theorem zb1 (wss : List (List α)) (ws : List α) : z0 (wss ++ [ws]) = xq (z0 wss) ws := by simp [z0]
theorem g0 (r : List α) (rs : List (List α)) (ws : List α) : xq (r :: rs) ws = x6 r ws ++ xq rs ws := by simp [xq]
theorem i0 (rs : List (List α)) (r : List α) (ws : List α) : xq (rs ++ [r]) ws = xq rs ws ++ x6 r ws := by simp [xq]
theorem vy (r : List α) (ws : List α) : (x6 r ws).length = ws.length := by simp [x6]
theorem rm (ws : List α) : ∀ rs : List (List α), (xq rs ws).length = rs.length * ws.length
  | [] => by simp [xq]
  | r :: rs => by rw [g0, Zo, vy, rm ws rs, ZP, Nat.succ_mul, Nat.add_comm]
theorem wz {wss : List (List α)} {j : Nat} {ws : List α} (h : wss[j]? = some ws) : z0 (wss.take (j + 1)) = xq (z0 (wss.take j)) ws := by
  rw [Zq, h];exact zb1 _ _
theorem df (wss : List (List α)) : (z0 wss).length = (wss.map List.length).prod := by
  have : ∀ n, n <= wss.length -> (z0 (wss.take n)).length = ((wss.take n).map List.length).prod := by
    intro n
    induction n with
    | zero => intro _; rfl
    | succ n ih =>
      intro h;have e : wss[n]? = some wss[n] := Zb (by omega);rw [wz e, rm, ih (by omega), Zq, e, Zn, List.prod_append];simp
  have := this wss.length (Zm _)
  rwa [Zt] at this
theorem ki {rs : List (List α)} {ws : List α} {row : List α} (h : row ∈ xq rs ws) : ∃ r w, r ∈ rs /\ w ∈ ws /\ row = r ++ [w] := by
  simp only [xq, x6, YN, Zp] at h;obtain ⟨l, ⟨r, hr, rfl⟩, h⟩ := h;obtain ⟨w, hw, rfl⟩ := Zp.mp h;exact ⟨r, w, hr, hw, rfl⟩
theorem js (wss : List (List α)) : ∀ n, n <= wss.length -> ∀ row ∈ z0 (wss.take n), row.length = n := by
  intro n
  induction n with
  | zero => intro _ row h; simp [z0] at h; simp [h]
  | succ n ih =>
    intro h row hr;have e : wss[n]? = some wss[n] := Zb (by omega);rw [wz e] at hr;obtain ⟨r, w, h1, _, rfl⟩ := ki hr;simp [ih (by omega) r h1]
end
structure TupsAt (H : Hp) (as : List Addr) (rs : List (List Str)) : Prop where
  len : as.length = rs.length
  at' : ∀ (i : Nat) (a : Addr) (r : List Str), as[i]? = some a -> rs[i]? = some r -> H a = some (.tup (r.map V.str))
theorem TupsAt.nil {H : Hp} : TupsAt H [] [] := ⟨rfl, fun i a r e => by simp at e⟩
theorem TupsAt.mono {H H' : Hp} {as : List Addr} {rs : List (List Str)} (S : Same H H') (h : TupsAt H as rs) : TupsAt H' as rs := ⟨h.len, fun i a r e1 e2 => S _ _ (h.at' i a r e1 e2)⟩
theorem TupsAt.append {H : Hp} {as bs : List Addr} {rs qs : List (List Str)} (h1 : TupsAt H as rs) (h2 : TupsAt H bs qs) : TupsAt H (as ++ bs) (rs ++ qs) := by
  refine ⟨by simp [h1.len, h2.len], fun i a r e1 e2 => ?_⟩
  by_cases hi : i < as.length
  . rw [Zg hi] at e1
    rw [Zg (by rw [<- h1.len]; exact hi)] at e2;exact h1.at' i a r e1 e2
  . rw [Zf (ZD.mp hi)] at e1
    rw [Zf (by rw [<- h1.len]; exact ZD.mp hi)] at e2;rw [h1.len] at e1;exact h2.at' _ a r e1 e2
theorem TupsAt.one {H : Hp} {a : Addr} {r : List Str} (h : H a = some (.tup (r.map V.str))) : TupsAt H [a] [r] := ⟨rfl, fun i b q e1 e2 => by
  cases i with
  | zero =>
    simp at e1 e2;subst e1 e2;exact h
  | succ i => simp at e1⟩
theorem TupsAt.past {H : Hp} {p : Addr} {xs ys : List V} {as : List Addr} {rs : List (List Str)} (hp : H p = some (.lst xs)) (h : TupsAt H as rs) : TupsAt (upd H p (.lst ys)) as rs :=
  ⟨h.len, fun i a r e1 e2 => by
    have := h.at' i a r e1 e2;rw [zn (fun e => by rw [e, hp] at this; cases this)]
    exact this⟩
structure RwsAt (H : Hp) (l : Addr) (as : List Addr) (rs : List (List Str)) : Prop where
  lst : H l = some (.lst (as.map V.ref))
  tups : TupsAt H as rs
theorem RwsAt.mono {H H' : Hp} {l : Addr} {as : List Addr} {rs : List (List Str)} (S : Same H H') (h : RwsAt H l as rs) : RwsAt H' l as rs := ⟨S _ _ h.lst, h.tups.mono S⟩
structure KHand (K : Fg) (H : Hp) (t : Addr) (d : HD) (w g : Addr) (gs : List Addr) : Prop where
  tup : SqT K H t [.str d.name, .ref w, .ref g]
  words : SqT K H w (d.words.map V.str)
  grid : SqT K H g (gs.map V.ref)
  len : gs.length = d.worths.length
  row : ∀ (i : Nat) (r : Addr) (ns : List Int), gs[i]? = some r -> d.worths[i]? = some ns -> SqT K H r (ns.map V.int)
def KHands (K : Fg) (H : Hp) (hs : List Addr) (ds : List HD) : Prop := hs.length = ds.length /\ ∀ (i : Nat) (t : Addr) (d : HD), hs[i]? = some t -> ds[i]? = some d -> ∃ w g gs, KHand K H t d w g gs
structure KHouse (K : Fg) (H : Hp) (p o h : Addr) (hs : List Addr) (outs : List Str) (ds : List HD) : Prop where
  tup : SqT K H p [.ref o, .ref h]
  outs : SqT K H o (outs.map V.str)
  hands : SqT K H h (hs.map V.ref)
  hand : KHands K H hs ds
theorem KHand.mono {K : Fg} {H H' : Hp} {t : Addr} {d : HD} {w g : Addr} {gs : List Addr} (S : Same H H') (h : KHand K H t d w g gs) : KHand K H' t d w g gs :=
  ⟨S.seqT h.tup, S.seqT h.words, S.seqT h.grid, h.len, fun i r ns e1 e2 => S.seqT (h.row i r ns e1 e2)⟩
theorem KHands.mono {K : Fg} {H H' : Hp} {hs : List Addr} {ds : List HD} (S : Same H H') (h : KHands K H hs ds) : KHands K H' hs ds :=
  ⟨h.1, fun i t d e1 e2 => by
    obtain ⟨w, g, gs, q⟩ := h.2 i t d e1 e2
    exact ⟨w, g, gs, q.mono S⟩⟩
theorem KHouse.mono {K : Fg} {H H' : Hp} {p o h : Addr} {hs : List Addr} {outs : List Str} {ds : List HD} (S : Same H H') (q : KHouse K H p o h hs outs ds) : KHouse K H' p o h hs outs ds :=
  ⟨S.seqT q.tup, S.seqT q.outs, S.seqT q.hands, q.hand.mono S⟩
def wu (K : Fg) (j : Nat) : Sp := fun vs H Q _ => ∃ (t : Addr) (us : List V) (v : V), vs = [.ref t] /\ SqT K H t us /\ us[j]? = some v /\ Q v H
def zew (K : Fg) : Sp := fun vs H Q _ => ∃ (l wd : Addr) (as : List Addr) (rs : List (List Str)) (ws : List Str), vs = [.ref l, .ref wd] /\ RwsAt H l as rs /\ SqT K H wd (ws.map V.str) /\ rs.length <= 4096 /\ ws.length <= 8 /\ (∀ r ∈ rs, r.length <= 8) /\
  ∀ H' l' as', Same H H' -> H l' = none -> RwsAt H' l' as' (xq rs ws) -> Q (.ref l') H'
def PvEach (l wd p : Addr) (rs : List (List Str)) (ws : List Str) (H : Hp) (i : Nat) (σ : L2.St) (H' : Hp) : Prop := ∃ (as' : List Addr) (v : Option V), H' p = some (.lst (as'.map V.ref)) /\ TupsAt H' as' (xq (rs.take i) ws) /\ Same H H' /\ σ = [some (.ref l), some (.ref wd), some (.ref p), v]
def zd8 (r ws : List Str) (H : Hp) (i : Nat) (ys : List V) (H' : Hp) : Prop := ∃ as' : List Addr, ys = as'.map V.ref /\ TupsAt H' as' (x6 r (ws.take i)) /\ Same H H'
def bb (K : Fg) : Sp := fun vs H Q _ => ∃ (h : Addr) (hs : List Addr) (ds : List HD), vs = [.ref h] /\ SqT K H h (hs.map V.ref) /\ KHands K H hs ds /\ ds.length <= 4 /\ (∀ d ∈ ds, d.words.length <= 8) /\
  ∀ H' l as, Same H H' -> H l = none -> RwsAt H' l as (z0 (ds.map HD.words)) -> Q (.ref l) H'
def PvOver (h : Addr) (ds : List HD) (H : Hp) (i : Nat) (σ : L2.St) (H' : Hp) : Prop := ∃ (l : Addr) (as : List Addr) (v : Option V), H l = none /\ RwsAt H' l as (z0 ((ds.map HD.words).take i)) /\ Same H H' /\ σ = [some (.ref h), some (.ref l), v]
def a9 (K : Fg) : Sp := fun vs H Q _ => ∃ (p o h : Addr) (hs : List Addr) (outs : List Str) (ds : List HD), vs = [.ref p] /\ KHouse K H p o h hs outs ds /\ ds.length <= 4 /\ (∀ d ∈ ds, d.words.length <= 8) /\
  ∀ H' l as, Same H H' -> H l = none -> RwsAt H' l as (z0 (ds.map HD.words)) -> Q (.ref l) H'
def ka (K : Fg) : Sp := fun vs H Q _ => ∃ (p : Addr) (xs : List V) (k : Nat), vs = [.ref p, .int k] /\ SqT K H p xs /\ k < xs.length /\ xs.length <= 64 /\ ∀ H' p', Same H H' -> H' p' = some (.tup (xs.eraseIdx k)) -> Q (.ref p') H'
def ij (K : Fg) : Sp := fun vs H Q _ => ∃ (p o h : Addr) (hs : List Addr) (outs : List Str) (ds : List HD) (k : Nat), vs = [.ref p, .int k] /\ KHouse K H p o h hs outs ds /\ k < ds.length /\ ds.length <= 4 /\ (∀ d ∈ ds, d.words.length <= 8) /\
  ∀ H' l as, Same H H' -> H l = none -> RwsAt H' l as (z0 ((ds.eraseIdx k).map HD.words)) -> Q (.ref l) H'
theorem tz {wss : List (List Str)} (h4 : wss.length <= 4) (h8 : ∀ ws ∈ wss, ws.length <= 8) (n : Nat) (hn : n <= wss.length) : (z0 (wss.take n)).length <= 4096 := by
  have : ∀ m, m <= wss.length -> (z0 (wss.take m)).length <= 8 ^ m := by
    intro m
    induction m with
    | zero => intro _; exact Zm _
    | succ m ih =>
      intro h;have e : wss[m]? = some wss[m] := Zb (by omega);rw [wz e, rm, Nat.pow_succ];exact YV (ih (by omega)) (h8 _ (Zl (by omega)))
  exact Zd (this n hn) (Nat.pow_le_pow_right (by decide) (show n <= 4 by omega))
section
variable {P : Program} {w : World} {K : Fg} {mg : Str -> Option Value} {base : Heap}
theorem zb5 (D : zj K mg "hands_of" qm ["house"]) : FnAt P w K mg base "hands_of" 1 ["house"] (wu K 1) := by
  refine FnAt.of D zaz (fun vs H Q E h => ?_) (fun f cdv A outer s H vs Q E hr h => ?_)
  . obtain ⟨t, us, v, rfl, _⟩ := h
    rfl
  . obtain ⟨t, us, v, rfl, ht, e, q⟩ := h
    refine ⟨_, (@zi _ _ _ (@zt _ _ _ _ (@yi _ _ _ _ _ _ _ xf (pv 0) (@zc _ _ _ _) (fun _ _ => rfl)))), ?_⟩;rw [show start ["house"] [V.ref t] = [some (V.ref t)] from rfl];simp only [zm, zl, ↓reduceIte];exact ⟨_, ht, _, zx (j := 1) e, q⟩
theorem i7 (D : zj K mg "words_of_hand" wk ["hand"]) : FnAt P w K mg base "words_of_hand" 1 ["hand"] (wu K 1) := by
  refine FnAt.of D qv (fun vs H Q E h => ?_) (fun f cdv A outer s H vs Q E hr h => ?_)
  . obtain ⟨t, us, v, rfl, _⟩ := h
    rfl
  . obtain ⟨t, us, v, rfl, ht, e, q⟩ := h
    refine ⟨_, (@zi _ _ _ (@zt _ _ _ _ (@yi _ _ _ _ _ _ _ xf (pv 0) (@zc _ _ _ _) (fun _ _ => rfl)))), ?_⟩;rw [show start ["hand"] [V.ref t] = [some (V.ref t)] from rfl];simp only [zm, zl, ↓reduceIte];exact ⟨_, ht, _, zx (j := 1) e, q⟩
theorem na (B : Bt mg) (D : zj K mg "with_each" re ["rows", "words"]) : FnAt P w K mg base "with_each" 1 ["rows", "words"] (zew K) := by
  refine FnAt.of D sc_with_each (fun vs H Q E h => ?_) (fun f cdv A outer s H vs Q E hr h => ?_)
  . obtain ⟨l, wd, as, rs, ws, rfl, _⟩ := h
    rfl
  . obtain ⟨l, wd, as, rs, ws, rfl, hR, hW, b1, b2, b3, q⟩ := h
    refine ⟨_, (@zk _ _ _ _ _ (zz (i := 2) sc_with_each.nd rfl (Or.inl rfl) (@xg _ _ _ _ (@zb _))) (@zk _ _ _ _ _ (ul PassesOwn.never rfl (@yz _ _ _ _ (pv 0)) (ya (i := 3) sc_with_each.nd rfl (Or.inr rfl)) (@zi _ _ _ (je (zc4 PySem.F.plainAttrs_list PySem.F.slot_list_extend PySem.F.type_list_extend ze7 (pv 2) (za (yx ["word"] ["rows", "words", "longer", "row"] rfl (@zdn _ _ _ _ (pv 1)) (fun _ => (ya (i := 0) (show (["word", "rows", "words", "longer", "row"] : List Str).Nodup by decide +kernel) rfl (Or.inl rfl))) (fun _ => (@yy _)) (fun _ => (@zg _ _ _ _ _ _ _ _ ny (pv 4) (@xc _ _ _ _ _ (za (pv 0) (@zb _))))) rfl (by decide +kernel) rfl rfl) (@zb _)))))) (@zi _ _ _ (@zt _ _ _ _ (pv 2))))), ?_⟩;rw [show start ["rows", "words", "longer", "row"] [V.ref l, V.ref wd] = [some (V.ref l), some (V.ref wd), none, none] from rfl];simp only [zm, zl, ↓reduceIte];refine ⟨by decide, fun p hp => ?_⟩;have S1 : Same H (upd H p (.lst [])) := Same.upd (Same.refl _) hp;refine ⟨⟨_, .of (S1 _ _ hR.lst)⟩, ?_⟩;refine sd (xs := as.map V.ref) (PvEach l wd p rs ws H) ⟨[], _, zd, TupsAt.nil, S1, rfl⟩ ?_ ?_ ?_
    . rintro i σ H' hi ⟨as', v, h1, h2, S, rfl⟩
      exact .of (S _ _ hR.lst)
    . rintro i x σ H' hx ⟨as', v, h1, h2, S, rfl⟩
      obtain ⟨a, ha, rfl⟩ := yq hx;have hi : i < rs.length := by have := (Zc.mp ha).1; have := hR.tups.len; omega
      have er : rs[i]? = some rs[i] := Zb hi;have hrow := hR.tups.at' i a _ ha er;have hr8 := b3 _ (Zl hi);simp only [zm, zl, ↓reduceIte];refine ⟨.inl ⟨rfl, _, .of h1⟩, ⟨_, S.seqT hW⟩, fun d => ?_⟩;refine zf7 (xs := ws.map V.str) (zd8 rs[i] ws H') ⟨[], rfl, TupsAt.nil, Same.refl _⟩ ?_ ?_ ?_
      . rintro j ys H2 hj ⟨bs, rfl, t2, S2⟩
        refine ⟨?_, S2.seqT (S.seqT hW)⟩;rw [Za, t2.len, vy, Zj];exact Zd (ZB _ _) (Zd b2 (by decide))
      . rintro j y ys H2 hy ⟨bs, rfl, t2, S2⟩
        obtain ⟨z, hz, rfl⟩ := yq hy;simp only [zm, zl, ↓reduceIte];refine ⟨by decide, fun c hc => ?_⟩;have S3 : Same H2 (upd H2 c (.tup [V.str z])) := Same.upd (Same.refl _) hc;refine ⟨_, (S.trans (S2.trans S3)) _ _ hrow, _, zd, ?_, fun H4 e S4 he => ?_⟩
        . rw [Za]
          exact Zd (show _ <= 9 by simp; omega) (by decide)
        . refine ⟨bs ++ [e], by simp, ?_, S2.trans (S3.trans S4)⟩
          rw [Zq, hz]
          show TupsAt H4 (bs ++ [e]) (x6 _ (ws.take j ++ [z]))
          rw [x6, Zn];exact (t2.mono (S3.trans S4)).append (TupsAt.one (by rw [he]; simp))
      . rintro ys H2 ⟨bs, rfl, t2, S2⟩ l2 hl2
        rw [Za, Zt] at t2;have S3 : Same H2 (upd H2 l2 (.lst (bs.map V.ref))) := Same.upd (Same.refl _) hl2;have h3 : upd H2 l2 (.lst (bs.map V.ref)) l2 = some (.lst (bs.map V.ref)) := zd;generalize upd H2 l2 (.lst (bs.map V.ref)) = H3 at *;have hp3 := (S2.trans S3) _ _ h1;refine ⟨_, hp3, _, h3, ?_, ?_⟩
        . rw [Za, Za, h2.len, t2.len, vy, rm, Zj]
          have : min i rs.length * ws.length <= 4096 * 8 := YV (by omega) b2;exact Zd (show _ <= 4096 * 8 + 8 by omega) (by decide)
        . refine ⟨as' ++ bs, _, by rw [zd, Zn], ?_, Same.upd (S.trans (S2.trans S3)) hp, rfl⟩
          rw [Zq, er]
          show TupsAt _ _ (xq (rs.take i ++ [rs[i]]) ws)
          rw [i0];exact ((h2.mono (S2.trans S3)).append (t2.mono S3)).past hp3
    . rintro σ H' ⟨as', v, h1, h2, S, rfl⟩
      simp only [zm, zl, ↓reduceIte];rw [Za, hR.tups.len, Zt] at h2;exact q H' p as' S hp ⟨h1, h2⟩
theorem vt (B : Bt mg) (na : FnAt P w K mg base "with_each" 1 ["rows", "words"] (zew K)) (yk : FnAt P w K mg base "words_of_hand" 1 ["hand"] (wu K 1)) (D : zj K mg "rows_over" so ["hands"]) : FnAt P w K mg base "rows_over" 2 ["hands"] (bb K) := by
  refine FnAt.of D sc_rows_over (fun vs H Q E h => ?_) (fun f cdv A outer s H vs Q E hr h => ?_)
  . obtain ⟨b, hs, ds, rfl, _⟩ := h
    rfl
  . obtain ⟨b, hs, ds, rfl, hH, hK, h4, h8, q⟩ := h
    refine ⟨_, (@zk _ _ _ _ _ (@zz _ _ 1 _ _ _ _ sc_rows_over.nd rfl (Or.inl rfl) (@xg _ _ _ _ (@za _ _ _ _ _ (@xc _ _ _ _ _ (@zb _)) (@zb _) (zw nofun))) rfl (Or.inl rfl)) (@zk _ _ _ _ _ (ul PassesOwn.never rfl (@zdn _ _ _ _ (pv 0)) (ya (i := 2) sc_rows_over.nd rfl (Or.inl rfl)) (@zi _ _ _ (zz (i := 1) sc_rows_over.nd rfl (Or.inl rfl) (zp na (hr.mono (by decide)) rfl (za (pv 1) (za (zp yk (hr.mono (by decide)) rfl (za (pv 2) (@zb _))) (@zb _))))))) (@zi _ _ _ (@zt _ _ _ _ (pv 1))))), ?_⟩;rw [show start ["hands", "rows", "hand"] [V.ref b] = [some (V.ref b), none, none] from rfl];simp only [zm, zl, ↓reduceIte];refine ⟨by decide, fun c hc => ⟨by decide, fun p hp => ?_⟩⟩;have S1 : Same H (upd H c (.tup [])) := Same.upd (Same.refl _) hc;have h1 : upd H c (.tup []) c = some (.tup []) := zd;generalize upd H c (.tup []) = H1 at *;have S2 : Same H1 (upd H1 p (.lst [V.ref c])) := Same.upd (Same.refl _) hp;have h2 : upd H1 p (.lst [V.ref c]) p = some (.lst [V.ref c]) := zd;generalize upd H1 p (.lst [V.ref c]) = H2 at *;have S := S1.trans S2;refine ⟨⟨_, S.seqT hH⟩, ?_⟩;refine zg0 (xs := hs.map V.ref) (PvOver b ds H) ⟨p, [c], _, S1.free hp, ⟨h2, TupsAt.one (S2 _ _ h1)⟩, S, rfl⟩ ?_ ?_ ?_
    . rintro i σ H' hi ⟨l, as, v, hl, hR, S', rfl⟩
      exact S'.seqT hH
    . rintro i x σ H' hx ⟨l, as, v, hl, hR, S', rfl⟩
      obtain ⟨t, ht, rfl⟩ := yq hx;have hi : i < ds.length := by have := (Zc.mp ht).1; have := hK.1; omega
      have ed : ds[i]? = some ds[i] := Zb hi;obtain ⟨wd, g, gs, hd⟩ := (hK.mono S').2 i t _ ht ed;simp only [zm, zl, ↓reduceIte];refine ⟨t, _, _, rfl, hd.tup, rfl, ?_⟩;have ew : (ds.map HD.words)[i]? = some ds[i].words := by rw [Ze, ed]; rfl
      have hb : ∀ r ∈ z0 ((ds.map HD.words).take i), r.length <= 8 := fun r hr => by
        have := js (ds.map HD.words) i (by rw [Za]; omega) r hr;omega
      refine ⟨l, wd, as, _, ds[i].words, rfl, hR, hd.words, tz (by rw [Za]; exact h4) (fun ws hws => ?_) i (by rw [Za]; omega), h8 _ (Zl hi), hb, fun H3 l3 as3 S3 hl3 R3 => ?_⟩
      . obtain ⟨d, hd, rfl⟩ := Zp.mp hws
        exact h8 d hd
      . simp only [zm, zl, ↓reduceIte]
        refine ⟨l3, as3, _, S'.free hl3, ?_, S'.trans S3, rfl⟩;rw [wz ew];exact R3
    . rintro σ H' ⟨l, as, v, hl, hR, S', rfl⟩
      simp only [zm, zl, ↓reduceIte];rw [Za, hK.1, ZG (by rw [Za]; omega)] at hR;exact q H' l as S' hl hR
theorem ow (B : Bt mg) (vt : FnAt P w K mg base "rows_over" 2 ["hands"] (bb K)) (f_hands_of : FnAt P w K mg base "hands_of" 1 ["house"] (wu K 1)) (D : zj K mg "rows_of" oz ["house"]) : FnAt P w K mg base "rows_of" 3 ["house"] (a9 K) := by
  refine FnAt.of D zcb (fun vs H Q E h => ?_) (fun f cdv A outer s H vs Q E hr h => ?_)
  . obtain ⟨p, o, a, hs, outs, ds, rfl, _⟩ := h
    rfl
  . obtain ⟨p, o, a, hs, outs, ds, rfl, hH, h4, h8, q⟩ := h
    refine ⟨_, (@zi _ _ _ (@zt _ _ _ _ (zp vt (hr.mono (by decide)) rfl (za (zp f_hands_of (hr.mono (by decide)) rfl (za (pv 0) (@zb _))) (@zb _))))), ?_⟩;rw [show start ["house"] [V.ref p] = [some (V.ref p)] from rfl];simp only [zm, zl, ↓reduceIte];exact ⟨p, _, _, rfl, hH.tup, rfl, a, hs, ds, rfl, hH.hands, hH.hand, h4, h8, q⟩
theorem uk (B : Bt mg) (D : zj K mg "without" o0 ["things", "k"]) : FnAt P w K mg base "without" 1 ["things", "k"] (ka K) := by
  refine FnAt.of D zcs (fun vs H Q E h => ?_) (fun f cdv A outer s H vs Q E hr h => ?_)
  . obtain ⟨p, xs, k, rfl, _⟩ := h
    rfl
  . obtain ⟨p, xs, k, rfl, hp, hk, h64, q⟩ := h
    refine ⟨_, (@zi _ _ _ (@zt _ _ _ _ (@zg _ _ _ _ _ _ _ _ ny (@sg _ _ _ _ _ _ _ _ _ _ zfe (pv 0) (@qr _) (@tw _ _ _ (pv 1))) (@sg _ _ _ _ _ _ _ _ _ _ zfe (pv 0) (@tw _ _ _ (@zg _ _ _ _ _ _ _ _ y4 (pv 1) (@zc _ _ _ _))) (@qr _))))), ?_⟩;rw [show start ["things", "k"] [V.ref p, V.int k] = [some (V.ref p), some (V.int k)] from rfl];simp only [zm, zl, ↓reduceIte];refine ⟨_, hp, ?_, fun c hc => ?_⟩
    . rw [HT.sIx_nat]
      omega
    . rw [fj (YQ hk)]
      have S1 : Same H (upd H c (.tup (xs.take k))) := Same.upd (Same.refl _) hc;have h1 : upd H c (.tup (xs.take k)) c = some (.tup (xs.take k)) := zd;generalize upd H c (.tup (xs.take k)) = H1 at *;refine ⟨_, S1.seqT hp, ?_, fun e he => ?_⟩
      . rw [show (k : Int) + 1 = ((k + 1 : Nat) : Int) by omega, HT.sIx_nat]
        omega
      . rw [show (k : Int) + 1 = ((k + 1 : Nat) : Int) by omega, lm hk]
        have S2 : Same H1 (upd H1 e (.tup (xs.drop (k + 1)))) := Same.upd (Same.refl _) he;refine ⟨_, S2 _ _ h1, _, zd, ?_, fun H3 r S3 hr => ?_⟩
        . rw [Zj, ZT]
          exact Zd (show _ <= 64 by omega) (by decide)
        . refine q H3 r (S1.trans (S2.trans S3)) ?_
          rw [hr, ZY]
theorem o6 (B : Bt mg) (vt : FnAt P w K mg base "rows_over" 2 ["hands"] (bb K)) (f_hands_of : FnAt P w K mg base "hands_of" 1 ["house"] (wu K 1)) (uk : FnAt P w K mg base "without" 1 ["things", "k"] (ka K)) (D : zj K mg "others_of" rb ["house", "k"]) : FnAt P w K mg base "others_of" 3 ["house", "k"] (ij K) := by
  refine FnAt.of D bt (fun vs H Q E h => ?_) (fun f cdv A outer s H vs Q E hr h => ?_)
  . obtain ⟨p, o, a, hs, outs, ds, k, rfl, _⟩ := h
    rfl
  . obtain ⟨p, o, a, hs, outs, ds, k, rfl, hH, hk, h4, h8, q⟩ := h
    refine ⟨_, (@zi _ _ _ (@zt _ _ _ _ (zp vt (hr.mono (by decide)) rfl (za (zp uk (hr.mono (by decide)) rfl (za (zp f_hands_of (hr.mono (by decide)) rfl (za (pv 0) (@zb _))) (za (pv 1) (@zb _)))) (@zb _))))), ?_⟩;rw [show start ["house", "k"] [V.ref p, V.int k] = [some (V.ref p), some (V.int k)] from rfl];simp only [zm, zl, ↓reduceIte];have hl := hH.hand.1;refine ⟨p, _, _, rfl, hH.tup, rfl, a, _, k, rfl, hH.hands, by rw [Za]; omega, by rw [Za]; omega, fun H1 b S1 hb => ?_⟩
    have e : (hs.map V.ref).eraseIdx k = (hs.eraseIdx k).map V.ref := by
      rw [ZY, ZY, Zn, List.map_take, List.map_drop]
    rw [e] at hb;refine ⟨b, hs.eraseIdx k, ds.eraseIdx k, rfl, .of hb, ⟨?_, fun i t d e1 e2 => ?_⟩, ?_, fun d hd => h8 d (ZN hd), fun H2 l as S2 hl R2 => q H2 l as (S1.trans S2) (S1.free hl) R2⟩
    . rw [List.length_eraseIdx, List.length_eraseIdx, hl]
    . rw [Yd] at e1 e2
      by_cases hik : i < k
      . rw [if_pos hik] at e1 e2
        exact (hH.hand.mono S1).2 i t d e1 e2
      . rw [if_neg hik] at e1 e2
        exact (hH.hand.mono S1).2 (i + 1) t d e1 e2
    . exact Zd (List.length_eraseIdx_le _ _) h4
end
structure HHand (H : Hp) (t : Addr) (d : HD) (w g : Addr) (gs : List Addr) : Prop where
  tup : H t = some (.tup [.str d.name, .ref w, .ref g])
  words : H w = some (.tup (d.words.map V.str))
  grid : H g = some (.tup (gs.map V.ref))
  len : gs.length = d.worths.length
  row : ∀ (i : Nat) (r : Addr) (ns : List Int), gs[i]? = some r -> d.worths[i]? = some ns -> H r = some (.tup (ns.map V.int))
theorem HHand.mono {H H' : Hp} {t : Addr} {d : HD} {w g : Addr} {gs : List Addr} (S : Same H H') (h : HHand H t d w g gs) : HHand H' t d w g gs :=
  ⟨S _ _ h.tup, S _ _ h.words, S _ _ h.grid, h.len, fun i r ns e1 e2 => S _ _ (h.row i r ns e1 e2)⟩
theorem HHand.k {K : Fg} {H : Hp} {t : Addr} {d : HD} {w g : Addr} {gs : List Addr} (h : HHand H t d w g gs) : KHand K H t d w g gs :=
  ⟨.of h.tup, .of h.words, .of h.grid, h.len, fun i r ns e1 e2 => .of (h.row i r ns e1 e2)⟩
def HHands (H : Hp) (hs : List Addr) (ds : List HD) : Prop := hs.length = ds.length /\ ∀ (i : Nat) (t : Addr) (d : HD), hs[i]? = some t -> ds[i]? = some d -> ∃ w g gs, HHand H t d w g gs
theorem HHands.mono {H H' : Hp} {hs : List Addr} {ds : List HD} (S : Same H H') (h : HHands H hs ds) : HHands H' hs ds :=
  ⟨h.1, fun i t d e1 e2 => by
    obtain ⟨w, g, gs, q⟩ := h.2 i t d e1 e2
    exact ⟨w, g, gs, q.mono S⟩⟩
theorem HHands.snoc {H : Hp} {hs : List Addr} {ds : List HD} {t : Addr} {d : HD} {w g : Addr} {gs : List Addr} (h : HHands H hs ds) (q : HHand H t d w g gs) : HHands H (hs ++ [t]) (ds ++ [d]) := by
  refine ⟨by simp [h.1], fun i a e e1 e2 => ?_⟩
  by_cases hi : i < hs.length
  . rw [Zg hi] at e1
    rw [Zg (by rw [<- h.1]; exact hi)] at e2;exact h.2 i a e e1 e2
  . rw [Zf (ZD.mp hi)] at e1
    rw [Zf (by rw [<- h.1]; exact ZD.mp hi)] at e2
    have h0 : i - hs.length = 0 := by
      have := (Zc.mp e1).1;simp at this;omega
    rw [h0] at e1;rw [<- h.1, h0] at e2;simp at e1 e2;subst e1 e2;exact ⟨w, g, gs, q⟩
structure HHouse (H : Hp) (p o h : Addr) (hs : List Addr) (outs : List Str) (ds : List HD) : Prop where
  tup : H p = some (.tup [.ref o, .ref h])
  outs : H o = some (.tup (outs.map V.str))
  hands : H h = some (.tup (hs.map V.ref))
  hand : HHands H hs ds
theorem HHouse.mono {H H' : Hp} {p o h : Addr} {hs : List Addr} {outs : List Str} {ds : List HD} (S : Same H H') (q : HHouse H p o h hs outs ds) : HHouse H' p o h hs outs ds :=
  ⟨S _ _ q.tup, S _ _ q.outs, S _ _ q.hands, q.hand.mono S⟩
theorem HHouse.k {K : Fg} {H : Hp} {p o h : Addr} {hs : List Addr} {outs : List Str} {ds : List HD} (q : HHouse H p o h hs outs ds) : KHouse K H p o h hs outs ds :=
  ⟨.of q.tup, .of q.outs, .of q.hands, q.hand.1, fun i t d e1 e2 => by
    obtain ⟨w, g, gs, z⟩ := q.hand.2 i t d e1 e2
    exact ⟨w, g, gs, z.k⟩⟩
structure IntTs (H : Hp) (ls : List Addr) (ps : List (List Int)) : Prop where
  len : ls.length = ps.length
  at' : ∀ (i : Nat) (l : Addr) (p : List Int), ls[i]? = some l -> ps[i]? = some p -> H l = some (.tup (p.map V.int))
theorem IntTs.mono {H H' : Hp} {ls : List Addr} {ps : List (List Int)} (S : Same H H') (h : IntTs H ls ps) : IntTs H' ls ps := ⟨h.len, fun i l p e1 e2 => S _ _ (h.at' i l p e1 e2)⟩
theorem IntTs.snoc {H : Hp} {ls : List Addr} {ps : List (List Int)} {l : Addr} {p : List Int} (h : IntTs H ls ps) (hl : H l = some (.tup (p.map V.int))) : IntTs H (ls ++ [l]) (ps ++ [p]) := by
  refine ⟨by simp [h.len], fun i a q e1 e2 => ?_⟩
  by_cases hi : i < ls.length
  . rw [Zg hi] at e1
    rw [Zg (by rw [<- h.len]; exact hi)] at e2;exact h.at' i a q e1 e2
  . rw [Zf (ZD.mp hi)] at e1
    rw [Zf (by rw [<- h.len]; exact ZD.mp hi)] at e2
    have h0 : i - ls.length = 0 := by
      have := (Zc.mp e1).1;simp at this;omega
    rw [h0] at e1;rw [<- h.len, h0] at e2;simp at e1 e2;subst e1 e2;exact hl
def zdi : Sp := fun vs H Q _ => ∃ (x : HX) (d : HD), vs = [.ref x.t] /\ HandAt H x d /\ d.worths.length <= 8 /\ ∀ H' t w g gs, Same H H' -> HHand H' t d w g gs -> Q (.ref t) H'
def ar : Sp := fun vs H Q _ => ∃ (o b : Addr) (outs : List Str) (xs : List HX) (ds : List HD), vs = [.ref o, .ref b] /\ H o = some (.lst (outs.map V.str)) /\ HandsL H b xs ds /\ GoodHouse outs ds /\ ∀ H' p o' h hs, Same H H' -> HHouse H' p o' h hs outs ds -> Q (.ref p) H'
def PvEH (rows : List (List Int)) (H1 : Hp) (i : Nat) (ys : List V) (H' : Hp) : Prop := Same H1 H' /\ ∃ gs : List Addr, ys = gs.map V.ref /\ IntTs H' gs (rows.take i)
def PvDH (ds : List HD) (H1 : Hp) (i : Nat) (ys : List V) (H' : Hp) : Prop := Same H1 H' /\ ∃ hs : List Addr, ys = hs.map V.ref /\ HHands H' hs (ds.take i)
section
variable {P : Program} {w : World} {K : Fg} {mg : Str -> Option Value} {base : Heap} {a : Ad}
theorem zao (B : Bt mg) (vj : FnAt P w K mg base "name_of" 1 ["hand"] (uy fun _ d => .str d.name)) (yk : FnAt P w K mg base "words_of_hand" 1 ["hand"] (uy fun x _ => .ref x.w)) (y7 : FnAt P w K mg base "worths_of_hand" 1 ["hand"] (uy fun x _ => .ref x.g))
    (D : zj K mg "kept_hand" vx ["hand"]) : FnAt P w K mg base "kept_hand" 2 ["hand"] zdi := by
  refine FnAt.of D sc_kept_hand (fun vs H Q E h => ?_) (fun f cdv A outer s H vs Q E hr h => ?_)
  . obtain ⟨x, d, rfl, _⟩ := h
    rfl
  . obtain ⟨x, d, rfl, hx, h8, q⟩ := h
    refine ⟨_, (@zk _ _ _ _ _ (zz (i := 1) sc_kept_hand.nd rfl (Or.inl rfl) (yu xz rfl B.tuple x8 (za (yx ["row"] ["hand", "worths"] rfl (@yz _ _ _ _ (zp y7 (hr.mono (by decide)) rfl (za (pv 0) (@zb _)))) (fun _ => (ya (i := 0) (show (["row", "hand", "worths"] : List Str).Nodup by decide +kernel) rfl (Or.inl rfl))) (fun _ => (@yy _)) (fun _ => (yu xz rfl B.tuple x8 (za (pv 0) (@zb _)))) rfl (by decide +kernel) rfl rfl) (@zb _)))) (@zi _ _ _ (@zt _ _ _ _ (@xc _ _ _ _ _ (za (zp vj (hr.mono (by decide)) rfl (za (pv 0) (@zb _))) (za (yu xz rfl B.tuple x8 (za (zp yk (hr.mono (by decide)) rfl (za (pv 0) (@zb _))) (@zb _))) (za (pv 1) (@zb _)))))))), ?_⟩;rw [show start ["hand", "worths"] [V.ref x.t] = [some (V.ref x.t), none] from rfl];simp only [zm, zl, ↓reduceIte];refine ⟨x, d, rfl, hx, ?_⟩;simp only [zm, zl, ↓reduceIte];refine ⟨⟨_, .of hx.grid⟩, fun dd => ?_⟩;refine xm (xs := x.gs.map V.ref) (PvEH d.worths H) ⟨Same.refl _, [], rfl, rfl, fun i l p e => by simp at e⟩ ?_ ?_ ?_
    . rintro i ys H2 hi ⟨S, gs, rfl, ty⟩
      rw [Za, hx.len] at hi;have ly : gs.length = i := by rw [ty.len, Zj]; omega
      exact ⟨by rw [Za, ly]; exact Zd hi (Zd h8 (by decide)), S.seq (.of hx.grid)⟩
    . rintro i y ys H2 hy ⟨S, gs, rfl, ty⟩
      obtain ⟨r, hr', rfl⟩ := yq hy;have hi : i < d.worths.length := by have := (Zc.mp hr').1; have := hx.len; omega
      have e2 : d.worths[i]? = some d.worths[i] := by simp [hi]
      simp only [zm, zl, ↓reduceIte];refine ⟨_, S.seq (.of (hx.row i r _ hr' e2)), fun l hl => ?_⟩;have S3 : Same H2 (upd H2 l (.tup ((d.worths[i]).map V.int))) := Same.upd (Same.refl _) hl;refine ⟨S.trans S3, gs ++ [l], by simp, ?_⟩;rw [Zq, e2];exact (ty.mono S3).snoc zd
    . rintro ys H2 ⟨S, gs, rfl, ty⟩ l hl
      rw [Za, hx.len, Zt] at ty;have S3 : Same H2 (upd H2 l (.lst (gs.map V.ref))) := Same.upd (Same.refl _) hl;refine ⟨_, .of zd, fun l1 hl1 => ?_⟩;generalize upd H2 l (.lst (gs.map V.ref)) = H3 at *;have S4 : Same H3 (upd H3 l1 (.tup (gs.map V.ref))) := Same.upd (Same.refl _) hl1;have h4 : upd H3 l1 (.tup (gs.map V.ref)) l1 = some (.tup (gs.map V.ref)) := zd;generalize upd H3 l1 (.tup (gs.map V.ref)) = H4 at *;have S24 := S.trans (S3.trans S4);refine ⟨x, d, rfl, hx.mono S24, x, d, rfl, hx.mono S24, x.w, rfl, _, .of (hx.mono S24).words, fun l2 hl2 => ⟨by decide, fun p hp => ?_⟩⟩;have S5 : Same H4 (upd H4 l2 (.tup (d.words.map V.str))) := Same.upd (Same.refl _) hl2;have h5 : upd H4 l2 (.tup (d.words.map V.str)) l2 = some (.tup (d.words.map V.str)) := zd;generalize upd H4 l2 (.tup (d.words.map V.str)) = H5 at *;have S6 : Same H5 (upd H5 p (.tup [V.str d.name, V.ref l2, V.ref l1])) := Same.upd (Same.refl _) hp;exact q _ p l2 l1 gs (S24.trans (S5.trans S6)) ⟨zd, S6 _ _ h5, (S5.trans S6) _ _ h4, ty.len, fun i r ns e1 e2 => (S3.trans (S4.trans (S5.trans S6))) _ _ (ty.at' i r ns e1 e2)⟩
theorem zc7 (B : Bt mg) (C : Ct K mg a) (vc : FnAt P w K mg base "makes_house" 6 ["outcomes", "hands"] ay) (sw : FnAt P w K mg base "kept_hand" 2 ["hand"] zdi) (D : zj K mg "house_of" u8 ["outcomes", "hands"]) : FnAtX P w K mg base "house_of" 7 ["outcomes", "hands"] ar := by
  refine FnAtX.of D jr (fun vs H Q E h => ?_) (fun f cdv A outer s H vs Q E hr h => ?_)
  . obtain ⟨o, b, outs, xs, ds, rfl, _⟩ := h
    rfl
  . obtain ⟨o, b, outs, xs, ds, rfl, ho, hh, g, q⟩ := h
    refine ⟨_, (@zk _ _ _ _ _ (@yl _ _ _ _ _ _ _ _ (@xv _ _ _ _ (wf (zp vc (hr.mono (by decide)) rfl (za (pv 0) (za (pv 1) (@zb _)))))) (@zi _ _ _ (my rfl C.q_NoHouse.toErr rfl C.m_NoHouse (sk rfl) (za (@wm _ _ _ _) (@zb _)))) (@yc _)) (@zi _ _ _ (PS.nox (@zt _ _ _ _ (@xc _ _ _ _ _ (za (yu xz rfl B.tuple x8 (za (pv 0) (@zb _))) (za (yu xz rfl B.tuple x8 (za (yx ["hand"] ["outcomes", "hands"] rfl (@yz _ _ _ _ (pv 1)) (fun _ => (ya (i := 0) (show (["hand", "outcomes", "hands"] : List Str).Nodup by decide +kernel) rfl (Or.inl rfl))) (fun _ => (@yy _)) (fun _ => (zp sw (hr.mono (by decide)) rfl (za (pv 0) (@zb _)))) rfl (by decide +kernel) rfl rfl) (@zb _))) (@zb _)))))))), ?_⟩;rw [show start ["outcomes", "hands"] [V.ref o, V.ref b] = [some (V.ref o), some (V.ref b)] from rfl];simp only [zm, zl, ↓reduceIte];have g2 := g.hands;refine ⟨o, b, outs, xs, ds, rfl, ho, hh, g, fun H1 S1 => ?_⟩;simp only [zm, zl, ↓reduceIte];have hh1 := hh.mono S1;have ho1 := S1 _ _ ho;refine iteF ⟨_, .of ho1, fun l hl => ?_⟩;have S2 : Same H1 (upd H1 l (.tup (outs.map V.str))) := Same.upd (Same.refl _) hl;have h2 : upd H1 l (.tup (outs.map V.str)) l = some (.tup (outs.map V.str)) := zd;generalize upd H1 l (.tup (outs.map V.str)) = H2 at *;have hh2 := hh1.mono S2;refine ⟨⟨_, .of hh2.at'⟩, fun d => ?_⟩;refine xm (xs := xs.map fun x => V.ref x.t) (PvDH ds H2) ⟨Same.refl _, [], rfl, rfl, fun i t d e => by simp at e⟩ ?_ ?_ ?_
    . rintro i ys H3 hi ⟨S, hs, rfl, ty⟩
      rw [Za, hh.len] at hi;have ly : hs.length = i := by rw [ty.1, Zj]; omega
      exact ⟨by rw [Za, ly]; exact Zd hi (Zd g2.2 (by decide)), S.seq (.of hh2.at')⟩
    . rintro i y ys H3 hy ⟨S, hs, rfl, ty⟩
      obtain ⟨x, hx, rfl⟩ := yq hy;have hi : i < ds.length := by have := (Zc.mp hx).1; have := hh.len; omega
      have e2 : ds[i]? = some ds[i] := by simp [hi]
      have hm := Zl hi;have r8 : (ds[i]).worths.length <= 8 := by rw [g.rows _ hm]; exact (g.words1 _ hm).2
      simp only [zm, zl, ↓reduceIte];refine ⟨x, ds[i], rfl, (hh2.hand i x ds[i] hx e2).mono S, r8, fun H4 p wd g' gs S4 tp => ?_⟩;refine ⟨S.trans S4, hs ++ [p], by simp, ?_⟩;rw [Zq, e2];exact (ty.mono S4).snoc tp
    . rintro ys H3 ⟨S, hs, rfl, ty⟩ l1 hl1
      rw [Za, hh.len, Zt] at ty;have S4 : Same H3 (upd H3 l1 (.lst (hs.map V.ref))) := Same.upd (Same.refl _) hl1;refine ⟨_, .of zd, fun l2 hl2 => ⟨by decide, fun p hp => ?_⟩⟩;generalize upd H3 l1 (.lst (hs.map V.ref)) = H4 at *;have S5 : Same H4 (upd H4 l2 (.tup (hs.map V.ref))) := Same.upd (Same.refl _) hl2;have h5 : upd H4 l2 (.tup (hs.map V.ref)) l2 = some (.tup (hs.map V.ref)) := zd;generalize upd H4 l2 (.tup (hs.map V.ref)) = H5 at *;have S6 : Same H5 (upd H5 p (.tup [V.ref l, V.ref l2])) := Same.upd (Same.refl _) hp;have S36 := S4.trans (S5.trans S6);exact q _ p l l2 hs (S1.trans (S2.trans (S.trans S36))) ⟨zd, (S.trans S36) _ _ h2, S6 _ _ h5, ty.mono S36⟩
end
section
variable {α : Type}
def Picks (r : List α) (wss : List (List α)) : Prop := r.length = wss.length /\ ∀ (j : Nat) (ws : List α), wss[j]? = some ws -> ∃ w, r[j]? = some w /\ w ∈ ws
theorem zf3 {rs : List (List α)} {ws : List α} {r : List α} {w : α} (h1 : r ∈ rs) (h2 : w ∈ ws) : r ++ [w] ∈ xq rs ws := by
  simp only [xq, x6, YN, Zp];exact ⟨_, ⟨r, h1, rfl⟩, Zp.mpr ⟨w, h2, rfl⟩⟩
theorem zfi (wss : List (List α)) : ∀ n, n <= wss.length -> ∀ r, r ∈ z0 (wss.take n) ↔ Picks r (wss.take n) := by
  intro n
  induction n with
  | zero =>
    intro _ r;simp only [List.take_zero, z0, List.foldl_nil, ZC]
    constructor
    . rintro rfl; exact ⟨rfl, fun j ws e => by simp at e⟩
    . intro h; exact Yo.mp h.1
  | succ n ih =>
    intro hn r;have e : wss[n]? = some wss[n] := Zb (by omega);have et : wss.take (n + 1) = wss.take n ++ [wss[n]] := by rw [Zq, e]; rfl
    have ln : (wss.take n).length = n := by rw [Zj]; omega
    rw [wz e]
    constructor
    . intro h
      obtain ⟨q, w, h1, h2, rfl⟩ := ki h;obtain ⟨p1, p2⟩ := (ih (by omega) q).mp h1;rw [ln] at p1;refine ⟨by rw [et, Zo, Zo, p1, ln]; rfl, fun j ws ej => ?_⟩;rw [et] at ej
      by_cases hj : j < n
      . rw [Zg (by omega)] at ej
        obtain ⟨w', a1, a2⟩ := p2 j ws ej;exact ⟨w', by rw [Zg (by omega)]; exact a1, a2⟩
      . rw [Zf (by omega), ln] at ej
        have hj0 : j - n = 0 := by
          have := (Zc.mp ej).1;simp at this;omega
        rw [hj0] at ej;simp at ej;subst ej;exact ⟨w, by rw [Zf (by omega), p1, hj0]; rfl, h2⟩
    . rintro ⟨p1, p2⟩
      rw [et] at p1 p2;have lr : r.length = n + 1 := by rw [p1, Zo, ln]; rfl
      obtain ⟨w, a1, a2⟩ := p2 n wss[n] (by rw [Zf (by omega), ln]; simp)
      have er : r = r.take n ++ [w] := by
        have : r.take (n + 1) = r := ZG (by omega);rw [Zq, a1] at this;exact this.symm
      rw [er];refine zf3 ((ih (by omega) _).mpr ⟨by rw [Zj, ln]; omega, fun j ws ej => ?_⟩) a2;have hj : j < n := by have := (Zc.mp ej).1; omega
      obtain ⟨w', b1, b2⟩ := p2 j ws (by rw [Zg (by omega)]; exact ej);exact ⟨w', by rw [List.getElem?_take, if_pos hj]; exact b1, b2⟩
theorem rowsP_iff {wss : List (List α)} {r : List α} : r ∈ z0 wss ↔ Picks r wss := by
  have := zfi wss wss.length (Zm _) r
  rwa [Zt] at this
theorem zaw {rs : List (List α)} {ws : List α} (h1 : rs.Nodup) (h2 : ws.Nodup) : (xq rs ws).Nodup := by
  induction rs with
  | nil => exact YB
  | cons r rs ih =>
    rw [g0];obtain ⟨n1, n2⟩ := ZO.mp h1;refine YI.mpr ⟨?_, ih n2, fun x hx y hy e => ?_⟩
    . rw [x6]
      refine Yg.mpr (List.Pairwise.imp (fun {a b} hab e => hab ?_) h2)
      simpa using e
    . obtain ⟨w, _, rfl⟩ := Zp.mp hx
      obtain ⟨q, w', hq, _, e2⟩ := ki hy;rw [e2] at e;have := (List.append_inj' e rfl).1;exact n1 (this ▸ hq)
theorem nj {wss : List (List α)} (h : ∀ ws ∈ wss, ws.Nodup) : (z0 wss).Nodup := by
  have : ∀ n, n <= wss.length -> (z0 (wss.take n)).Nodup := by
    intro n
    induction n with
    | zero => intro _; simp [z0]
    | succ n ih =>
      intro hn;have e : wss[n]? = some wss[n] := Zb (by omega);rw [wz e];exact zaw (ih (by omega)) (h _ (Zl _))
  have := this wss.length (Zm _)
  rwa [Zt] at this
end
def ug (d : HD) (z : Str) : List Int := d.worths.getD (d.words.idxOf z) []
theorem aj : ∀ {zs : List Str} {m : Nat} {z : Str}, zs[m]? = some z -> zs.idxOf z <= m
  | [], m, z, h => by simp at h
  | y :: zs, 0, z, h => by
    simp at h;subst h;simp
  | y :: zs, m + 1, z, h => by
    rw [List.idxOf_cons]
    cases y == z with
    | true => exact ZE _
    | false => exact Xe (aj (by simpa using h))
theorem zbo (y z : Str) : eqV (V.str y) (V.str z) = decide (y = z) := rfl
theorem zdt {zs : List Str} {z : Str} (h : z ∈ zs) : FirstAt (zs.map V.str) (V.str z) (zs.idxOf z) := by
  have hl := Zz.mpr h;refine ⟨rfl, ?_, ⟨V.str z, ?_, ?_⟩, fun m y hm e => ?_⟩
  . rw [ZS]
    intro x hx;obtain ⟨y, _, rfl⟩ := Zp.mp hx;rfl
  . rw [Ze, Zb hl, List.getElem_idxOf]
    rfl
  . rw [zbo]
    exact decide_eq_true rfl
  . rw [Ze] at e
    have hml : m < zs.length := by omega
    rw [Zb hml] at e;cases e;rw [zbo, decide_eq_false];intro ez;have := Zz.mpr h
    have hle : zs.idxOf z <= m := by
      exact aj (by rw [Zb hml, ez])
    omega
def RowOf (ds : List HD) (r : List Str) : Prop := r.length = ds.length /\ ∀ (i : Nat) (d : HD) (z : Str), ds[i]? = some d -> r[i]? = some z -> z ∈ d.words
def gj (K : Fg) : Sp := fun vs H Q _ => ∃ (t : Addr) (d : HD) (w g : Addr) (gs : List Addr) (z : Str), vs = [.ref t, .str z] /\ HHand H t d w g gs /\ z ∈ d.words /\ d.worths.length = d.words.length /\ ∀ r, H r = some (.tup ((ug d z).map V.int)) -> Q (.ref r) H
structure IntsAt (H : Hp) (ls : List Addr) (ps : List (List Int)) : Prop where
  len : ls.length = ps.length
  at' : ∀ (i : Nat) (l : Addr) (p : List Int), ls[i]? = some l -> ps[i]? = some p -> H l = some (.lst (p.map V.int))
theorem IntsAt.mono {H H' : Hp} {ls : List Addr} {ps : List (List Int)} (S : Same H H') (h : IntsAt H ls ps) : IntsAt H' ls ps := ⟨h.len, fun i l p e1 e2 => S _ _ (h.at' i l p e1 e2)⟩
theorem IntsAt.snoc {H : Hp} {ls : List Addr} {ps : List (List Int)} {l : Addr} {p : List Int} (h : IntsAt H ls ps) (hl : H l = some (.lst (p.map V.int))) : IntsAt H (ls ++ [l]) (ps ++ [p]) := by
  refine ⟨by simp [h.len], fun i a q e1 e2 => ?_⟩
  by_cases hi : i < ls.length
  . rw [Zg hi] at e1
    rw [Zg (by rw [<- h.len]; exact hi)] at e2;exact h.at' i a q e1 e2
  . rw [Zf (ZD.mp hi)] at e1
    rw [Zf (by rw [<- h.len]; exact ZD.mp hi)] at e2
    have h0 : i - ls.length = 0 := by
      have := (Zc.mp e1).1;simp at this;omega
    rw [h0] at e1;rw [<- h.len, h0] at e2;simp at e1 e2;subst e1 e2;exact hl
section
variable {P : Program} {w : World} {K : Fg} {mg : Str -> Option Value} {base : Heap} {a : Ad}
theorem d6 (D : zj K mg "outcomes_of" ud ["house"]) : FnAt P w K mg base "outcomes_of" 1 ["house"] (wu K 0) := by
  refine FnAt.of D fc (fun vs H Q E h => ?_) (fun f cdv A outer s H vs Q E hr h => ?_)
  . obtain ⟨t, us, v, rfl, _⟩ := h
    rfl
  . obtain ⟨t, us, v, rfl, ht, e, q⟩ := h
    refine ⟨_, (@zi _ _ _ (@zt _ _ _ _ (@yi _ _ _ _ _ _ _ xf (pv 0) (@zc _ _ _ _) (fun _ _ => rfl)))), ?_⟩;rw [show start ["house"] [V.ref t] = [some (V.ref t)] from rfl];simp only [zm, zl, ↓reduceIte];exact ⟨_, ht, _, zx (j := 0) e, q⟩
theorem jw (D : zj K mg "worths_of_hand" x9 ["hand"]) : FnAt P w K mg base "worths_of_hand" 1 ["hand"] (wu K 2) := by
  refine FnAt.of D qg (fun vs H Q E h => ?_) (fun f cdv A outer s H vs Q E hr h => ?_)
  . obtain ⟨t, us, v, rfl, _⟩ := h
    rfl
  . obtain ⟨t, us, v, rfl, ht, e, q⟩ := h
    refine ⟨_, (@zi _ _ _ (@zt _ _ _ _ (@yi _ _ _ _ _ _ _ xf (pv 0) (@zc _ _ _ _) (fun _ _ => rfl)))), ?_⟩;rw [show start ["hand"] [V.ref t] = [some (V.ref t)] from rfl];simp only [zm, zl, ↓reduceIte];exact ⟨_, ht, _, zx (j := 2) e, q⟩
theorem nh (yk : FnAt P w K mg base "words_of_hand" 1 ["hand"] (wu K 1)) (y7 : FnAt P w K mg base "worths_of_hand" 1 ["hand"] (wu K 2)) (D : zj K mg "worths_by" sv ["hand", "word"]) : FnAt P w K mg base "worths_by" 2 ["hand", "word"] (gj K) := by
  refine FnAt.of D c7 (fun vs H Q E h => ?_) (fun f cdv A outer s H vs Q E hr h => ?_)
  . obtain ⟨t, d, wd, g, gs, z, rfl, _⟩ := h
    rfl
  . obtain ⟨t, d, wd, g, gs, z, rfl, hK, hz, hl, q⟩ := h
    refine ⟨_, (@zi _ _ _ (@zt _ _ _ _ (@yi _ _ _ _ _ _ _ xf (zp y7 (hr.mono (by decide)) rfl (za (pv 0) (@zb _))) (pe_bmT PySem.F.plainAttrs_tuple PySem.F.slot_tuple_index PySem.F.type_tuple_index zdo (zp yk (hr.mono (by decide)) rfl (za (pv 0) (@zb _))) (za (pv 1) (@zb _))) (fun _ _ => rfl)))), ?_⟩;rw [show start ["hand", "word"] [V.ref t, V.str z] = [some (V.ref t), some (V.str z)] from rfl];simp only [zm, zl, ↓reduceIte];have hx := Zz.mpr hz;have hr : d.words.idxOf z < d.worths.length := by rw [hl]; exact hx
    obtain ⟨r, er⟩ : ∃ r, gs[d.words.idxOf z]? = some r := ⟨gs[d.words.idxOf z]'(by rw [hK.len]; exact hr), by simp⟩;have hrow := hK.row _ r _ er (Zb hr);refine ⟨t, _, _, rfl, .of hK.tup, rfl, t, _, _, rfl, .of hK.tup, rfl, ?_⟩;refine ⟨⟨wd, rfl, _, .of hK.words⟩, wd, rfl, _, .of hK.words, _, zdt hz, g, rfl, _, .of hK.grid, _, zx (v := V.ref r) (by rw [Ze, er]; rfl), q r ?_⟩;rw [ug, Zk, Zb hr];exact hrow
end
structure MenuOk (outs : List Str) (mk : List (Key × V)) : Prop where
  all : ∀ kv ∈ mk, ∃ (o : Str) (p : Int), o ∈ outs /\ kv = (Sum.inr o, V.int p)
  nd : (mk.map (·.1)).Nodup
  few : mk.length <= 64
def we (mk : List (Key × V)) (o : Str) : Option Int := match valV mk (Sum.inr o) with
  | some (.int p) => some p
  | _ => none
theorem MenuOk.val {outs : List Str} {mk : List (Key × V)} (M : MenuOk outs mk) (o : Str) : valV mk (Sum.inr o) = (we mk o).map V.int := by
  unfold we
  cases e : valV mk (Sum.inr o) with
  | none => rfl
  | some v =>
    have : ∃ kv ∈ mk, kv.1 = Sum.inr o /\ kv.2 = v := by
      unfold valV at e;obtain ⟨kv, h1, h2⟩ := Yc.mp e;exact ⟨kv, Yw h1, by simpa using Xm h1, h2⟩
    obtain ⟨kv, hm, h1, h2⟩ := this;obtain ⟨o', p, _, rfl⟩ := M.all kv hm;rw [<- h2];rfl
def offers (mk : List (Key × V)) (outs : List Str) (ws : List Int) : Nat -> List (Int × Str × Nat)
  | 0 => []
  | i + 1 => offers mk outs ws i ++ (match outs[i]?, ws[i]? with
    | some o, some n => (match we mk o with
      | some p => [(n - p, o, i)]
      | none => [])
    | _, _ => [])
theorem mq {mk : List (Key × V)} {outs : List Str} {ws : List Int} : ∀ (n : Nat) (x : Int × Str × Nat), x ∈ offers mk outs ws n -> x.2.2 < n /\ outs[x.2.2]? = some x.2.1 /\ ∃ w p, ws[x.2.2]? = some w /\ we mk x.2.1 = some p /\ x.1 = w - p
  | 0, x, h => by cases h
  | n + 1, x, h => by
    rw [offers] at h
    rcases ZH.mp h with h | h
    . obtain ⟨h1, h2⟩ := mq n x h
      exact ⟨by omega, h2⟩
    . cases e1 : outs[n]? with
      | none => rw [e1] at h; cases h
      | some o =>
        cases e2 : ws[n]? with
        | none => rw [e1, e2] at h; cases h
        | some w =>
          rw [e1, e2] at h
          cases e3 : we mk o with
          | none => simp only [e3] at h; cases h
          | some p =>
            simp only [e3] at h;rw [ZC.mp h];exact ⟨Yt _, e1, w, p, e2, e3, rfl⟩
theorem kq {mk : List (Key × V)} {outs : List Str} {ws : List Int} {j : Nat} {o : Str} {w p : Int} (h1 : outs[j]? = some o) (h2 : ws[j]? = some w) (h3 : we mk o = some p) : ∀ n, j < n -> (w - p, o, j) ∈ offers mk outs ws n
  | 0, h => absurd h (Xk _)
  | n + 1, h => by
    rw [offers]
    by_cases e : j = n
    . subst e
      refine Zu _ ?_;rw [h1, h2];simp only [h3];exact ZC.mpr rfl
    . exact Yi _ (kq h1 h2 h3 n (by omega))
theorem jo {mk : List (Key × V)} {outs : List Str} {ws : List Int} : ∀ n, (offers mk outs ws n).Pairwise fun x y => x.2.2 < y.2.2
  | 0 => List.Pairwise.nil
  | n + 1 => by
    rw [offers];refine List.pairwise_append.mpr ⟨jo n, ?_, fun x hx y hy => ?_⟩
    . split
      . split
        . exact List.pairwise_singleton _ _
        . exact List.Pairwise.nil
      . exact List.Pairwise.nil
    . have h1 := (mq n x hx).1
      have h2 : y.2.2 = n := by
        split at hy
        . split at hy
          . rw [ZC.mp hy]
          . cases hy
        . cases hy
      omega
def zdf (mk : List (Key × V)) (outs : List Str) (ws : List Int) (i : Nat) (o : Str) : Prop := outs[i]? = some o /\ ∃ w p, ws[i]? = some w /\ we mk o = some p /\ ∀ (j : Nat) (o' : Str) (w' p' : Int), outs[j]? = some o' -> ws[j]? = some w' -> we mk o' = some p' -> w' - p' <= w - p /\ (j < i -> w' - p' < w - p)
structure OffAt (H : Hp) (as : List Addr) (os : List (Int × Str × Nat)) : Prop where
  len : as.length = os.length
  at' : ∀ (i : Nat) (a : Addr) (x : Int × Str × Nat), as[i]? = some a -> os[i]? = some x -> H a = some (.tup [.int x.1, .str x.2.1])
theorem OffAt.mono {H H' : Hp} {as : List Addr} {os : List (Int × Str × Nat)} (S : Same H H') (h : OffAt H as os) : OffAt H' as os := ⟨h.len, fun i a x e1 e2 => S _ _ (h.at' i a x e1 e2)⟩
theorem OffAt.snoc {H : Hp} {as : List Addr} {os : List (Int × Str × Nat)} {a : Addr} {x : Int × Str × Nat} (h : OffAt H as os) (ha : H a = some (.tup [.int x.1, .str x.2.1])) : OffAt H (as ++ [a]) (os ++ [x]) := by
  refine ⟨by simp [h.len], fun i b q e1 e2 => ?_⟩
  by_cases hi : i < as.length
  . rw [Zg hi] at e1
    rw [Zg (by rw [<- h.len]; exact hi)] at e2;exact h.at' i b q e1 e2
  . rw [Zf (ZD.mp hi)] at e1
    rw [Zf (by rw [<- h.len]; exact ZD.mp hi)] at e2
    have h0 : i - as.length = 0 := by
      have := (Zc.mp e1).1;simp at this;omega
    rw [h0] at e1;rw [<- h.len, h0] at e2;simp at e1 e2;subst e1 e2;exact ha
def zc9 (K : Fg) : Sp := fun vs H Q _ => ∃ (p o h me : Addr) (hs : List Addr) (outs : List Str) (ds : List HD) (k : Nat) (d : HD) (z : Str) (mk : List (Key × V)), vs = [.ref p, .int k, .ref me, .str z] /\ HHouse H p o h hs outs ds /\ GoodHouse outs ds /\ ds[k]? = some d /\ z ∈ d.words /\ H me = some (.dK mk) /\ MenuOk outs mk /\ 0 < mk.length /\
  ∀ H' i o', Same H H' -> zdf mk outs (ug d z) i o' -> Q (.str o') H'
def PvOff (H : Hp) (mk : List (Key × V)) (outs : List Str) (ws : List Int) (i : Nat) (ys : List V) (H' : Hp) : Prop := Same H H' /\ ∃ as : List Addr, ys = as.map V.ref /\ OffAt H' as (offers mk outs ws i)
section
variable {P : Program} {w : World} {K : Fg} {mg : Str -> Option Value} {base : Heap} {a : Ad}
theorem ll (D : zj K mg "left_of" oo ["offer"]) : FnAt P w K mg base "left_of" 1 ["offer"] (wu K 0) := by
  refine FnAt.of D zcy (fun vs H Q E h => ?_) (fun f cdv A outer s H vs Q E hr h => ?_)
  . obtain ⟨t, us, v, rfl, _⟩ := h
    rfl
  . obtain ⟨t, us, v, rfl, ht, e, q⟩ := h
    refine ⟨_, (@zi _ _ _ (@zt _ _ _ _ (@yi _ _ _ _ _ _ _ xf (pv 0) (@zc _ _ _ _) (fun _ _ => rfl)))), ?_⟩;rw [show start ["offer"] [V.ref t] = [some (V.ref t)] from rfl];simp only [zm, zl, ↓reduceIte];exact ⟨_, ht, _, zx (j := 0) e, q⟩
theorem pq (D : zj K mg "outcome_of" ut ["offer"]) : FnAt P w K mg base "outcome_of" 1 ["offer"] (wu K 1) := by
  refine FnAt.of D d4 (fun vs H Q E h => ?_) (fun f cdv A outer s H vs Q E hr h => ?_)
  . obtain ⟨t, us, v, rfl, _⟩ := h
    rfl
  . obtain ⟨t, us, v, rfl, ht, e, q⟩ := h
    refine ⟨_, (@zi _ _ _ (@zt _ _ _ _ (@yi _ _ _ _ _ _ _ xf (pv 0) (@zc _ _ _ _) (fun _ _ => rfl)))), ?_⟩;rw [show start ["offer"] [V.ref t] = [some (V.ref t)] from rfl];simp only [zm, zl, ↓reduceIte];exact ⟨_, ht, _, zx (j := 1) e, q⟩
theorem ge (B : Bt mg) (f_hands_of : FnAt P w K mg base "hands_of" 1 ["house"] (wu K 1)) (f_outcomes_of : FnAt P w K mg base "outcomes_of" 1 ["house"] (wu K 0)) (nh : FnAt P w K mg base "worths_by" 2 ["hand", "word"] (gj K)) (ll : FnAt P w K mg base "left_of" 1 ["offer"] (wu K 0)) (pq : FnAt P w K mg base "outcome_of" 1 ["offer"] (wu K 1)) (D : zj K mg "pick" ie ["house", "k", "menu", "word"]) : FnAt P w K mg base "pick" 3 ["house", "k", "menu", "word"] (zc9 K) := by
  refine FnAt.of D sc_pick (fun vs H Q E h => ?_) (fun f cdv A outer s H vs Q E hr h => ?_)
  . obtain ⟨p, o, h, me, hs, outs, ds, k, d, z, mk, rfl, _⟩ := h
    rfl
  . obtain ⟨p, o, h, me, hs, outs, ds, k, d, z, mk, rfl, hH, G, ed, hz, hme, M, hm0, q⟩ := h
    refine ⟨_, (@zk _ _ _ _ _ (zz (i := 4) sc_pick.nd rfl (Or.inl rfl) (zp nh (hr.mono (by decide)) rfl (za (@yi _ _ _ _ _ _ _ xf (zp f_hands_of (hr.mono (by decide)) rfl (za (pv 0) (@zb _))) (pv 1) (fun _ _ => rfl)) (za (pv 3) (@zb _))))) (@zk _ _ _ _ _ (zg3 (i := 5) ["one", "worth"] ["house", "k", "menu", "word", "worths", "offers"] sc_pick.nd rfl rfl rfl (zha rfl B.zip (za (zp f_outcomes_of (hr.mono (by decide)) rfl (za (pv 0) (@zb _))) (za (pv 4) (@zb _)))) (fun _ => (kt rfl (wq (ya (i := 0) (show (["one", "worth", "house", "k", "menu", "word", "worths", "offers"] : List Str).Nodup by decide +kernel) rfl (Or.inl rfl)) (wq (ya (i := 1) (show (["one", "worth", "house", "k", "menu", "word", "worths", "offers"] : List Str).Nodup by decide +kernel) rfl (Or.inl rfl)) (@nk _))))) (fun _ => (@zh0 _ _ _ (@ye _ _ _ _ _ _ _ _ (op_inK (hu10 hr)) (pv 0) (pv 4) (by with_unfolding_all rfl)))) (fun _ => (@xc _ _ _ _ _ (za (@zg _ _ _ _ _ _ _ _ ww (pv 1) (@uh _ _ _ _ _ _ (hu10 hr) (pv 4) (pv 0) (fun _ _ => rfl))) (za (pv 0) (@zb _))))) rfl (by decide +kernel) rfl rfl rfl) (@zi _ _ _ (@zt _ _ _ _ (zp pq (hr.mono (by decide)) rfl (za (zia ll (hr.mono (by decide)) rfl rfl B.max rfl (za (pv 5) (@zb _))) (@zb _))))))), ?_⟩;rw [show start ["house", "k", "menu", "word", "worths", "offers"] [V.ref p, V.int k, V.ref me, V.str z] = [some (V.ref p), some (V.int k), some (V.ref me), some (V.str z), none, none] from rfl];simp only [zm, zl, ↓reduceIte];have hk : k < ds.length := (Zc.mp ed).1;obtain ⟨t, ht⟩ : ∃ t, hs[k]? = some t := ⟨hs[k]'(by rw [hH.hand.1]; exact hk), by simp⟩;obtain ⟨wd, g, gs, hK⟩ := hH.hand.2 k t d ht ed;have hG := G.hand (Zi ed)
    have lwb : (ug d z).length = outs.length := by
      have hx := Zz.mpr hz;have hr : d.words.idxOf z < d.worths.length := by rw [hG.rows]; exact hx
      rw [ug, Zk, Zb hr];exact (hG.cols _ (Zl hr)).1
    have ho := G.outs1;refine ⟨p, _, _, rfl, .of hH.tup, rfl, h, rfl, _, .of hH.hands, _, zx (v := V.ref t) (by rw [Ze, ht]; rfl), ?_⟩;refine ⟨t, d, wd, g, gs, z, rfl, hK, hz, hG.rows, fun r hrr => ?_⟩;refine ⟨p, _, _, rfl, .of hH.tup, rfl, o, rfl, ?_⟩;generalize ug d z = ws at *
    have all : ∀ H', Same H H' -> tf K H' [o, r] [outs.map V.str, ws.map V.int] := fun H' S => ⟨rfl, fun j a xs e1 e2 => by
      match j with
      | 0 => simp at e1 e2; subst e1 e2; exact .inr (.of (S _ _ hH.outs))
      | 1 => simp at e1 e2; subst e1 e2; exact .inr (.of (S _ _ hrr))
      | j + 2 => simp at e1⟩
    refine ⟨r, rfl, ⟨_, all H (Same.refl _)⟩, fun dd => ?_⟩
    have olen : ∀ n, (offers mk outs ws n).length <= n := by
      intro n
      induction n with
      | zero => exact Zm _
      | succ n ih =>
        rw [offers, Zo]
        have : (match outs[n]?, ws[n]? with
          | some o, some n' => (match we mk o with
            | some p => [(n' - p, o, n)]
            | none => [])
          | _, _ => []).length <= 1 := by
          split
          . split
            . exact Zm _
            . exact ZE _
          . exact ZE _
        omega
    refine zds (xss := [outs.map V.str, ws.map V.int]) (n := outs.length) (PvOff H mk outs ws) ⟨Same.refl _, [], rfl, rfl, fun i l p e => by simp at e⟩ (fun xs hx => ?_) ⟨outs.map V.str, by simp, Za ..⟩ ?_ ?_ ?_
    . simp only [ZK, Zx, or_false] at hx
      rcases hx with rfl | rfl
      . rw [Za]; exact Zm _
      . rw [Za, lwb]; exact Zm _
    . rintro i ys H2 hi ⟨S, as, rfl, hI⟩
      refine ⟨?_, all H2 S⟩;rw [Za, hI.len];exact Zd (olen i) (Zd hi (Zd ho.2 (by decide)))
    . rintro i vs ys H2 T hi lv hv hT ⟨S, as, rfl, hI⟩
      have e0 := hv 0 _ rfl;have e1 := hv 1 _ rfl;have hd : outs[i]? = some outs[i] := Zb hi;obtain ⟨wt, hwt⟩ : ∃ t, ws[i]? = some t := ⟨ws[i]'(by rw [lwb]; exact hi), by simp⟩;rw [Ze, hd] at e0;rw [Ze, hwt] at e1
      have ev : vs = [V.str outs[i], V.int wt] := by
        match vs, lv with
        | [x, y], _ =>
          simp at e0 e1;rw [<- e0, <- e1]
      subst ev;have S1 : Same H2 (upd H2 T (.tup [V.str outs[i], V.int wt])) := Same.upd (Same.refl _) hT;simp only [zm, zl, ↓reduceIte];refine ⟨_, .of zd, rfl, ?_⟩;generalize upd H2 T (.tup [V.str outs[i], V.int wt]) = H3 at *;simp only [zm, zl, ↓reduceIte];have hm3 : H3 me = some (.dK mk) := (S.trans S1) _ _ hme;have og := offers.eq_2 mk outs ws i;rw [hd, hwt] at og;refine ⟨_, DGet.k (k := Sum.inr outs[i]) hm3, ?_⟩;rw [M.val]
      cases ep : we mk outs[i] with
      | none =>
        simp only [ep, Ye] at og;refine ⟨S.trans S1, as, rfl, ?_⟩;rw [og];exact hI.mono S1
      | some pr =>
        simp only [ep] at og;refine ⟨V.int pr, ?_, pr, rfl, by decide, fun T4 hT4 => ?_⟩
        . have := DGet.k (k := Sum.inr outs[i]) hm3
          rw [M.val, ep] at this;exact this
        . have S4 := Same.upd (o := .tup [V.int (wt - pr), V.str outs[i]]) (Same.refl H3) hT4
          refine ⟨S.trans (S1.trans S4), as ++ [T4], by simp, ?_⟩;rw [og];exact (hI.mono (S1.trans S4)).snoc zd
    . rintro ys H2 ⟨S, as, rfl, hI⟩ l2 hl2
      have S2 := Same.upd (o := .lst (as.map V.ref)) (Same.refl H2) hl2;have hI2 := hI.mono S2;have hl3 : upd H2 l2 (.lst (as.map V.ref)) l2 = some (.lst (as.map V.ref)) := zd;generalize upd H2 l2 (.lst (as.map V.ref)) = H3 at *
      have hat : ∀ (i : Nat) (x : V), (as.map V.ref)[i]? = some x -> ∃ (t : Addr) (y : Int × Str × Nat), x = .ref t /\ (offers mk outs ws outs.length)[i]? = some y /\ H3 t = some (.tup [.int y.1, .str y.2.1]) := by
        intro i x e;rw [Ze] at e;obtain ⟨t, e1, e2⟩ := Yc.mp e;have hi : i < (offers mk outs ws outs.length).length := by rw [<- hI2.len]; exact (Zc.mp e1).1
        exact ⟨t, _, e2.symm, Zb hi, hI2.at' i t _ e1 (Zb hi)⟩
      refine ⟨_, .of hl3, ?_, fun i => ((offers mk outs ws outs.length)[i]?.map (·.1)).getD 0, fun i x e => ?_, fun i x e hb => ?_⟩
      . rw [Za, hI2.len]
        obtain ⟨kv, hkv⟩ : ∃ kv, kv ∈ mk := ⟨mk[0], Zl hm0⟩;obtain ⟨o', pr, ho', e⟩ := M.all kv hkv;obtain ⟨j, hj, ej⟩ := Zy ho';obtain ⟨wt, hwt⟩ : ∃ t, ws[j]? = some t := ⟨ws[j]'(by rw [lwb]; exact hj), by simp⟩
        have hp : ∃ p', we mk o' = some p' := by
          cases ep : we mk o' with
          | some p' => exact ⟨p', rfl⟩
          | none =>
            exfalso
            have hv := M.val o';rw [ep] at hv;unfold valV at hv;have := Option.map_eq_none_iff.mp hv;rw [List.find?_eq_none] at this;have := this kv hkv;rw [e] at this;simp at this
        obtain ⟨p', hp⟩ := hp;exact List.length_pos_of_mem (kq (by rw [Zb hj, ej]) hwt hp outs.length hj)
      . obtain ⟨t, y, rfl, ey, hy⟩ := hat i x e
        refine ⟨t, _, _, rfl, .of hy, rfl, ?_, rfl⟩;simp only [ey];rfl
      . obtain ⟨t, y, rfl, ey, hy⟩ := hat i x e
        refine ⟨t, _, _, rfl, .of hy, rfl, q H3 y.2.2 y.2.1 (S.trans S2) ?_⟩;obtain ⟨hlt, ho', wt, pr, hw', hp', hxe⟩ := mq _ y (Zi ey);refine ⟨ho', wt, pr, hw', hp', fun j o2 w2 p2 h1 h2 h3 => ?_⟩;have hj : j < outs.length := (Zc.mp h1).1;obtain ⟨m, hm, em⟩ := Zy (kq h1 h2 h3 outs.length hj);have em' : (offers mk outs ws outs.length)[m]? = some (w2 - p2, o2, j) := by rw [Zb hm, em]
        have hb' := hb m (by rw [Za, hI2.len]; exact hm);simp only [em', ey, ZW, Xd] at hb';rw [<- hxe];refine ⟨hb'.1, fun hji => hb'.2 ?_⟩;obtain ⟨hil, ei⟩ := Zc.mp ey
        rcases Nat.lt_trichotomy m i with h | h | h
        . exact h
        . subst h
          rw [ei] at em;rw [em] at hji;exact absurd hji (ZJ _)
        . have := Yk.mp (jo (mk := mk) (outs := outs) (ws := ws) outs.length) i m hil hm h
          rw [ei, em] at this;simp at this;omega
end
def zv (r : List Str) : List Key := r.map Sum.inr
theorem wy (r : List Str) : (zv r).map kV = r.map V.str := by
  rw [zv, Yz];rfl
theorem xr {r q : List Str} (h : zv r = zv q) : r = q := by
  induction r generalizing q with
  | nil => cases q with
    | nil => rfl
    | cons _ _ => cases h
  | cons x xs ih => cases q with
    | nil => cases h
    | cons y ys =>
      rw [zv, zv, ZL, ZL] at h
      injection h with h1 h2
      injection h1 with h1
      rw [h1, ih h2]
def wn (f : List Str -> Str) (rs : List (List Str)) : List (List Key × V) := rs.map fun r => (zv r, V.str (f r))
theorem zah (f : List Str -> Str) (rs : List (List Str)) : (wn f rs).map (·.1) = rs.map zv := by rw [wn, Yz]; rfl
theorem zff {f : List Str -> Str} {rs : List (List Str)} (h : rs.Nodup) : ((wn f rs).map (·.1)).Nodup := by
  rw [zah];exact Yg.mpr (List.Pairwise.imp (fun {a b} hab e => hab (xr e)) h)
theorem jt {H H' : Hp} {Ts : List Addr} {kvs : List (List Key × V)} (S : Same H H') (h : tq H Ts kvs) : tq H' Ts kvs := ⟨h.len, fun i T kv e1 e2 => by
  obtain ⟨b, h1, h2⟩ := h.at' i T kv e1 e2
  exact ⟨b, S _ _ h1, S _ _ h2⟩⟩
theorem zan {H : Hp} {Ts : List Addr} {kvs : List (List Key × V)} {T b : Addr} {kv : List Key × V} (h : tq H Ts kvs) (hT : H T = some (.tup [.ref b, kv.2])) (hb : H b = some (.tup (kv.1.map kV))) : tq H (Ts ++ [T]) (kvs ++ [kv]) := by
  refine ⟨by simp [h.len], fun i a q e1 e2 => ?_⟩
  by_cases hi : i < Ts.length
  . rw [Zg hi] at e1
    rw [Zg (by rw [<- h.len]; exact hi)] at e2;exact h.at' i a q e1 e2
  . rw [Zf (ZD.mp hi)] at e1
    rw [Zf (by rw [<- h.len]; exact ZD.mp hi)] at e2
    have h0 : i - Ts.length = 0 := by
      have := (Zc.mp e1).1;simp at this;omega
    rw [h0] at e1;rw [<- h.len, h0] at e2;simp at e1 e2;subst e1 e2;exact ⟨b, hT, hb⟩
def k8 : Sp := fun vs H Q _ => ∃ (b : Addr) (xs : List HX) (ds : List HD), vs = [.ref b] /\ HandsL H b xs ds /\ ds.length <= 4 /\ (∀ d ∈ ds, d.words.length <= 8) /\ ∀ H' l as, Same H H' -> RwsAt H' l as (z0 (ds.map HD.words)) -> Q (.ref l) H'
def PvGw (b l h : Addr) (rs : List (List Str)) (ws : List Str) (H : Hp) (m : Nat) (σ : L2.St) (H' : Hp) : Prop := Same H H' /\ ∃ (p : Addr) (as' : List Addr) (v : Option V), RwsAt H' p as' (xq (rs.take m) ws) /\ σ = [some (.ref b), some (.ref l), some (.ref h), some (.ref p), v]
def PvRo (b : Addr) (H : Hp) (ds : List HD) (i : Nat) (σ : L2.St) (H' : Hp) : Prop := Same H H' /\ ∃ (l : Addr) (as : List Addr) (v1 v2 v3 : Option V), RwsAt H' l as (z0 ((ds.map HD.words).take i)) /\ σ = [some (.ref b), some (.ref l), v1, v2, v3]
section
variable {P : Program} {w : World} {K : Fg} {mg : Str -> Option Value} {base : Heap} {a : Ad}
theorem uq (D : zj K mg "_law_rows" ql ["hands"]) : FnAt P w K mg base "_law_rows" 1 ["hands"] k8 := by
  refine FnAt.of D sc_law_rows (fun vs H Q E h => ?_) (fun f cdv A outer s H vs Q E hr h => ?_)
  . obtain ⟨b, xs, ds, rfl, _⟩ := h
    rfl
  . obtain ⟨b, xs, ds, rfl, hH, h4, h8, q⟩ := h
    refine ⟨_, (@zk _ _ _ _ _ (@zz _ _ 1 _ _ _ _ sc_law_rows.nd rfl (Or.inl rfl) (@xg _ _ _ _ (@za _ _ _ _ _ (@xc _ _ _ _ _ (@zb _)) (@zb _) (zw nofun))) rfl (Or.inl rfl)) (@zk _ _ _ _ _ (ul PassesOwn.never rfl (@yz _ _ _ _ (pv 0)) (ya (i := 2) sc_law_rows.nd rfl (Or.inl rfl)) (@zk _ _ _ _ _ (zz (i := 3) sc_law_rows.nd rfl (Or.inl rfl) (@xg _ _ _ _ (@zb _))) (@zk _ _ _ _ _ (ul PassesOwn.never rfl (@yz _ _ _ _ (pv 1)) (ya (i := 4) sc_law_rows.nd rfl (Or.inr rfl)) (@zi _ _ _ (zz (i := 3) sc_law_rows.nd rfl (Or.inl rfl) (@zg _ _ _ _ _ _ _ _ bo (pv 3) (yx ["word"] ["hands", "rows", "hand", "grown", "row"] rfl (@yz _ _ _ _ (@yi _ _ _ _ _ _ _ xf (pv 2) (@zc _ _ _ _) (fun _ _ => rfl))) (fun _ => (ya (i := 0) (show (["word", "hands", "rows", "hand", "grown", "row"] : List Str).Nodup by decide +kernel) rfl (Or.inl rfl))) (fun _ => (@yy _)) (fun _ => (@zg _ _ _ _ _ _ _ _ ny (pv 5) (@xc _ _ _ _ _ (za (pv 0) (@zb _))))) rfl (by decide +kernel) rfl rfl))))) (@zi _ _ _ (zz (i := 1) sc_law_rows.nd rfl (Or.inl rfl) (pv 3)))))) (@zi _ _ _ (@zt _ _ _ _ (pv 1))))), ?_⟩;rw [show start ["hands", "rows", "hand", "grown", "row"] [V.ref b] = [some (V.ref b), none, none, none, none] from rfl];simp only [zm, zl, ↓reduceIte];refine ⟨by decide, fun e he => ?_⟩;have S1 : Same H (upd H e (.tup [])) := Same.upd (Same.refl _) he;have t1 : upd H e (.tup []) e = some (.tup []) := zd;generalize upd H e (.tup []) = H1 at *;refine ⟨by decide, fun l hl => ?_⟩;have S2 : Same H1 (upd H1 l (.lst [V.ref e])) := Same.upd (Same.refl _) hl;have t2 : upd H1 l (.lst [V.ref e]) l = some (.lst [V.ref e]) := zd;generalize upd H1 l (.lst [V.ref e]) = H2 at *;have hH2 := hH.mono (S1.trans S2);refine ⟨⟨_, .of hH2.at'⟩, ?_⟩;refine sd (xs := xs.map fun x => V.ref x.t) (PvRo b H2 ds) ⟨Same.refl _, l, [e], _, _, _, ⟨t2, TupsAt.one (S2 _ _ t1)⟩, rfl⟩ ?_ ?_ ?_
    . rintro i σ H3 hi ⟨S3, l3, as, v1, v2, v3, hR, rfl⟩
      exact .of (S3 _ _ hH2.at')
    . rintro i x σ H3 hx ⟨S3, l3, as, v1, v2, v3, hR, rfl⟩
      obtain ⟨h, hh, rfl⟩ := yq hx;have hi : i < ds.length := by have := (Zc.mp hh).1; have := hH.len; omega
      have ed : ds[i]? = some ds[i] := Zb hi;have hA := (hH2.mono S3).hand i h _ hh ed;have w8 := h8 _ (Zl hi);have ew : (ds.map HD.words)[i]? = some ds[i].words := by rw [Ze, ed]; rfl
      have hwid := js (ds.map HD.words) i (by rw [Za]; omega)
      have few := tz (wss := ds.map HD.words) (by rw [Za]; exact h4) (fun ws hws => by
        obtain ⟨d, hd, rfl⟩ := Zp.mp hws
        exact h8 d hd) i (by rw [Za]; omega)
      simp only [zm, zl, ↓reduceIte];refine ⟨by decide, fun p hp => ?_⟩;have S4 : Same H3 (upd H3 p (.lst [])) := Same.upd (Same.refl _) hp;have t4 : upd H3 p (.lst []) p = some (.lst []) := zd;generalize upd H3 p (.lst []) = H4 at *;have hR4 := hR.mono S4;generalize hrs : z0 ((ds.map HD.words).take i) = rs at *;refine ⟨⟨_, .of hR4.lst⟩, ?_⟩;refine sd (xs := as.map V.ref) (PvGw b l3 h.t rs ds[i].words H4) ⟨Same.refl _, p, [], _, ⟨t4, TupsAt.nil⟩, rfl⟩ ?_ ?_ ?_
      . rintro m σ H5 hm ⟨S5, p5, as', v, hG, rfl⟩
        exact .of (S5 _ _ hR4.lst)
      . rintro m x σ H5 hx ⟨S5, p5, as', v, hG, rfl⟩
        obtain ⟨r, er, rfl⟩ := yq hx;have hm : m < rs.length := by have := (Zc.mp er).1; have := hR.tups.len; omega
        have er2 : rs[m]? = some rs[m] := Zb hm;have hr5 := (hR4.mono S5).tups.at' m r _ er er2;have lr5 := hwid _ (Zl hm);have h15 := (S4.trans S5) _ _ hA.tup;have h25 := (S4.trans S5) _ _ hA.words;simp only [zm, zl, ↓reduceIte];refine ⟨_, .of h15, _, zx (j := 1) rfl, _, rfl, ⟨_, .of h25⟩, fun d => ?_⟩;refine xm (xs := ds[i].words.map V.str) (zd8 rs[m] ds[i].words H5) ⟨[], rfl, TupsAt.nil, Same.refl _⟩ ?_ ?_ ?_
        . rintro k ys H6 hk ⟨bs, rfl, t6, S6⟩
          refine ⟨?_, .of (S6 _ _ h25)⟩;rw [Za, t6.len, vy, Zj];exact Zd (ZB _ _) (Zd w8 (by decide))
        . rintro k y ys H6 hy ⟨bs, rfl, t6, S6⟩
          obtain ⟨z, ez, rfl⟩ := yq hy;simp only [zm, zl, ↓reduceIte];refine ⟨by decide, fun u hu => ?_⟩;have S7 : Same H6 (upd H6 u (.tup [V.str z])) := Same.upd (Same.refl _) hu;have t7 : upd H6 u (.tup [V.str z]) u = some (.tup [V.str z]) := zd;generalize upd H6 u (.tup [V.str z]) = H7 at *;refine ⟨_, (S6.trans S7) _ _ hr5, _, t7, ?_, fun H8 w S8 hw => ?_⟩
          . rw [Za, lr5]
            exact Zd (show i + 1 <= 9 by omega) (by decide)
          . refine ⟨bs ++ [w], by simp, ?_, S6.trans (S7.trans S8)⟩
            rw [Zq, ez]
            show TupsAt H8 (bs ++ [w]) (x6 _ (ds[i].words.take k ++ [z]))
            rw [x6, Zn];exact (t6.mono (S7.trans S8)).append (TupsAt.one (by rw [hw]; simp))
        . rintro ys H6 ⟨bs, rfl, t6, S6⟩ l hl
          rw [Za, Zt] at t6;have S7 : Same H6 (upd H6 l (.lst (bs.map V.ref))) := Same.upd (Same.refl _) hl;have t7 : upd H6 l (.lst (bs.map V.ref)) l = some (.lst (bs.map V.ref)) := zd;generalize upd H6 l (.lst (bs.map V.ref)) = H7 at *;have S57 := S6.trans S7;refine ⟨_, S57 _ _ hG.lst, _, t7, ?_, fun p6 hp6 => ?_⟩
          . rw [Za, Za, hG.tups.len, t6.len, vy, rm, Zj]
            have : min m rs.length * ds[i].words.length <= 4096 * 8 := YV (by omega) w8;exact Zd (show _ <= 4096 * 8 + 8 by omega) (by decide)
          . have S8 : Same H7 (upd H7 p6 (.lst (as'.map V.ref ++ bs.map V.ref))) := Same.upd (Same.refl _) hp6
            refine ⟨S5.trans (S57.trans S8), p6, as' ++ bs, _, ⟨by rw [zd, Zn], ?_⟩, rfl⟩;rw [Zq, er2]
            show TupsAt _ _ (xq (rs.take m ++ [rs[m]]) _)
            rw [i0];exact (hG.tups.mono (S57.trans S8)).append (t6.mono (S7.trans S8))
      . rintro σ H5 ⟨S5, p5, as', v, hG, rfl⟩
        simp only [zm, zl, ↓reduceIte];rw [Za, hR.tups.len, Zt] at hG;refine ⟨S3.trans (S4.trans S5), p5, as', _, _, _, ?_, rfl⟩;rw [wz ew, hrs];exact hG
    . rintro σ H3 ⟨S3, l3, as, v1, v2, v3, hR, rfl⟩
      simp only [zm, zl, ↓reduceIte];rw [Za, hH.len, ZG (by rw [Za]; omega)] at hR;exact q H3 l3 as (S1.trans (S2.trans S3)) hR
end
theorem HHouse.tups {H H' : Hp} {p o h : Addr} {hs : List Addr} {outs : List Str} {ds : List HD} (S : ∀ c xs, H c = some (.tup xs) -> H' c = some (.tup xs)) (q : HHouse H p o h hs outs ds) : HHouse H' p o h hs outs ds :=
  ⟨S _ _ q.tup, S _ _ q.outs, S _ _ q.hands, q.hand.1, fun i t d e1 e2 => by
    obtain ⟨w, g, gs, q⟩ := q.hand.2 i t d e1 e2
    exact ⟨w, g, gs, S _ _ q.tup, S _ _ q.words, S _ _ q.grid, q.len, fun i r ns e1 e2 => S _ _ (q.row i r ns e1 e2)⟩⟩
structure MenusAt (H : Hp) (m : Addr) (kvs : List (List Key × V)) (outs : List Str) (rs : List (List Str)) : Prop where
  at' : H m = some (.dT kvs)
  len : kvs.length = rs.length
  menu : ∀ r ∈ rs, ∃ me mk, valV kvs (zv r) = some (V.ref me) /\ H me = some (.dK mk) /\ MenuOk outs mk /\ 0 < mk.length /\ mk.length <= 8
theorem MenusAt.mono {H H' : Hp} {m : Addr} {kvs : List (List Key × V)} {outs : List Str} {rs : List (List Str)} (S : Same H H') (h : MenusAt H m kvs outs rs) : MenusAt H' m kvs outs rs := ⟨S _ _ h.at', h.len, fun r hr => by
  obtain ⟨me, mk, v1, v2, v3⟩ := h.menu r hr
  exact ⟨me, mk, v1, S _ _ v2, v3⟩⟩
inductive Pr (H : Hp) : V -> Bool -> Prop where
  | int (i : Int) : Pr H (.int i) true
  | non : Pr H .non false
  | bl (b : Bool) : Pr H (.bl b) false
  | str (z : Str) : Pr H (.str z) false
  | lst {p : Addr} {xs : List V} (h : H p = some (.lst xs)) : Pr H (.ref p) false
  | tup {p : Addr} {xs : List V} (h : H p = some (.tup xs)) : Pr H (.ref p) false
theorem Pr.mono {H H' : Hp} {v : V} {b : Bool} (S1 : ∀ c xs, H c = some (.lst xs) -> H' c = some (.lst xs)) (S2 : ∀ c xs, H c = some (.tup xs) -> H' c = some (.tup xs)) (h : Pr H v b) : Pr H' v b := by
  cases h with
  | int i => exact .int i
  | non => exact .non
  | bl b => exact .bl b
  | str z => exact .str z
  | lst h => exact .lst (S1 _ _ h)
  | tup h => exact .tup (S2 _ _ h)
def nu (outs : List Str) : V -> Bool
  | .str z => decide (z ∈ outs)
  | _ => false
def ae : Sp := fun vs H Q _ => ∃ (x : V) (b : Bool), vs = [x] /\ Pr H x b /\ Q (.bl b) H
def zbl : Sp := fun vs H Q _ => ∃ (p o h : Addr) (hs : List Addr) (outs : List Str) (ds : List HD) (y : V), vs = [.ref p, y] /\ HHouse H p o h hs outs ds /\ ((∃ z, y = .str z) \/ y = .non) /\ Q (.bl (nu outs y)) H
def NoDic (K : Fg) (H : Hp) (y : V) : Prop := ∃ T, TyOf K H y (.type T) /\ kit0 T "dict" = some false
def Bits (H : Hp) (outs : List Str) (ps : List (V × V)) (bs : List Bool) : Prop := bs.length = ps.length /\ ∀ (i : Nat) (kv : V × V) (c : Bool), ps[i]? = some kv -> bs[i]? = some c -> ((∃ z, kv.1 = .str z) \/ kv.1 = .non) /\ ∃ c1, Pr H kv.2 c1 /\ c = (nu outs kv.1 && c1)
def MenuA (P : Program) (w : World) (K : Fg) (H : Hp) (y : V) (outs : List Str) (b : Bool) : Prop :=
  (b = false /\ NoDic K H y) \/
  (∃ (me : Addr) (mk : List (Key × V)) (bs : List Bool), y = .ref me /\ H me = some (.dK mk) /\ mk.length <= 20 /\ Bits H outs (mk.map fun kv => (kV kv.1, kv.2)) bs /\ b = (decide (mk.length ≠ 0) && bs.all id)) \/
  ∃ (me : Addr) (mk : List (Option Key × V)) (bs : List Bool), y = .ref me /\ H me = some (xk P w me mk) /\ mk.length <= 20 /\ mk.length ≠ 0 /\ Bits H outs (mk.map fun kv => (onV kv.1, kv.2)) bs /\ b = bs.all id
def jv (P : Program) (w : World) (K : Fg) : Sp := fun vs H Q _ => ∃ (p o h : Addr) (y : V) (hs : List Addr) (outs : List Str) (ds : List HD) (b : Bool), vs = [.ref p, y] /\ HHouse H p o h hs outs ds /\ MenuA P w K H y outs b /\ ∀ H', Same H H' -> Q (.bl b) H'
def PvMn (H : Hp) (me : Addr) (u : HO) (bs : List Bool) (i : Nat) (ys : List V) (H' : Hp) : Prop := (∀ c u, c ≠ me -> H c = some u -> H' c = some u) /\ H' me = some u /\ ys = (bs.take i).map V.bl
theorem kitI47 : kit0 "str" "int" = some false /\ kit0 "NoneType" "int" = some false /\ kit0 "bool" "int" = some true /\ kit0 "int" "int" = some true /\ kit0 "list" "int" = some false /\ kit0 "tuple" "int" = some false := by decide +kernel
theorem kitB47 : kit0 "bool" "bool" = some true /\ kit0 "int" "bool" = some false := by decide +kernel
section
variable {P : Program} {w : World} {K : Fg} {mg : Str -> Option Value} {base : Heap} {a : Ad}
theorem zcp (B : Bt mg) (D : zj K mg "is_whole" u9 ["thing"]) : FnAt P w K mg base "is_whole" 1 ["thing"] ae := by
  refine FnAt.of D jq (fun vs H Q E h => ?_) (fun f cdv A outer s H vs Q E hr h => ?_)
  . obtain ⟨x, b, rfl, _⟩ := h
    rfl
  . obtain ⟨x, b, rfl, th, q⟩ := h
    refine ⟨_, (@zi _ _ _ (@zt _ _ _ _ (@vi _ _ _ _ _ _ _ (zq yt rfl B.isinstance yd (za (pv 0) (za (w6 rfl B.int bd) (@zb _)))) (@uz _ _ _ _ _ (@ze8 _ _ _ _ (zq yt rfl B.isinstance yd (za (pv 0) (za (w6 rfl B.bool zbh) (@zb _))))))))), ?_⟩;rw [show start ["thing"] [x] = [some x] from rfl];simp only [zm, zl, ↓reduceIte];obtain ⟨i1, i2, i3, i4, i5, i6⟩ := kitI47;obtain ⟨b1, b2⟩ := kitB47
    cases th with
    | int i => exact ⟨_, .int _, true, i4, iteT ⟨_, .int _, false, b2, q⟩⟩
    | bl i => exact ⟨_, .bl _, true, i3, iteT ⟨_, .bl _, true, b1, q⟩⟩
    | non => exact ⟨_, .non, false, i2, iteF q⟩
    | str z => exact ⟨_, .str _, false, i1, iteF q⟩
    | lst h => exact ⟨_, .lst h, false, i5, iteF q⟩
    | tup h => exact ⟨_, .tup h, false, i6, iteF q⟩
theorem ph (B : Bt mg) (f_outcomes_of : FnAt P w K mg base "outcomes_of" 1 ["house"] (wu K 0)) (D : zj K mg "is_outcome" u4 ["house", "thing"]) : FnAt P w K mg base "is_outcome" 2 ["house", "thing"] zbl := by
  refine FnAt.of D cc (fun vs H Q E h => ?_) (fun f cdv A outer s H vs Q E hr h => ?_)
  . obtain ⟨p, o, h, hs, outs, ds, z, rfl, _⟩ := h
    rfl
  . obtain ⟨p, o, h, hs, outs, ds, y, rfl, hH, hy, q⟩ := h
    refine ⟨_, (@zi _ _ _ (@zt _ _ _ _ (@vi _ _ _ _ _ _ _ (zq yt rfl B.isinstance yd (za (pv 1) (za (w6 rfl B.str zdc) (@zb _)))) (@uz _ _ _ _ _ (@se _ _ _ _ _ _ _ _ zel (pv 1) (zp f_outcomes_of (hr.mono (by decide)) rfl (za (pv 0) (@zb _))) (by with_unfolding_all rfl)))))), ?_⟩;rw [show start ["house", "thing"] [V.ref p, y] = [some (V.ref p), some y] from rfl];simp only [zm, zl, ↓reduceIte]
    have fl : (outs.map V.str).all xh = true := by
      rw [ZS];intro x hx;obtain ⟨y, _, rfl⟩ := Zp.mp hx;rfl
    rcases hy with ⟨z, rfl⟩ | rfl
    . refine ⟨_, .str _, true, by decide +kernel, iteT ⟨p, _, _, rfl, .of hH.tup, rfl, o, rfl, _, .inr (.of hH.outs), rfl, fl, ?_⟩⟩
      have e : inV (V.str z) (outs.map V.str) = decide (z ∈ outs) := by
        rw [inV]
        by_cases hz : z ∈ outs
        . rw [decide_eq_true hz, YM]
          exact ⟨V.str z, Zp.mpr ⟨z, hz, rfl⟩, decide_eq_true rfl⟩
        . rw [decide_eq_false hz, List.any_eq_false]
          intro x hx;obtain ⟨y, hy, rfl⟩ := Zp.mp hx;intro e;have e2 : y = z := of_decide_eq_true e;exact hz (e2 ▸ hy)
      rw [if_neg (by simp), e];exact q
    . exact ⟨_, .non, false, by decide +kernel, iteF q⟩
theorem l5 (B : Bt mg) (ph : FnAt P w K mg base "is_outcome" 2 ["house", "thing"] zbl) (ur : FnAt P w K mg base "is_whole" 1 ["thing"] ae) (D : zj K mg "is_menu" on ["house", "thing"]) : FnAt P w K mg base "is_menu" 3 ["house", "thing"] (jv P w K) := by
  refine FnAt.of D zbz (fun vs H Q E h => ?_) (fun f cdv A outer s H vs Q E hr h => ?_)
  . obtain ⟨p, o, h, y, hs, outs, ds, b, rfl, _⟩ := h
    rfl
  . obtain ⟨p, o, h, y, hs, outs, ds, b, rfl, hH, M, q⟩ := h
    refine ⟨_, (@zk _ _ _ _ _ (@yl _ _ _ _ _ _ _ _ (PW.pt (@qh _ _ _ _ _ _ _ (@xv _ _ _ _ (wf (zq bx rfl B.isinstance yd (za (pv 1) (za (w6 rfl B.dict nv) (@zb _)))))) (@u5 _ _ _ _ (@ye _ _ _ _ _ _ _ _ xy (zq e7 rfl B.len yp (za (pv 1) (@zb _))) (@zc _ _ _ _) (yf _))))) (@zi _ _ _ (@zt _ _ _ _ (@wa _ _ _ _))) (@yc _)) (@zi _ _ _ (@zt _ _ _ _ (zq (vh rfl) rfl B.all qt (za (@zf6 _ _ _ (yx ["outcome", "price"] ["house", "thing"] rfl (ze0 (pv 1)) (fun _ => (kt rfl (wq (ya (i := 0) (show (["outcome", "price", "house", "thing"] : List Str).Nodup by decide +kernel) rfl (Or.inl rfl)) (wq (ya (i := 1) (show (["outcome", "price", "house", "thing"] : List Str).Nodup by decide +kernel) rfl (Or.inl rfl)) (@nk _))))) (fun _ => (@yy _)) (fun _ => (@vi _ _ _ _ _ _ _ (zp ph (hr.mono (by decide)) rfl (za (pv 2) (za (pv 0) (@zb _)))) (@uz _ _ _ _ _ (zp ur (hr.mono (by decide)) rfl (za (pv 1) (@zb _)))))) rfl (by decide +kernel) rfl rfl)) (@zb _)))))), ?_⟩;rw [show start ["house", "thing"] [V.ref p, y] = [some (V.ref p), some y] from rfl];simp only [zm, zl, ↓reduceIte]
    rcases M with ⟨rfl, T, t1, t2⟩ | ⟨me, mk, bs, rfl, hm, m20, ⟨lb, hb⟩, rfl⟩ | ⟨me, mk, bs, rfl, hm, m20, m0, ⟨lb, hb⟩, rfl⟩
    . exact ⟨_, .inl t1, false, t2, iteT (q _ (Same.refl _))⟩
    . rw [Za] at lb
      refine ⟨_, .inl (.dK hm), true, by decide +kernel, iteF ⟨_, rfl, _, .inl ⟨_, hm, rfl⟩, rfl, ite2 (fun h => ?_) fun h0 => ⟨_, rfl, .inl ⟨_, hm, fun ob dd => ?_⟩⟩⟩⟩
      . have e : mk.length = 0 := by have := of_decide_eq_true h; omega
        rw [e] at q;exact q _ (Same.refl _)
      have m0 : mk.length ≠ 0 := fun e => h0 (by rw [e]; rfl)
      rw [decide_eq_true m0, Bool.true_and] at q;refine zcq (PvMn H me (.frz ob (.dK mk)) bs) ⟨fun c u hc h => by rw [zn hc]; exact h, zd, rfl⟩ ?_ ?_ ?_
      . rintro i ys H2 hi ⟨S2, h2, rfl⟩
        exact ⟨by rw [Za, Zj]; exact Zd (show min i bs.length <= 20 by omega) (by decide), h2⟩
      . rintro i kv ys H2 T hkv hT ⟨S2, h2, rfl⟩
        have hi : i < bs.length := by have := (Zc.mp hkv).1; omega
        have ei : bs[i]? = some bs[i] := Zb hi;obtain ⟨hk, c1, pr, ec⟩ := hb i _ _ (by rw [Ze, hkv]; rfl) ei;have S3 : Same H2 (upd H2 T (.tup [kV kv.1, kv.2])) := Same.upd (Same.refl _) hT;have t3 : upd H2 T (.tup [kV kv.1, kv.2]) T = some (.tup [kV kv.1, kv.2]) := zd;generalize upd H2 T (.tup [kV kv.1, kv.2]) = H3 at *;have S13 : ∀ c u, c ≠ me -> H c = some u -> H3 c = some u := fun c u hc h => S3 _ _ (S2 c u hc h)
        have hH3 : HHouse H3 p o h hs outs ds := hH.tups fun c us hc => S13 _ _ (fun z => by rw [z, hm] at hc; cases hc) hc
        have pr3 : Pr H3 kv.2 c1 := pr.mono (fun c us hc => S13 _ _ (fun z => by rw [z, hm] at hc; cases hc) hc) (fun c us hc => S13 _ _ (fun z => by rw [z, hm] at hc; cases hc) hc);simp only [zm, zl, ↓reduceIte];refine ⟨_, .of t3, rfl, _, _, rfl, _, _, rfl, rfl, p, o, h, hs, outs, ds, _, rfl, hH3, hk, ?_⟩;have fin : ∀ c, c = bs[i] -> PvMn H me (.frz ob (.dK mk)) bs (i + 1) ((bs.take i).map V.bl ++ [V.bl c]) H3 := fun c e => ⟨S13, S3 _ _ h2, by rw [Zq, ei, e, Zn]; rfl⟩
        refine ⟨_, rfl, ?_⟩
        cases hko : nu outs (kV kv.1) with
        | false => exact iteF (fin _ (by rw [ec, hko]; rfl))
        | true => exact iteT ⟨_, c1, rfl, pr3, fin _ (by rw [ec, hko]; rfl)⟩
      . rintro ys H2 ⟨S2, h2, rfl⟩ l hl
        have hlm : l ≠ me := fun z => by rw [z, h2] at hl; cases hl
        refine ⟨me, ob, .dK mk, _, hm, (fun o u z => by cases z), by rw [zn (Ne.symm hlm)]; exact h2, bs, .of (by rw [zn hlm, zd, ZG (by omega)]), ?_⟩;refine q _ fun c u hc => ?_
        by_cases z : c = me
        . subst z
          rw [zd, <- hc, hm]
        . rw [zn z, zn (fun y => by rw [y] at hc; have := S2 l u hlm hc; rw [hl] at this; cases this)]
          exact S2 c u z hc
    . rw [Za] at lb
      refine ⟨_, .inr ⟨rfl, me, mk, rfl, hm⟩, true, by decide +kernel, iteF ⟨_, rfl, _, .inr (.inl ⟨_, hm, rfl⟩), rfl, ite2 (fun h => absurd (of_decide_eq_true h) (by omega)) fun h0 => ⟨_, rfl, .inr ⟨_, hm, fun ob dd => ?_⟩⟩⟩⟩;have nt : ∀ {c us}, H c = some (.tup us) -> c ≠ me := fun hc z => by rw [z, hm] at hc; cases hc
      have nl : ∀ {c us}, H c = some (.lst us) -> c ≠ me := fun hc z => by rw [z, hm] at hc; cases hc
      refine zag (PvMn H me (.frz ob (xk P w me mk)) bs) ⟨fun c u hc h => by rw [zn hc]; exact h, zd, rfl⟩ ?_ ?_ ?_
      . rintro i ys H2 hi ⟨S2, h2, rfl⟩
        exact ⟨by rw [Za, Zj]; exact Zd (show min i bs.length <= 20 by omega) (by decide), h2⟩
      . rintro i kv ys H2 T hkv hT ⟨S2, h2, rfl⟩
        have hi : i < bs.length := by have := (Zc.mp hkv).1; omega
        have ei : bs[i]? = some bs[i] := Zb hi;obtain ⟨hk, c1, pr, ec⟩ := hb i _ _ (by rw [Ze, hkv]; rfl) ei;have S3 : Same H2 (upd H2 T (.tup [onV kv.1, kv.2])) := Same.upd (Same.refl _) hT;have t3 : upd H2 T (.tup [onV kv.1, kv.2]) T = some (.tup [onV kv.1, kv.2]) := zd;generalize upd H2 T (.tup [onV kv.1, kv.2]) = H3 at *;have S13 : ∀ c u, c ≠ me -> H c = some u -> H3 c = some u := fun c u hc h => S3 _ _ (S2 c u hc h)
        have hH3 : HHouse H3 p o h hs outs ds := hH.tups fun c us hc => S13 _ _ (nt hc) hc
        have pr3 : Pr H3 kv.2 c1 := pr.mono (fun c us hc => S13 _ _ (nl hc) hc) (fun c us hc => S13 _ _ (nt hc) hc);simp only [zm, zl, ↓reduceIte];refine ⟨_, .of t3, rfl, _, _, rfl, _, _, rfl, rfl, p, o, h, hs, outs, ds, _, rfl, hH3, hk, ?_⟩;have fin : ∀ c, c = bs[i] -> PvMn H me (.frz ob (xk P w me mk)) bs (i + 1) ((bs.take i).map V.bl ++ [V.bl c]) H3 := fun c e => ⟨S13, S3 _ _ h2, by rw [Zq, ei, e, Zn]; rfl⟩
        refine ⟨_, rfl, ?_⟩
        cases hko : nu outs (onV kv.1) with
        | false => exact iteF (fin _ (by rw [ec, hko]; rfl))
        | true => exact iteT ⟨_, c1, rfl, pr3, fin _ (by rw [ec, hko]; rfl)⟩
      . rintro ys H2 ⟨S2, h2, rfl⟩ l hl
        have hlm : l ≠ me := fun z => by rw [z, h2] at hl; cases hl
        refine ⟨me, ob, xk P w me mk, _, hm, (fun o u z => by cases z), by rw [zn (Ne.symm hlm)]; exact h2, bs, .of (by rw [zn hlm, zd, ZG (by omega)]), ?_⟩;refine q _ fun c u hc => ?_
        by_cases z : c = me
        . subst z
          rw [zd, <- hc, hm]
        . rw [zn z, zn (fun y => by rw [y] at hc; have := S2 l u hlm hc; rw [hl] at this; cases this)]
          exact S2 c u z hc
end
theorem TyOf.mono {K : Fg} {H H' : Hp} {x : V} {t : Value} (S : Same H H') (h : TyOf K H x t) : TyOf K H' x t := by
  cases h with
  | non => exact .non
  | bl x => exact .bl x
  | int x => exact .int x
  | str x => exact .str x
  | flt x => exact .flt x
  | lst e => exact .lst (S _ _ e)
  | frz e => exact .frz (S _ _ e)
  | tup e => exact .tup (S _ _ e)
  | dK e => exact .dK (S _ _ e)
  | dT e => exact .dT (S _ _ e)
  | ins e cl ha hn htk hm => exact .ins (S _ _ e) cl ha hn htk hm
theorem NoDic.mono {K : Fg} {H H' : Hp} {y : V} (S : Same H H') (h : NoDic K H y) : NoDic K H' y := by
  obtain ⟨T, t1, t2⟩ := h;exact ⟨T, TyOf.mono S t1, t2⟩
theorem Bits.mono {H H' : Hp} {outs : List Str} {ps : List (V × V)} {bs : List Bool} (S : Same H H') (h : Bits H outs ps bs) : Bits H' outs ps bs := ⟨h.1, fun i kv c e1 e2 => by
  obtain ⟨h1, c1, pr, h2⟩ := h.2 i kv c e1 e2
  exact ⟨h1, c1, pr.mono (fun _ _ z => S _ _ z) (fun _ _ z => S _ _ z), h2⟩⟩
theorem MenuA.mono {P : Program} {w : World} {K : Fg} {H H' : Hp} {y : V} {outs : List Str} {b : Bool} (S : Same H H') (h : MenuA P w K H y outs b) : MenuA P w K H' y outs b := by
  rcases h with ⟨e, h⟩ | ⟨me, mk, bs, e, h1, h2, h3, h4⟩ | ⟨me, mk, bs, e, h1, h2, h0, h3, h4⟩
  . exact .inl ⟨e, h.mono S⟩
  . exact .inr (.inl ⟨me, mk, bs, e, S _ _ h1, h2, h3.mono S, h4⟩)
  . exact .inr (.inr ⟨me, mk, bs, e, S _ _ h1, h2, h0, h3.mono S, h4⟩)
theorem u7 {P : Program} {w : World} {K : Fg} {H : Hp} {me : Addr} {mk : List (Key × V)} {outs : List Str} (h : H me = some (.dK mk)) (M : MenuOk outs mk) (h0 : 0 < mk.length) (h8 : mk.length <= 20) : MenuA P w K H (.ref me) outs true := by
  refine .inr (.inl ⟨me, mk, List.replicate mk.length true, rfl, h, h8, ⟨by simp, fun i kv c e1 e2 => ?_⟩, ?_⟩)
  . rw [Ze] at e1
    cases e : mk[i]? with
    | none => rw [e] at e1; cases e1
    | some q =>
      rw [e] at e1;cases e1;obtain ⟨o, p, ho, rfl⟩ := M.all q (Zi e);rw [YA (Zi e2)];exact ⟨.inl ⟨o, rfl⟩, true, .int p, by show true = (decide (o ∈ outs) && true); rw [decide_eq_true ho]; rfl⟩
  . rw [decide_eq_true (by omega : mk.length ≠ 0)]
    simp
theorem p0 {K : Fg} {H : Hp} : NoDic K H .non := ⟨_, .non, by decide +kernel⟩
theorem zb6 {α : Type} {R : α -> Bool -> Prop} {xs : List α} (h : ∀ y ∈ xs, ∃ c, R y c) (bad : ∃ y ∈ xs, R y false) : ∃ cs : List Bool, cs.length = xs.length /\ (∀ (i : Nat) (y : α) (c : Bool), xs[i]? = some y -> cs[i]? = some c -> R y c) /\ cs.all id = false := by
  classical
  refine ⟨xs.map fun y => !decide (R y false), by simp, fun i y c e1 e2 => ?_, ?_⟩
  . rw [Ze, e1] at e2
    cases e2;obtain ⟨c, hc⟩ := h y (Zi e1)
    show R y (!decide (R y false))
    by_cases z : R y false
    . rw [decide_eq_true z]; exact z
    . rw [decide_eq_false z]
      cases c with
      | false => exact absurd hc z
      | true => exact hc
  . obtain ⟨y, hy, hf⟩ := bad
    exact List.all_eq_false.mpr ⟨false, Zp.mpr ⟨y, hy, by rw [decide_eq_true hf]; rfl⟩, by simp⟩
def MenusA (P : Program) (w : World) (K : Fg) (H : Hp) (y : V) (outs : List Str) (rs : List (List Str)) (b : Bool) : Prop :=
  (b = false /\ NoDic K H y) \/
  (b = false /\ ∃ (m : Addr) (z : Str) (v : V), y = .ref m /\ H m = some (.dK [(Sum.inr z, v)])) \/
  ∃ (m : Addr) (kvs : List (List Key × V)), y = .ref m /\ H m = some (.dT kvs) /\ ((b = false /\ kvs.length ≠ rs.length) \/ (kvs.length = rs.length /\ ∃ cs : List Bool, cs.length = rs.length /\ (∀ (i : Nat) (r : List Str) (c : Bool), rs[i]? = some r -> cs[i]? = some c -> MenuA P w K H ((valV kvs (zv r)).getD .non) outs c) /\ b = cs.all id))
theorem MenusA.mono {P : Program} {w : World} {K : Fg} {H H' : Hp} {y : V} {outs : List Str} {rs : List (List Str)} {b : Bool} (S : Same H H') (h : MenusA P w K H y outs rs b) : MenusA P w K H' y outs rs b := by
  rcases h with ⟨e, h⟩ | ⟨e, m, z, v, e1, h1⟩ | ⟨m, kvs, e1, h1, h2⟩
  . exact .inl ⟨e, h.mono S⟩
  . exact .inr (.inl ⟨e, m, z, v, e1, S _ _ h1⟩)
  . refine .inr (.inr ⟨m, kvs, e1, S _ _ h1, ?_⟩)
    rcases h2 with h2 | ⟨h2, cs, h3, h4, h5⟩
    . exact .inl h2
    . exact .inr ⟨h2, cs, h3, fun i r c e1 e2 => (h4 i r c e1 e2).mono S, h5⟩
theorem zak {P : Program} {w : World} {K : Fg} {H : Hp} {m : Addr} {kvs : List (List Key × V)} {outs : List Str} {rs : List (List Str)} (M : MenusAt H m kvs outs rs) : MenusA P w K H (.ref m) outs rs true := by
  refine .inr (.inr ⟨m, kvs, rfl, M.at', .inr ⟨M.len, List.replicate rs.length true, by simp, fun i r c e1 e2 => ?_, by simp⟩⟩);obtain ⟨me, mk, v1, v2, v3, v4, v5⟩ := M.menu r (Zi e1);rw [v1, YA (Zi e2)];exact u7 v2 v3 v4 (by omega)
def zfg (P : Program) (w : World) (K : Fg) : Sp := fun vs H Q _ => ∃ (p o h : Addr) (y : V) (hs : List Addr) (outs : List Str) (ds : List HD) (k : Nat) (b : Bool), vs = [.ref p, .int k, y] /\ HHouse H p o h hs outs ds /\ GoodHouse outs ds /\ k < ds.length /\ MenusA P w K H y outs (z0 ((ds.eraseIdx k).map HD.words)) b /\ ∀ H', Same H H' -> Q (.bl b) H'
def PvAm (H : Hp) (cs : List Bool) (i : Nat) (ys : List V) (H' : Hp) : Prop := Same H H' /\ ys = (cs.take i).map V.bl
def cq (H : Hp) (kvs : List (List Key × V)) (outs : List Str) (d : HD) (k : Nat) (row : List Str) (o' : Str) : Prop := ∀ me mk, valV kvs (zv (row.eraseIdx k)) = some (V.ref me) -> H me = some (.dK mk) -> ∃ i, zdf mk outs (ug d (row.getD k ⟨#[]⟩)) i o'
def zf9 (K : Fg) : Sp := fun vs H Q _ => ∃ (p o h m : Addr) (hs : List Addr) (outs : List Str) (ds : List HD) (k : Nat) (d : HD) (kvs : List (List Key × V)), vs = [.ref p, .int k, .ref m] /\ HHouse H p o h hs outs ds /\ GoodHouse outs ds /\ ds[k]? = some d /\ MenusAt H m kvs outs (z0 ((ds.eraseIdx k).map HD.words)) /\
  ∀ H' t f, Same H H' -> H t = none -> H' t = some (.dT (wn f (z0 (ds.map HD.words)))) -> (∀ r ∈ z0 (ds.map HD.words), cq H kvs outs d k r (f r)) -> Q (.ref t) H'
def PvMt (H0 H : Hp) (kvs : List (List Key × V)) (outs : List Str) (d : HD) (k : Nat) (rs : List (List Str)) (i : Nat) (ys : List V) (H' : Hp) : Prop := Same H H' /\ ∃ (Ts : List Addr) (f : List Str -> Str), ys = Ts.map V.ref /\ tq H' Ts (wn f (rs.take i)) /\ ∀ r ∈ rs.take i, cq H0 kvs outs d k r (f r)
theorem zcc {f : List Str -> Str} {rs : List (List Str)} {r : List Str} {z : Str} (h : r ∉ rs) : wn (fun q => if q = r then z else f q) rs = wn f rs := by
  refine YU fun q hq => ?_
  show (zv q, V.str (if q = r then z else f q)) = _
  rw [if_neg fun (e : q = r) => h (e ▸ hq)]
theorem ue {α β : Type} {g : α -> β} : ∀ {l : List α} {k : Nat}, (l.eraseIdx k).map g = (l.map g).eraseIdx k
  | [], _ => rfl
  | _ :: _, 0 => rfl
  | _ :: l, k + 1 => by simp only [YD, ZL, ue (l := l)]
theorem zfb {ds : List HD} {row : List Str} (h : row ∈ z0 (ds.map HD.words)) (k : Nat) : row.eraseIdx k ∈ z0 ((ds.eraseIdx k).map HD.words) := by
  rw [rowsP_iff] at h ⊢;rw [ue];generalize ds.map HD.words = wss at h
  by_cases hk : k < wss.length
  . refine ⟨by rw [ZM hk, ZM (by rw [h.1]; exact hk), h.1], fun j ws e => ?_⟩
    rw [Yd] at e
    split at e
    . rename_i hj
      obtain ⟨u, h1, h2⟩ := h.2 j ws e;exact ⟨u, by rw [Yd, if_pos hj]; exact h1, h2⟩
    . rename_i hj
      obtain ⟨u, h1, h2⟩ := h.2 (j + 1) ws e;exact ⟨u, by rw [Yd, if_neg hj]; exact h1, h2⟩
  . rw [List.eraseIdx_of_length_le (by rw [h.1]; omega), List.eraseIdx_of_length_le (by omega)]
    exact h
theorem zhn {ds : List HD} {row : List Str} (h : row ∈ z0 (ds.map HD.words)) : RowOf ds row := by
  have hpk := rowsP_iff.mp h;refine ⟨by rw [hpk.1, Za], fun k d z e1 e2 => ?_⟩;obtain ⟨u, h1, h2⟩ := hpk.2 k d.words (by rw [Ze, e1]; rfl);rw [e2] at h1;cases h1;exact h2
def ah (a : Ad) (P : Program) (w : World) (K : Fg) : Sp := fun vs H Q E => (∃ (p o h : Addr) (y : V) (hs : List Addr) (outs : List Str) (ds : List HD) (k : Nat), vs = [.ref p, .int k, y] /\ HHouse H p o h hs outs ds /\ GoodHouse outs ds /\ k < ds.length /\ MenusA P w K H y outs (z0 ((ds.eraseIdx k).map HD.words)) false /\ ∀ H', Same H H' -> E (.ref a.NoMenu) none H') \/ zf9 K vs H Q E
section
variable {P : Program} {w : World} {K : Fg} {mg : Str -> Option Value} {base : Heap} {a : Ad}
theorem su (B : Bt mg) (o6 : FnAt P w K mg base "others_of" 3 ["house", "k"] (ij K)) (l5 : FnAt P w K mg base "is_menu" 3 ["house", "thing"] (jv P w K)) (D : zj K mg "are_menus" rg ["house", "k", "thing"]) : FnAt P w K mg base "are_menus" 4 ["house", "k", "thing"] (zfg P w K) := by
  refine FnAt.of D sc_are_menus (fun vs H Q E h => ?_) (fun f cdv A outer s H vs Q E hr h => ?_)
  . obtain ⟨p, o, h, y, hs, outs, ds, k, b, rfl, _⟩ := h
    rfl
  . obtain ⟨p, o, h, y, hs, outs, ds, k, b, rfl, hH, G, hk, MM, q⟩ := h
    refine ⟨_, (@zk _ _ _ _ _ (zz (i := 3) sc_are_menus.nd rfl (Or.inl rfl) (zp o6 (hr.mono (by decide)) rfl (za (pv 0) (za (pv 1) (@zb _))))) (@zk _ _ _ _ _ (@yl _ _ _ _ _ _ _ _ (PW.pt (@qh _ _ _ _ _ _ _ (@xv _ _ _ _ (wf (zq yt rfl B.isinstance yd (za (pv 2) (za (w6 rfl B.dict nv) (@zb _)))))) (@u5 _ _ _ _ (@ye _ _ _ _ _ _ _ _ cp (zq e7 rfl B.len yp (za (pv 2) (@zb _))) (zq yb rfl B.len yp (za (pv 3) (@zb _))) (yf _))))) (@zi _ _ _ (@zt _ _ _ _ (@wa _ _ _ _))) (@yc _)) (@zi _ _ _ (@zt _ _ _ _ (zq (vh rfl) rfl B.all qt (za (yx ["others"] ["house", "k", "thing", "rows"] rfl (@yz _ _ _ _ (pv 3)) (fun _ => (ya (i := 0) (show (["others", "house", "k", "thing", "rows"] : List Str).Nodup by decide +kernel) rfl (Or.inl rfl))) (fun _ => (@yy _)) (fun _ => (zp l5 (hr.mono (by decide)) rfl (za (pv 1) (za (zge (hu10 hr) (pv 3) (pv 0) ⟨rfl, rfl, rfl, rfl⟩) (@zb _))))) rfl (by decide +kernel) rfl rfl) (@zb _))))))), ?_⟩;rw [show start ["house", "k", "thing", "rows"] [V.ref p, V.int k, y] = [some (V.ref p), some (V.int k), some y, none] from rfl];simp only [zm, zl, ↓reduceIte];have h4 := G.hands.2;have h8 : ∀ d ∈ ds, d.words.length <= 8 := fun d hd => (G.words1 d hd).2
    have few := tz (wss := (ds.eraseIdx k).map HD.words) (by rw [Za, ZM hk]; omega) (fun ws hws => by
      obtain ⟨d, hd, rfl⟩ := Zp.mp hws
      exact h8 d (ZN hd)) _ (Zm _)
    rw [Zt] at few;refine ⟨p, o, h, hs, outs, ds, k, rfl, hH.k, hk, h4, h8, fun H1 rl as S1 _ R1 => ?_⟩;have M1 := MM.mono S1;generalize z0 ((ds.eraseIdx k).map HD.words) = rs at *;have lr : (as.map V.ref).length = rs.length := by rw [Za, R1.tups.len]
    show ∃ x, _
    by_cases nd : b = false /\ NoDic K H1 y
    . obtain ⟨hb, T, t1, t2⟩ := nd
      rw [hb] at q;exact ⟨_, t1, false, t2, iteT (q _ S1)⟩
    have alt : ∃ (m : Addr) (n : Nat), y = .ref m /\ TyOf K H1 (.ref m) (.type "dict") /\ IsD H1 m /\ AnyD P w H1 m n /\ ((b = false /\ n ≠ rs.length) \/ (n = rs.length /\ ∃ cs : List Bool, cs.length = rs.length /\ b = cs.all id /\ ∀ (i : Nat) (c : Addr) (r : List Str) (e : Bool) (H2 : Hp), Same H1 H2 -> rs[i]? = some r -> cs[i]? = some e -> H2 c = some (.tup (r.map V.str)) -> ∀ R : V -> Hp -> Prop, (∀ y, MenuA P w K H2 y outs e -> R y H2) -> (∃ o, DGet H2 m (.ref c) o /\ R (o.getD .non) H2) \/ ((∃ z v, H2 m = some (.dK [(Sum.inr z, v)])) /\ (∃ k : List Key, H2 c = some (.tup (k.map kV))) /\ R .non H2))) := by
      rcases M1 with h | ⟨hb, m, z, v, rfl, h1⟩ | ⟨m, kvs, rfl, h1, hx⟩
      . exact absurd h nd
      . refine ⟨m, 1, rfl, .dK h1, .inl ⟨_, .inl h1⟩, .inl ⟨_, h1, rfl⟩, ?_⟩
        by_cases e : 1 = rs.length
        . refine .inr ⟨e, [false], e, by rw [hb]; rfl, fun i c r e' H2 S2 e1 e2 hc R hR => .inr ⟨⟨z, v, S2 _ _ h1⟩, ⟨zv r, by rw [wy]; exact hc⟩, hR _ ?_⟩⟩
          have : e' = false := ZC.mp (Zi e2);rw [this];exact .inl ⟨rfl, p0⟩
        . exact .inl ⟨hb, e⟩
      . refine ⟨m, kvs.length, rfl, .dT h1, .inr ⟨_, .inl h1⟩, .inr (.inr ⟨_, h1, rfl⟩), ?_⟩
        rcases hx with hx | ⟨h2, cs, h3, h5, h6⟩
        . exact .inl hx
        . exact .inr ⟨h2, cs, h3, h6, fun i c r e H2 S2 e1 e2 hc R hR => .inl ⟨_, DGet.t (k := zv r) (S2 _ _ h1) (by rw [wy]; exact hc), hR _ ((h5 i r e e1 e2).mono S2)⟩⟩
    obtain ⟨m, n, rfl, ty, isd, anyd, alt⟩ := alt;refine ⟨_, ty, true, by decide +kernel, iteF ⟨m, rfl, n, anyd, rl, rfl, _, .inl (.of R1.lst), rfl, ?_⟩⟩;rw [lr]
    rcases alt with ⟨rfl, hn⟩ | ⟨hn, cs, lc, rfl, get⟩
    . rw [decide_eq_false (fun z => hn (by omega))]
      exact iteT (q _ S1)
    rw [decide_eq_true (by omega)];refine iteF ⟨rl, rfl, ⟨_, .of R1.lst⟩, fun dd => ?_⟩;refine xm (xs := as.map V.ref) (PvAm H1 cs) ⟨Same.refl _, rfl⟩ ?_ ?_ ?_
    . rintro i ys H2 hi ⟨S2, rfl⟩
      exact ⟨by rw [Za, Zj]; exact Zd (show min i cs.length <= 4096 by omega) (by decide), .of (S2 _ _ R1.lst)⟩
    . rintro i x ys H2 hx ⟨S2, rfl⟩
      obtain ⟨c, hcx, rfl⟩ := yq hx;have hi : i < rs.length := by have := (Zc.mp hcx).1; have := R1.tups.len; omega
      have er : rs[i]? = some rs[i] := Zb hi;have ec : cs[i]? = some (cs[i]'(by omega)) := Zb _;have hrow := S2 _ _ (R1.tups.at' i c _ hcx er)
      have isd2 : IsD H2 m := by
        rcases isd with ⟨k1, h | ⟨o1, h⟩⟩ | ⟨k1, h | ⟨o1, h⟩⟩
        . exact .inl ⟨k1, .inl (S2 _ _ h)⟩
        . exact .inl ⟨k1, .inr ⟨o1, S2 _ _ h⟩⟩
        . exact .inr ⟨k1, .inl (S2 _ _ h)⟩
        . exact .inr ⟨k1, .inr ⟨o1, S2 _ _ h⟩⟩
      simp only [zm, zl, ↓reduceIte];refine ⟨isd2, ?_⟩;refine get i c _ _ H2 S2 er ec hrow (fun y H2 => jv P w K [V.ref p, y] H2 (fun v H4 => PvAm H1 cs (i + 1) (List.map V.bl (List.take i cs) ++ [v]) H4) E0) fun y hy => ⟨p, o, h, y, hs, outs, ds, _, rfl, hH.mono (S1.trans S2), hy, fun H3 S3 => ⟨S2.trans S3, ?_⟩⟩
      rw [Zq, ec, Zn];rfl
    . rintro ys H2 ⟨S2, rfl⟩ l hl
      rw [lr, <- lc, Zt];exact ⟨_, .of zd, q _ (S1.trans (S2.trans (Same.upd (Same.refl _) hl)))⟩
theorem qe (B : Bt mg) (C : Ct K mg a) (su : FnAt P w K mg base "are_menus" 4 ["house", "k", "thing"] (zfg P w K)) (ow : FnAt P w K mg base "rows_of" 3 ["house"] (a9 K)) (uk : FnAt P w K mg base "without" 1 ["things", "k"] (ka K)) (ge : FnAt P w K mg base "pick" 3 ["house", "k", "menu", "word"] (zc9 K)) (D : zj K mg "menus_table" ub ["house", "k", "menus"]) : FnAtX P w K mg base "menus_table" 5 ["house", "k", "menus"] (ah a P w K) := by
  refine FnAtX.of D ff (fun vs H Q E h => ?_) (fun fa cdv A outer s H vs Q E hr h => ?_)
  . rcases h with ⟨p, o, h, y, hs, outs, ds, k, rfl, _⟩ | ⟨p, o, h, m, hs, outs, ds, k, d, kvs, rfl, _⟩ <;> rfl
  . rcases h with ⟨p, o, h, y, hs, outs, ds, k, rfl, hH, G, hk, MM, q⟩ | ⟨p, o, h, m, hs, outs, ds, k, d, kvs, rfl, hH, G, hd, MM, q⟩
    . refine ⟨_, (@zk _ _ _ _ _ (@yl _ _ _ _ _ _ _ _ (@xv _ _ _ _ (wf (zp su (hr.mono (by decide)) rfl (za (pv 0) (za (pv 1) (za (pv 2) (@zb _))))))) (@zi _ _ _ (my rfl C.q_NoMenu.toErr rfl C.m_NoMenu (sk rfl) (za (@wm _ _ _ _) (@zb _)))) (@yc _)) (@zi _ _ _ (PS.nox (@zt _ _ _ _ (yu (gh rfl (hu11 hr)) rfl B.dict nv (za (yx ["row"] ["house", "k", "menus"] rfl (@yz _ _ _ _ (zp ow (hr.mono (by decide)) rfl (za (pv 0) (@zb _)))) (fun _ => (ya (i := 0) (show (["row", "house", "k", "menus"] : List Str).Nodup by decide +kernel) rfl (Or.inl rfl))) (fun _ => (@yy _)) (fun _ => (@xc _ _ _ _ _ (za (pv 0) (za (zp ge (hr.mono (by decide)) rfl (za (pv 1) (za (pv 2) (za (@uh _ _ _ _ _ _ (hu10 hr) (pv 3) (zp uk (hr.mono (by decide)) rfl (za (pv 0) (za (pv 2) (@zb _)))) (fun _ _ => rfl)) (za (@yi _ _ _ _ _ _ _ xf (pv 0) (pv 2) (fun _ _ => rfl)) (@zb _)))))) (@zb _))))) rfl (by decide +kernel) rfl rfl) (@zb _))))))), ?_⟩
      rw [show start ["house", "k", "menus"] [V.ref p, V.int k, y] = [some (V.ref p), some (V.int k), some y] from rfl];refine hide1 fun T hT => ?_
      simp only [zm, zl, ↓reduceIte];exact ⟨p, o, h, y, hs, outs, ds, k, false, rfl, hH, G, hk, MM, fun H1 S1 => ⟨false, rfl, iteT ⟨by decide, q H1 S1⟩⟩⟩
    refine ⟨_, (@zk _ _ _ _ _ (@yl _ _ _ _ _ _ _ _ (@xv _ _ _ _ (wf (zp su (hr.mono (by decide)) rfl (za (pv 0) (za (pv 1) (za (pv 2) (@zb _))))))) (@zi _ _ _ (my rfl C.q_NoMenu.toErr rfl C.m_NoMenu (sk rfl) (za (@wm _ _ _ _) (@zb _)))) (@yc _)) (@zi _ _ _ (PS.nox (@zt _ _ _ _ (yu (gh rfl (hu11 hr)) rfl B.dict nv (za (yx ["row"] ["house", "k", "menus"] rfl (@yz _ _ _ _ (zp ow (hr.mono (by decide)) rfl (za (pv 0) (@zb _)))) (fun _ => (ya (i := 0) (show (["row", "house", "k", "menus"] : List Str).Nodup by decide +kernel) rfl (Or.inl rfl))) (fun _ => (@yy _)) (fun _ => (@xc _ _ _ _ _ (za (pv 0) (za (zp ge (hr.mono (by decide)) rfl (za (pv 1) (za (pv 2) (za (@uh _ _ _ _ _ _ (hu10 hr) (pv 3) (zp uk (hr.mono (by decide)) rfl (za (pv 0) (za (pv 2) (@zb _)))) (fun _ _ => rfl)) (za (@yi _ _ _ _ _ _ _ xf (pv 0) (pv 2) (fun _ _ => rfl)) (@zb _)))))) (@zb _))))) rfl (by decide +kernel) rfl rfl) (@zb _))))))), ?_⟩;rw [show start ["house", "k", "menus"] [V.ref p, V.int k, V.ref m] = [some (V.ref p), some (V.int k), some (V.ref m)] from rfl];simp only [zm, zl, ↓reduceIte];have hk : k < ds.length := (Zc.mp hd).1;have h4 := G.hands.2;have h8 : ∀ d ∈ ds, d.words.length <= 8 := fun d hd => (G.words1 d hd).2
    have few := tz (wss := ds.map HD.words) (by rw [Za]; exact h4) (fun ws hws => by
      obtain ⟨d, hd, rfl⟩ := Zp.mp hws
      exact h8 d hd) _ (Zm _)
    rw [Zt] at few
    have nd : (z0 (ds.map HD.words)).Nodup := nj fun vs hvs => by
      obtain ⟨d, hd, rfl⟩ := Zp.mp hvs;exact G.wordsD d hd
    refine ⟨p, o, h, _, hs, outs, ds, k, true, rfl, hH, G, hk, zak MM, fun H1 S1 => ⟨true, rfl, iteF ?_⟩⟩;refine ⟨p, o, h, hs, outs, ds, rfl, (hH.mono S1).k, h4, h8, fun H2 rl as S2 _ R2 => ⟨rl, rfl, ⟨_, .of R2.lst⟩, fun dd => ?_⟩⟩;have S12 := S1.trans S2;generalize hrs : z0 (ds.map HD.words) = rs at *;refine xm (xs := as.map V.ref) (PvMt H H2 kvs outs d k rs) ⟨Same.refl _, [], fun _ => ⟨#[]⟩, rfl, ⟨rfl, fun i T kv e => by simp at e⟩, fun r hr => by cases hr⟩ ?_ ?_ ?_
    . rintro i ys H3 hi ⟨S3, Ts, f, rfl, hP, hB⟩
      refine ⟨?_, .of (S3 _ _ R2.lst)⟩;rw [Za, hP.len, wn, Za, Zj];exact Zd (ZB _ _) (Zd few (by decide))
    . rintro i x ys H3 hx ⟨S3, Ts, f, rfl, hP, hB⟩
      obtain ⟨c, hcx, rfl⟩ := yq hx;have hi : i < rs.length := by have := (Zc.mp hcx).1; have := R2.tups.len; omega
      have er : rs[i]? = some rs[i] := Zb hi;have hrow := S3 _ _ (R2.tups.at' i c _ hcx er);have hm : rs[i] ∈ rs := Zl hi
      have hri : rs[i] ∉ rs.take i := fun z => by
        obtain ⟨j, hj⟩ := ZV z;have lj := (Zc.mp hj).1;rw [Zj] at lj;rw [Ym (by omega)] at hj;have e1 := (Zc.mp hj).2;exact Yk.mp nd j i (by omega) hi (by omega) e1
      generalize rs[i] = r at er hrow hm hri;rw [<- hrs] at hm;have RO := zhn hm;obtain ⟨z, hz⟩ : ∃ z, r[k]? = some z := ⟨r[k]'(by rw [RO.1]; exact hk), by simp⟩;have hzm := RO.2 k d z hd hz;have ez : r.getD k ⟨#[]⟩ = z := by rw [Zk, hz]; rfl
      have hot := zfb hm k;have S13 := S12.trans S3;simp only [zm, zl, ↓reduceIte];refine ⟨c, r.map V.str, k, rfl, .of hrow, by rw [Za, RO.1]; exact hk, by rw [Za, RO.1]; omega, fun H4 p4 S4 h4' => ?_⟩;rw [<- ue] at h4';have S14 := S13.trans S4;obtain ⟨me, mk, v1, v2, v3, v4, v5⟩ := MM.menu _ hot;have gt := DGet.t (k := zv (r.eraseIdx k)) (S14 _ _ MM.at') (b := p4) (by rw [wy]; exact h4');rw [v1] at gt;refine ⟨_, gt, _, .of (S4 _ _ hrow), _, zx (v := V.str z) (by rw [Ze, hz]; rfl), p, o, h, me, hs, outs, ds, k, d, z, mk, rfl, hH.mono S14, G, hd, hzm, S14 _ _ v2, v3, v4, fun H5 bi o' S5 hBest => ⟨by decide, fun T hT => ?_⟩⟩;have S6 : Same H5 (upd H5 T (.tup [V.ref c, V.str o'])) := Same.upd (Same.refl _) hT;have S36 := S4.trans (S5.trans S6);refine ⟨S3.trans S36, Ts ++ [T], fun q => if q = r then o' else f q, by simp, ?_, fun r' hr' => ?_⟩
      . rw [Zq, er]
        show tq _ _ (wn _ (rs.take i ++ [r]))
        have e1 := zcc (f := f) (z := o') hri;rw [wn, Zn];rw [wn] at e1;rw [e1];refine zan (jt S36 hP) (b := c) ?_ (by rw [wy]; exact S36 _ _ hrow)
        show upd H5 T _ T = some (.tup [.ref c, V.str (if r = r then o' else f r)])
        rw [if_pos rfl];exact zd
      . rw [Zq, er] at hr'
        show cq H kvs outs d k r' (if r' = r then o' else f r')
        by_cases e : r' = r
        . rw [if_pos e, e]
          intro me' mk' u1 u2;rw [v1] at u1;cases u1;rw [v2] at u2;cases u2;rw [ez];exact ⟨bi, hBest⟩
        . rw [if_neg e]
          rcases ZH.mp hr' with y | y
          . exact hB r' y
          . exact absurd (ZC.mp y) e
    . rintro ys H3 ⟨S3, Ts, f, rfl, hP, hB⟩ l hl
      rw [Za, R2.tups.len, Zt] at hP hB;have S4 : Same H3 (upd H3 l (.lst (Ts.map V.ref))) := Same.upd (Same.refl _) hl;refine ⟨Ts, zd, _, jt S4 hP, fun t ht => ?_⟩;rw [zde (zff nd)];exact q _ t f (S12.trans (S3.trans (S4.trans (Same.upd (Same.refl _) ht)))) ((S12.trans (S3.trans S4)).free ht) zd hB
end
theorem MenuOk.put {outs : List Str} {mk : List (Key × V)} (M : MenuOk outs mk) {o : Str} {p : Int} (ho : o ∈ outs) (h : mk.length < 64) : MenuOk outs (putK mk (Sum.inr o) (V.int p)) := by
  refine ⟨fun kv hkv => ?_, ?_, Zd (x5 _ _ _) h⟩
  . unfold putK at hkv
    split at hkv
    . obtain ⟨x, hx, e⟩ := Zp.mp hkv
      split at e
      . rename_i h2
        exact ⟨o, p, ho, by rw [<- e, h2]⟩
      . rw [<- e]; exact M.all x hx
    . rcases ZH.mp hkv with h1 | h1
      . exact M.all kv h1
      . exact ⟨o, p, ho, ZC.mp h1⟩
  . cases e : valV mk (Sum.inr o) with
    | none => exact zgx _ M.nd e
    | some v =>
      unfold putK;rw [w4, e];simp only [Option.isSome_some, ↓reduceIte, Yz]
      have : ((fun x : Key × V => x.1) ∘ fun kv : Key × V => if kv.1 = Sum.inr o then (kv.1, V.int p) else kv) = fun x => x.1 := by
        funext x
        simp only [Function.comp]
        split <;> rfl
      rw [this];exact M.nd
theorem zgr {κ : Type} [DecidableEq κ] (kvs : List (κ × V)) (k : κ) (v : V) : 0 < (putK kvs k v).length := by
  unfold putK
  split
  . rename_i h
    cases kvs with
    | nil => simp at h
    | cons x r => simp
  . simp
def bg (c x : Int) : Int := if c % 4 = 0 then x - c / 4 % 3 * (if decide (0 < x) = true then 1 else 0) else if c % 4 = 1 then c / 4 % 10 ^ Int.toNat 18 - 5 * 10 ^ Int.toNat 17 else if c % 4 = 2 then c / 4 % 10 ^ Int.toNat 57 - 5 * 10 ^ Int.toNat 56 else c / 4 % 19 - 9
def c8 : Sp := fun vs H Q _ => ∃ c x : Int, vs = [.int c, .int x] /\ Q (.int (bg c x)) H
def xw (ns : List Int) (outs : List Str) (ws : List Int) (j : Nat) : Nat -> List (Key × V)
  | 0 => []
  | i + 1 => if pi ns (300 + j * outs.length + i) % 7 < 4 \/ i = 0 then putK (xw ns outs ws j i) (Sum.inr (outs.getD ((i + j) % outs.length) ⟨#[]⟩)) (V.int (bg (pi ns (300 + j * outs.length + i) / 7) (ws.getD ((i + j) % outs.length) 0))) else xw ns outs ws j i
theorem j1 {ns : List Int} {outs : List Str} {ws : List Int} {j : Nat} (h1 : 1 <= outs.length) (h8 : outs.length <= 8) : ∀ i, i <= 8 -> MenuOk outs (xw ns outs ws j i) /\ (xw ns outs ws j i).length <= i /\ (0 < i -> 0 < (xw ns outs ws j i).length)
  | 0, _ => ⟨⟨fun kv h => (nomatch h), YB, ZE _⟩, Zm _, fun h => absurd h (ZJ _)⟩
  | i + 1, hi => by
    obtain ⟨M, hl, hp⟩ := j1 (ns := ns) (ws := ws) (j := j) h1 h8 i (by omega);have hm : (i + j) % outs.length < outs.length := Nat.mod_lt _ h1;rw [xw]
    split
    . refine ⟨M.put ?_ (by omega), Zd (x5 _ _ _) (by omega), fun _ => zgr _ _ _⟩
      rw [Zk, Zb hm];exact Zl hm
    . rename_i h
      exact ⟨M, by omega, fun _ => hp (by omega)⟩
def ordA (ns : List Int) (rs : List (List Str)) : List (List Str) := if (zr ns 4 / 5 % (rs.length : Int)).toNat % 2 = 0 then rs.drop (zr ns 4 / 5 % (rs.length : Int)).toNat ++ rs.take (zr ns 4 / 5 % (rs.length : Int)).toNat else (rs.drop (zr ns 4 / 5 % (rs.length : Int)).toNat ++ rs.take (zr ns 4 / 5 % (rs.length : Int)).toNat).reverse
theorem dm (ns : List Int) (rs : List (List Str)) : (ordA ns rs).Perm rs := by
  have h : (rs.drop (zr ns 4 / 5 % (rs.length : Int)).toNat ++ rs.take (zr ns 4 / 5 % (rs.length : Int)).toNat).Perm rs := by
    refine List.perm_append_comm.trans ?_;rw [List.take_append_drop]
  unfold ordA
  split
  . exact h
  . exact (List.reverse_perm _).trans h
theorem ma : ∀ {l : List Nat}, (∀ x ∈ l, 1 <= x) -> 0 < l.prod
  | [], _ => Nat.one_pos
  | x :: l, h => by
    rw [List.prod_cons];exact Nat.mul_pos (h x ZA) (ma fun y hy => h y (Zv _ hy))
def yg (R : List (List Str)) (ms : List Addr) : List (List Key × V) := List.zipWith (fun r c => (zv r, V.ref c)) R ms
theorem vz : ∀ {R : List (List Str)} {ms : List Addr}, ms.length = R.length -> (yg R ms).map (·.1) = R.map zv
  | [], [], _ => rfl
  | [], _ :: _, h => by cases h
  | _ :: _, [], h => by cases h
  | r :: R, c :: ms, h => by
    show zv r :: (yg R ms).map (·.1) = zv r :: R.map zv
    rw [vz (by simpa using h)]
theorem gd {R : List (List Str)} {ms : List Addr} {j : Nat} {r : List Str} {c : Addr} (hl : ms.length = R.length) (hn : R.Nodup) (h1 : R[j]? = some r) (h2 : ms[j]? = some c) : valV (yg R ms) (zv r) = some (V.ref c) := by
  refine zbn (by rw [vz hl]; exact Yg.mpr (List.Pairwise.imp (fun {a b} hab e => hab (xr e)) hn)) ?_;refine Zi (i := j) ?_;rw [yg, List.getElem?_zipWith, h1, h2]
theorem zc8 {R : List (List Str)} {ms : List Addr} {r : List Str} {c : Addr} (hl : ms.length = R.length) (h : r ∉ R) : putK (yg R ms) (zv r) (V.ref c) = yg (R ++ [r]) (ms ++ [c]) := by
  have no : valV (yg R ms) (zv r) = none := by
    cases e : valV (yg R ms) (zv r) with
    | none => rfl
    | some v =>
      exfalso
      have := ku e;rw [vz hl] at this;obtain ⟨q, hq, eq⟩ := Zp.mp this;exact h (xr eq ▸ hq)
  rw [m7 _ no, yg, yg, List.zipWith_append hl.symm];rfl
structure NewMenus (H H' : Hp) (m : Addr) (ms : List Addr) (R : List (List Str)) (f : Nat -> List (Key × V)) : Prop where
  same : Same H H'
  nm : H m = none
  at' : H' m = some (.dT (yg R ms))
  len : ms.length = R.length
  new : ∀ c ∈ ms, H c = none
  ne : m ∉ ms
  menu : ∀ (j : Nat) (c : Addr), ms[j]? = some c -> H' c = some (.dK (f j))
def wsA (d : HD) (j : Nat) : List Int := d.worths.getD (j % d.words.length) []
def zbb (K : Fg) : Sp := fun vs H Q _ => ∃ (a o b : Addr) (ns : List Int) (outs : List Str) (xs : List HX) (ds : List HD) (k : Nat) (d : HD), vs = [.ref a, .ref o, .ref b, .int k] /\ SqL K H a (ns.map V.int) /\ H o = some (.lst (outs.map V.str)) /\ HandsL H b xs ds /\ GoodHouse outs ds /\ ds[k]? = some d /\
  ∀ H' m ms, NewMenus H H' m ms (ordA ns (z0 ((ds.eraseIdx k).map HD.words))) (fun j => xw ns outs (wsA d j) j outs.length) -> Q (.ref m) H'
theorem TupsAt.reverse {H : Hp} {as : List Addr} {rs : List (List Str)} (h : TupsAt H as rs) : TupsAt H as.reverse rs.reverse := by
  refine ⟨by simp [h.len], fun i a r e1 e2 => ?_⟩;have hi : i < as.length := by have := (Zc.mp e1).1; rw [List.length_reverse] at this; exact this
  rw [List.getElem?_reverse hi] at e1;rw [List.getElem?_reverse (by rw [<- h.len]; exact hi), <- h.len] at e2;exact h.at' _ a r e1 e2
theorem TupsAt.drop {H : Hp} {as : List Addr} {rs : List (List Str)} (n : Nat) (h : TupsAt H as rs) : TupsAt H (as.drop n) (rs.drop n) :=
  ⟨by simp [h.len], fun i a r e1 e2 => by
    rw [YY] at e1 e2
    exact h.at' _ a r e1 e2⟩
theorem TupsAt.take {H : Hp} {as : List Addr} {rs : List (List Str)} (n : Nat) (h : TupsAt H as rs) : TupsAt H (as.take n) (rs.take n) :=
  ⟨by simp [h.len], fun i a r e1 e2 => by
    have hi := (Zc.mp e1).1;rw [Zj] at hi;rw [Ym (by omega)] at e1 e2
    exact h.at' _ a r e1 e2⟩
def PvMj (a o b m rl lp : Addr) (k sp : Nat) (as : List Addr) (R : List (List Str)) (f : Nat -> List (Key × V)) (H : Hp) (j : Nat) (σ : L2.St) (H' : Hp) : Prop := ∃ (ms : List Addr) (v8 v9 v10 v11 v12 v13 : Option V), NewMenus H H' m ms (R.take j) f /\ H' lp = some (.lst (as.map V.ref)) /\ TupsAt H' as R /\ σ = [some (.ref a), some (.ref o), some (.ref b), some (.int k), some (.ref m), some (.int j), some (.ref rl), some (.int sp), v8, v9, v10, v11, v12, v13]
def PvMi (a o b m rl c mn wr : Addr) (k sp j : Nat) (f : Nat -> List (Key × V)) (H : Hp) (i : Nat) (σ : L2.St) (H' : Hp) : Prop := ∃ (v11 v12 v13 : Option V), Same H H' /\ H' mn = some (.dK (f i)) /\ σ = [some (.ref a), some (.ref o), some (.ref b), some (.int k), some (.ref m), some (.int j), some (.ref rl), some (.int sp), some (.ref c), some (.ref mn), some (.ref wr), v11, v12, v13]
section
variable {P : Program} {w : World} {K : Fg} {mg : Str -> Option Value} {base : Heap} {a : Ad}
theorem ng (B : Bt mg) (D : zj K mg "_law_price" sr ["cell", "worth"]) : FnAt P w K mg base "_law_price" 1 ["cell", "worth"] c8 := by
  refine FnAt.of D aw (fun vs H Q E h => ?_) (fun f cdv A outer s H vs Q E hr h => ?_)
  . obtain ⟨c, x, rfl, _⟩ := h
    rfl
  . obtain ⟨c, x, rfl, q⟩ := h
    refine ⟨_, (@zk _ _ _ _ _ (@yl _ _ _ _ _ _ _ _ (@ye _ _ _ _ _ _ _ _ xy (@zg _ _ _ _ _ _ _ _ z8 (pv 0) (@zc _ _ _ _)) (@zc _ _ _ _) (yf _)) (@zi _ _ _ (@zt _ _ _ _ (@zg _ _ _ _ _ _ _ _ ww (pv 1) (@zg _ _ _ _ _ _ _ _ wj (@zg _ _ _ _ _ _ _ _ z8 (@zg _ _ _ _ _ _ _ _ yh (pv 0) (@zc _ _ _ _)) (@zc _ _ _ _)) (yu zeu rfl B.int bd (za (@se _ _ _ _ _ _ _ _ op_gt (pv 1) (@zc _ _ _ _) (yf _)) (@zb _))))))) (@yc _)) (@zk _ _ _ _ _ (@yl _ _ _ _ _ _ _ _ (@ye _ _ _ _ _ _ _ _ xy (@zg _ _ _ _ _ _ _ _ z8 (pv 0) (@zc _ _ _ _)) (@zc _ _ _ _) (yf _)) (@zi _ _ _ (@zt _ _ _ _ (@zg _ _ _ _ _ _ _ _ ww (@zg _ _ _ _ _ _ _ _ z8 (@zg _ _ _ _ _ _ _ _ yh (pv 0) (@zc _ _ _ _)) (@zg _ _ _ _ _ _ _ _ vo (@zc _ _ _ _) (@zc _ _ _ _))) (@zg _ _ _ _ _ _ _ _ wj (@zc _ _ _ _) (@zg _ _ _ _ _ _ _ _ vo (@zc _ _ _ _) (@zc _ _ _ _)))))) (@yc _)) (@zk _ _ _ _ _ (@yl _ _ _ _ _ _ _ _ (@ye _ _ _ _ _ _ _ _ xy (@zg _ _ _ _ _ _ _ _ z8 (pv 0) (@zc _ _ _ _)) (@zc _ _ _ _) (yf _)) (@zi _ _ _ (@zt _ _ _ _ (@zg _ _ _ _ _ _ _ _ ww (@zg _ _ _ _ _ _ _ _ z8 (@zg _ _ _ _ _ _ _ _ yh (pv 0) (@zc _ _ _ _)) (@zg _ _ _ _ _ _ _ _ vo (@zc _ _ _ _) (@zc _ _ _ _))) (@zg _ _ _ _ _ _ _ _ wj (@zc _ _ _ _) (@zg _ _ _ _ _ _ _ _ vo (@zc _ _ _ _) (@zc _ _ _ _)))))) (@yc _)) (@zi _ _ _ (@zt _ _ _ _ (@zg _ _ _ _ _ _ _ _ ww (@zg _ _ _ _ _ _ _ _ z8 (@zg _ _ _ _ _ _ _ _ yh (pv 0) (@zc _ _ _ _)) (@zc _ _ _ _)) (@zc _ _ _ _))))))), ?_⟩;rw [show start ["cell", "worth"] [V.int c, V.int x] = [some (V.int c), some (V.int x)] from rfl];simp only [zm, zl, ↓reduceIte];unfold bg at q;refine ⟨by decide, rfl, ite2 (fun h => ?_) (fun h => ?_)⟩
    . rw [if_pos (of_decide_eq_true h)] at q
      refine ⟨⟨by decide, by decide⟩, by decide, .inr ⟨?_, q⟩⟩;have h3 := yn (c / 4) (show (0 : Int) < 3 by decide)
      by_cases hx : decide (0 < x) = true
      . rw [if_pos hx]
        exact .inr ⟨by omega, by omega⟩
      . rw [if_neg hx]
        exact .inr ⟨by omega, by omega⟩
    . rw [if_neg (fun z => h (decide_eq_true z))] at q
      refine ⟨by decide, rfl, ite2 (fun h => ?_) (fun h => ?_)⟩
      . rw [if_pos (of_decide_eq_true h)] at q
        exact ⟨⟨by decide, by decide⟩, ⟨by decide, by decide, by decide⟩, by decide, ⟨by decide, by decide, by decide⟩, .inl ⟨by decide, by decide⟩, q⟩
      . rw [if_neg (fun z => h (decide_eq_true z))] at q
        refine ⟨by decide, rfl, ite2 (fun h => ?_) (fun h => ?_)⟩
        . rw [if_pos (of_decide_eq_true h)] at q
          exact ⟨⟨by decide, by decide⟩, ⟨by decide, by decide, by decide⟩, by decide, ⟨by decide, by decide, by decide⟩, .inl ⟨by decide, by decide⟩, q⟩
        . rw [if_neg (fun z => h (decide_eq_true z))] at q
          exact ⟨⟨by decide, by decide⟩, by decide, q⟩
theorem rh (B : Bt mg) (yo : FnAt P w K mg base "_law_cell_at" 1 ["script", "k"] (qu K)) (v0 : FnAt P w K mg base "_law_drawn" 2 ["script", "k"] (fr K)) (uq : FnAt P w K mg base "_law_rows" 1 ["hands"] k8) (ng : FnAt P w K mg base "_law_price" 1 ["cell", "worth"] c8) (D : zj K mg "_law_menus" rj ["script", "outcomes", "hands", "k"]) : FnAt P w K mg base "_law_menus" 3 ["script", "outcomes", "hands", "k"] (zbb K) := by
  refine FnAt.of D sc_law_menus (fun vs H Q E h => ?_) (fun f cdv A outer s H vs Q E hr h => ?_)
  . obtain ⟨a, o, b, ns, outs, xs, ds, k, d, rfl, _⟩ := h
    rfl
  . obtain ⟨a, o, b, ns, outs, xs, ds, k, d, rfl, hS, ho, hH, G, hd, q⟩ := h
    refine ⟨_, (@zk _ _ _ _ _ (zz (i := 4) sc_law_menus.nd rfl (Or.inl rfl) (@zfz _ _)) (@zk _ _ _ _ _ (zz (i := 5) sc_law_menus.nd rfl (Or.inl rfl) (@zc _ _ _ _)) (@zk _ _ _ _ _ (zz (i := 6) sc_law_menus.nd rfl (Or.inl rfl) (zp uq (hr.mono (by decide)) rfl (za (@zg _ _ _ _ _ _ _ _ bo (@sg _ _ _ _ _ _ _ _ _ _ k7 (pv 2) (@qr _) (@tw _ _ _ (pv 3))) (@sg _ _ _ _ _ _ _ _ _ _ k7 (pv 2) (@tw _ _ _ (@zg _ _ _ _ _ _ _ _ y4 (pv 3) (@zc _ _ _ _))) (@qr _))) (@zb _)))) (@zk _ _ _ _ _ (zz (i := 7) sc_law_menus.nd rfl (Or.inl rfl) (@zg _ _ _ _ _ _ _ _ z8 (@zg _ _ _ _ _ _ _ _ yh (zp yo (hr.mono (by decide)) rfl (za (pv 0) (za (@zc _ _ _ _) (@zb _)))) (@zc _ _ _ _)) (zq yb rfl B.len yp (za (pv 6) (@zb _))))) (@zk _ _ _ _ _ (ul PassesOwn.never rfl (@yz _ _ _ _ (@pe_way _ _ _ _ _ _ _ (@zg _ _ _ _ _ _ _ _ bo (@sg _ _ _ _ _ _ _ _ _ _ k7 (pv 6) (@tw _ _ _ (pv 7)) (@qr _)) (@sg _ _ _ _ _ _ _ _ _ _ k7 (pv 6) (@qr _) (@tw _ _ _ (pv 7)))) (@tw _ _ _ (@zg _ _ _ _ _ _ _ _ ww (@zc _ _ _ _) (@zg _ _ _ _ _ _ _ _ wj (@zc _ _ _ _) (@zg _ _ _ _ _ _ _ _ z8 (pv 7) (@zc _ _ _ _))))))) (ya (i := 8) sc_law_menus.nd rfl (Or.inl rfl)) (@zk _ _ _ _ _ (zz (i := 9) sc_law_menus.nd rfl (Or.inl rfl) (@au _ _)) (@zk _ _ _ _ _ (zz (i := 10) sc_law_menus.nd rfl (Or.inl rfl) (@yi _ _ _ _ _ _ _ y9 (@yi _ _ _ _ _ _ _ xf (@yi _ _ _ _ _ _ _ y9 (pv 2) (pv 3) (fun _ _ => rfl)) (@zc _ _ _ _) (fun _ _ => rfl)) (@zg _ _ _ _ _ _ _ _ z8 (pv 5) (zq yb rfl B.len yp (za (@yi _ _ _ _ _ _ _ xf (@yi _ _ _ _ _ _ _ y9 (pv 2) (pv 3) (fun _ _ => rfl)) (@zc _ _ _ _) (fun _ _ => rfl)) (@zb _)))) (fun _ _ => rfl))) (@zk _ _ _ _ _ (ul PassesOwn.never rfl (rn rfl B.range (za (zq yb rfl B.len yp (za (pv 1) (@zb _))) (@zb _))) (ya (i := 11) sc_law_menus.nd rfl (Or.inl rfl)) (@zk _ _ _ _ _ (zz (i := 12) sc_law_menus.nd rfl (Or.inl rfl) (@zg _ _ _ _ _ _ _ _ z8 (@zg _ _ _ _ _ _ _ _ y4 (pv 11) (pv 5)) (zq yb rfl B.len yp (za (pv 1) (@zb _))))) (@zk _ _ _ _ _ (zz (i := 13) sc_law_menus.nd rfl (Or.inl rfl) (zp v0 (hr.mono (by decide)) rfl (za (pv 0) (za (@zg _ _ _ _ _ _ _ _ y4 (@zg _ _ _ _ _ _ _ _ y4 (@zc _ _ _ _) (@zg _ _ _ _ _ _ _ _ wj (pv 5) (zq yb rfl B.len yp (za (pv 1) (@zb _))))) (pv 11)) (@zb _))))) (@zi _ _ _ (@yl _ _ _ _ _ _ _ _ (PW.pt (@qh _ _ _ _ _ _ _ (@ye _ _ _ _ _ _ _ _ mj (@zg _ _ _ _ _ _ _ _ z8 (pv 13) (@zc _ _ _ _)) (@zc _ _ _ _) (yf _)) (@u5 _ _ _ _ (@ye _ _ _ _ _ _ _ _ xy (pv 11) (@zc _ _ _ _) (yf _))))) (@zi _ _ _ (vd (zp ng (hr.mono (by decide)) rfl (za (@zg _ _ _ _ _ _ _ _ yh (pv 13) (@zc _ _ _ _)) (za (@yi _ _ _ _ _ _ _ y9 (pv 10) (pv 12) (fun _ _ => rfl)) (@zb _)))) (tj (pv 9) (@yi _ _ _ _ _ _ _ y9 (pv 1) (pv 12) (fun _ _ => rfl)) (vm (hu10 hr))))) (@yc _)))))) (@zk _ _ _ _ _ (vd (pv 9) (tj (pv 4) (pv 8) (vm (hu10 hr)))) (@zi _ _ _ (zz (i := 5) sc_law_menus.nd rfl (Or.inl rfl) (@zg _ _ _ _ _ _ _ _ y4 (pv 5) (@zc _ _ _ _))))))))) (@zi _ _ _ (@zt _ _ _ _ (pv 4)))))))), ?_⟩;rw [show start ["script", "outcomes", "hands", "k", "menus", "j", "rows", "step", "others", "menu", "worths", "i", "place", "cell"] [V.ref a, V.ref o, V.ref b, V.int k] = [some (V.ref a), some (V.ref o), some (V.ref b), some (V.int k), none, none, none, none, none, none, none, none, none, none] from rfl];refine zcm fun T hT => ?_
    simp only [zm, zl, ↓reduceIte];intro m hm;have hk : k < ds.length := (Zc.mp hd).1;have hkx : k < xs.length := by rw [hH.len]; exact hk
    have h4 := G.hands.2;have h8 : ∀ d ∈ ds, d.words.length <= 8 := fun d hd => (G.words1 d hd).2
    have S1 : Same H (upd H m (.dT [])) := Same.upd (Same.refl _) hm;have m1 : upd H m (.dT []) m = some (.dT []) := zd;generalize upd H m (.dT []) = H1 at *;refine ⟨_, .of (S1 _ _ hH.at'), fun p1 hp1 => ?_⟩;rw [fj (by rw [Za]; omega)];have S2 : Same H1 (upd H1 p1 (.lst ((xs.map fun x => V.ref x.t).take k))) := Same.upd (Same.refl _) hp1;have t2 : upd H1 p1 (.lst ((xs.map fun x => V.ref x.t).take k)) p1 = some (.lst ((xs.map fun x => V.ref x.t).take k)) := zd;generalize upd H1 p1 (.lst ((xs.map fun x => V.ref x.t).take k)) = H2 at *;refine ⟨_, .of ((S1.trans S2) _ _ hH.at'), fun p2 hp2 => ?_⟩;rw [show (k : Int) + 1 = ((k + 1 : Nat) : Int) by omega, lm (by rw [Za]; omega)];have S3 : Same H2 (upd H2 p2 (.lst ((xs.map fun x => V.ref x.t).drop (k + 1)))) := Same.upd (Same.refl _) hp2;have t3 : upd H2 p2 (.lst ((xs.map fun x => V.ref x.t).drop (k + 1))) p2 = some (.lst ((xs.map fun x => V.ref x.t).drop (k + 1))) := zd;generalize upd H2 p2 (.lst ((xs.map fun x => V.ref x.t).drop (k + 1))) = H3 at *;refine ⟨_, S3 _ _ t2, _, t3, ?_, fun p3 hp3 => ?_⟩
    . rw [Zj, ZT, Za]
      exact Zd (show _ <= 8 by have := hH.len; omega) (by decide)
    have eer : (xs.map fun x => V.ref x.t).take k ++ (xs.map fun x => V.ref x.t).drop (k + 1) = (xs.eraseIdx k).map fun x => V.ref x.t := by
      rw [ue, ZY]
    rw [eer];have S4 : Same H3 (upd H3 p3 (.lst ((xs.eraseIdx k).map fun x => V.ref x.t))) := Same.upd (Same.refl _) hp3;have t4 : upd H3 p3 (.lst ((xs.eraseIdx k).map fun x => V.ref x.t)) p3 = some (.lst ((xs.eraseIdx k).map fun x => V.ref x.t)) := zd;generalize upd H3 p3 (.lst ((xs.eraseIdx k).map fun x => V.ref x.t)) = H4 at *;have S14 := S1.trans (S2.trans (S3.trans S4))
    have hE : HandsL H4 p3 (xs.eraseIdx k) (ds.eraseIdx k) := by
      refine ⟨t4, by rw [ZM hkx, ZM hk, hH.len], fun i x d e1 e2 => ?_⟩;rw [Yd] at e1 e2
      split at e1
      . rename_i hi
        rw [if_pos hi] at e2;exact (hH.hand i x d e1 e2).mono S14
      . rename_i hi
        rw [if_neg hi] at e2;exact (hH.hand (i + 1) x d e1 e2).mono S14
    have few := tz (wss := (ds.eraseIdx k).map HD.words) (by rw [Za, ZM hk]; omega) (fun ws hws => by
      obtain ⟨d, hd, rfl⟩ := Zp.mp hws
      exact h8 d (ZN hd)) _ (Zm _)
    rw [Zt] at few
    have hpos : 0 < (z0 ((ds.eraseIdx k).map HD.words)).length := by
      rw [df];refine ma fun z hz => ?_
      obtain ⟨ws, hws, rfl⟩ := Zp.mp hz;obtain ⟨d, hd, rfl⟩ := Zp.mp hws;exact (G.words1 d (ZN hd)).1
    have nd : (z0 ((ds.eraseIdx k).map HD.words)).Nodup := nj fun vs hvs => by
      obtain ⟨d, hd, rfl⟩ := Zp.mp hvs;exact G.wordsD d (ZN hd)
    refine ⟨p3, xs.eraseIdx k, ds.eraseIdx k, rfl, hE, by rw [ZM hk]; omega, fun d hd => h8 d (ZN hd), fun H5 rl as S5 R5 => ?_⟩;have S15 := S14.trans S5;refine ⟨a, ns, 4, rfl, S15.seq hS, ?_⟩;refine ⟨_, rfl, ⟨by decide, by decide⟩, rl, rfl, _, .inl (.of R5.lst), by rw [Za, R5.tups.len]; omega, ?_⟩;rw [Za, R5.tups.len];have hst := yn (zr ns 4 / 5) (show (0 : Int) < ((z0 ((ds.eraseIdx k).map HD.words)).length : Int) by omega);obtain ⟨sp, esp⟩ : ∃ sp : Nat, zr ns 4 / 5 % ((z0 ((ds.eraseIdx k).map HD.words)).length : Int) = (sp : Int) := ⟨_, (Yn hst.1).symm⟩;rw [esp] at hst ⊢;have ordE : ordA ns (z0 ((ds.eraseIdx k).map HD.words)) = if sp % 2 = 0 then (z0 ((ds.eraseIdx k).map HD.words)).drop sp ++ (z0 ((ds.eraseIdx k).map HD.words)).take sp else ((z0 ((ds.eraseIdx k).map HD.words)).drop sp ++ (z0 ((ds.eraseIdx k).map HD.words)).take sp).reverse := by rw [ordA, esp, Zw]
    have hperm := dm ns (z0 ((ds.eraseIdx k).map HD.words));generalize ordA ns (z0 ((ds.eraseIdx k).map HD.words)) = R at *;generalize z0 ((ds.eraseIdx k).map HD.words) = rs at *;rw [hT];clear hT T;refine hide1 fun T hT => ?_
    simp only [zm, zl, ↓reduceIte];have las : as.length = rs.length := R5.tups.len;refine ⟨_, .of R5.lst, fun p6 hp6 => ?_⟩;rw [lm (by rw [Za]; omega), <- List.map_drop];have S6 : Same H5 (upd H5 p6 (.lst ((as.drop sp).map V.ref))) := Same.upd (Same.refl _) hp6;have t6 : upd H5 p6 (.lst ((as.drop sp).map V.ref)) p6 = some (.lst ((as.drop sp).map V.ref)) := zd;generalize upd H5 p6 (.lst ((as.drop sp).map V.ref)) = H6 at *;refine ⟨_, .of (S6 _ _ R5.lst), fun p7 hp7 => ?_⟩;rw [fj (by rw [Za]; omega), <- List.map_take];have S7 : Same H6 (upd H6 p7 (.lst ((as.take sp).map V.ref))) := Same.upd (Same.refl _) hp7;have t7 : upd H6 p7 (.lst ((as.take sp).map V.ref)) p7 = some (.lst ((as.take sp).map V.ref)) := zd;generalize upd H6 p7 (.lst ((as.take sp).map V.ref)) = H7 at *;refine ⟨_, S7 _ _ t6, _, t7, ?_, fun p8 hp8 => ?_⟩
    . rw [Za, Za, Zj, ZT]
      exact Zd (show _ <= 4096 by omega) (by decide)
    rw [<- Zn];have S8 : Same H7 (upd H7 p8 (.lst ((as.drop sp ++ as.take sp).map V.ref))) := Same.upd (Same.refl _) hp8;have t8 : upd H7 p8 (.lst ((as.drop sp ++ as.take sp).map V.ref)) p8 = some (.lst ((as.drop sp ++ as.take sp).map V.ref)) := zd;generalize upd H7 p8 (.lst ((as.drop sp ++ as.take sp).map V.ref)) = H8 at *;refine ⟨by decide, .inr ⟨by omega, by omega⟩, decide (sp % 2 = 0), ?_, _, .of t8, fun lp hlp => ?_⟩
    . by_cases h : sp % 2 = 0
      . rw [if_pos (decide_eq_true h)]; omega
      . rw [if_neg (fun z => h (of_decide_eq_true z))]; omega
    obtain ⟨ao, eao, hao⟩ : ∃ ao : List Addr, (if decide (sp % 2 = 0) = true then (as.drop sp ++ as.take sp).map V.ref else ((as.drop sp ++ as.take sp).map V.ref).reverse) = ao.map V.ref /\ TupsAt H5 ao R := by
      have tt := (R5.tups.drop sp).append (R5.tups.take sp);rw [ordE]
      by_cases h : sp % 2 = 0
      . rw [if_pos (decide_eq_true h), if_pos h]
        exact ⟨_, rfl, tt⟩
      . rw [if_neg (fun z => h (of_decide_eq_true z)), if_neg h]
        exact ⟨_, List.map_reverse.symm, tt.reverse⟩
    rw [eao];have S9 : Same H8 (upd H8 lp (.lst (ao.map V.ref))) := Same.upd (Same.refl _) hlp;have t9 : upd H8 lp (.lst (ao.map V.ref)) lp = some (.lst (ao.map V.ref)) := zd;generalize upd H8 lp (.lst (ao.map V.ref)) = H9 at *;have S59 := S6.trans (S7.trans (S8.trans S9));have S19 := S15.trans S59;have m9 : H9 m = some (.dT []) := ((S2.trans (S3.trans S4)).trans (S5.trans S59)) _ _ m1;have lao : ao.length = R.length := hao.len;have lR : R.length = rs.length := hperm.length_eq;have ndR : R.Nodup := hperm.nodup_iff.mpr nd;have x? : ∃ x, xs[k]? = some x := ⟨xs[k], Zb hkx⟩;obtain ⟨x, hx⟩ := x?;have hA := hH.hand k x d hx hd;have hmd := Zi hd;have w1 := G.words1 d hmd;have o1 := G.outs1;have lrw := G.rows d hmd;refine ⟨⟨_, .of t9⟩, ?_⟩;refine sd (xs := ao.map V.ref) (PvMj a o b m rl lp k sp ao R (fun j => xw ns outs (wsA d j) j outs.length) H) ⟨[], _, _, _, _, _, _, ⟨S19, hm, m9, rfl, (fun c h => (nomatch h)), (fun h => (nomatch h)), (fun j c h => by simp at h)⟩, t9, hao.mono S59, rfl⟩ ?_ ?_ ?_
    . rintro i σ Hc hi ⟨ms, v8, v9, v10, v11, v12, v13, N, hl, ht, rfl⟩
      exact .of hl
    . rintro j y σ Hc hy ⟨ms, v8, v9, v10, v11, v12, v13, N, hl, ht, rfl⟩
      obtain ⟨c, hcx, rfl⟩ := yq hy;have hj : j < R.length := by have := (Zc.mp hcx).1; omega
      have er : R[j]? = some R[j] := Zb hj;have hrow := ht.at' j c _ hcx er
      have hrj : R[j] ∉ R.take j := fun z => by
        obtain ⟨i, hi⟩ := ZV z;have li := (Zc.mp hi).1;rw [Zj] at li;rw [Ym (by omega)] at hi;exact Yk.mp ndR i j (by omega) hj (by omega) (Zc.mp hi).2
      generalize R[j] = r at er hrow hrj;simp only [zm, zl, ↓reduceIte];intro mn hmn;have Sa : Same Hc (upd Hc mn (.dK [])) := Same.upd (Same.refl _) hmn;have ta : upd Hc mn (.dK []) mn = some (.dK []) := zd;generalize upd Hc mn (.dK []) = Ha at *;have SHa := N.same.trans Sa;have hB := SHa _ _ hH.at';have hA2 := hA.mono SHa;have ax : atI (xs.map fun x => V.ref x.t) (k : Int) = some (V.ref x.t) := zx (by rw [Ze, hx]; rfl);have jm : j % d.words.length < d.words.length := Nat.mod_lt _ w1.1;have jg : j % d.words.length < x.gs.length := by rw [hA.len, lrw]; exact jm
      obtain ⟨wr, hwr⟩ : ∃ wr, x.gs[j % d.words.length]? = some wr := ⟨_, Zb jg⟩
      have hws : d.worths[j % d.words.length]? = some (wsA d j) := by
        rw [wsA, Zk, Zb (by rw [lrw]; exact jm)];rfl
      have hwl : (wsA d j).length = outs.length := G.cols d hmd _ (Zi hws);have hwA := hA2.row _ _ _ hwr hws;refine ⟨_, .of hB, _, ax, _, rfl, _, .of hA2.tup, _, zx (j := 2) rfl, _, .of hB, _, ax, _, rfl, _, .of hA2.tup, _, zx (j := 1) rfl, _, rfl, _, .inl (.of hA2.words), by rw [Za]; omega, _, rfl, _, .of hA2.grid, V.ref wr, ?_, _, .inl (.of (SHa _ _ ho)), ?_⟩
      . rw [Za, <- Xf]
        exact zx (by rw [Ze, hwr]; rfl)
      rw [Za, Zw];refine ⟨by omega, by omega, ?_⟩;refine di (PvMi a o b m rl c mn wr k sp j (xw ns outs (wsA d j) j) Hc) ⟨_, _, _, Sa, ta, rfl⟩ ?_ ?_
      . rintro i σ Hi hi ⟨v11, v12, v13, Si, hmi, rfl⟩
        simp only [zm, zl, ↓reduceIte];have SHi := N.same.trans Si;have oi := SHi _ _ ho;have hjp : (i + j) % outs.length < outs.length := Nat.mod_lt _ o1.1;have ejp : ((i : Int) + (j : Int)) % (outs.length : Int) = (((i + j) % outs.length : Nat) : Int) := by rw [Xf, Yx]
        have eo : outs[(i + j) % outs.length]? = some (outs.getD ((i + j) % outs.length) ⟨#[]⟩) := by
          rw [Zk, Zb hjp];rfl
        have ew : (wsA d j)[(i + j) % outs.length]? = some ((wsA d j).getD ((i + j) % outs.length) 0) := by
          rw [Zk, Zb (by rw [hwl]; exact hjp)];rfl
        have hwi : Hi wr = some (.lst ((wsA d j).map V.int)) := SHi _ _ (hA.row _ _ _ hwr hws);have mok := j1 (ns := ns) (outs := outs) (ws := wsA d j) (j := j) o1.1 o1.2 i (by omega);refine ⟨_, .inl (.of oi), by rw [Za]; omega, _, .inl (.of oi), ?_, ?_⟩
        . rw [Za]
          exact .inr ⟨by omega, by omega⟩
        rw [Za, ejp];refine ⟨a, ns, 300 + j * outs.length + i, by rw [Yx, Yx, Xj]; rfl, SHi.seq hS, ?_⟩;refine ⟨_, rfl, by decide, ?_⟩
        have put : ∀ v, xw ns outs (wsA d j) j (i + 1) = putK (xw ns outs (wsA d j) j i) (Sum.inr (outs.getD ((i + j) % outs.length) ⟨#[]⟩)) (V.int v) -> ∃ x_8, DPut Hi mn (V.str (outs.getD ((i + j) % outs.length) ⟨#[]⟩)) (V.int v) x_8 /\ PvMi a o b m rl c mn wr k sp j (xw ns outs (wsA d j) j) Hc (i + 1) [some (V.ref a), some (V.ref o), some (V.ref b), some (V.int k), some (V.ref m), some (V.int j), some (V.ref rl), some (V.int sp), some (V.ref c), some (V.ref mn), some (V.ref wr), some (V.int i), some (V.int ((i + j) % outs.length : Nat)), some (V.int (pi ns (300 + j * outs.length + i)))] x_8 := fun v e => by
          refine ⟨_, DPut.k (k := Sum.inr _) hmi (ZR mok.2.1 (Zh (show i < 9 by omega) (by decide))), _, _, _, fun b' u hb => ?_, ?_, rfl⟩
          . rw [zn (fun z => by rw [z, hmn] at hb; cases hb)]
            exact Si _ _ hb
          . rw [zd, e]
        refine ite2 (fun h => ?_) (fun h => ?_)
        . have h' := of_decide_eq_true h
          refine ⟨_, rfl, ⟨by decide, by decide⟩, _, .of hwi, _, zx (by rw [Ze, ew]; rfl), _, _, rfl, _, .of oi, _, zx (by rw [Ze, eo]; rfl), put _ (by rw [xw, if_pos (.inl h')])⟩
        . refine ⟨rfl, ite2 (fun h2 => ?_) (fun h2 => ?_)⟩
          . have h' : i = 0 := by have := of_decide_eq_true h2; omega
            refine ⟨_, rfl, ⟨by decide, by decide⟩, _, .of hwi, _, zx (by rw [Ze, ew]; rfl), _, _, rfl, _, .of oi, _, zx (by rw [Ze, eo]; rfl), put _ (by rw [xw, if_pos (.inr h')])⟩
          . have hi0 : i ≠ 0 := fun e => h2 (by rw [e]; rfl)
            refine ⟨_, _, _, Si, ?_, rfl⟩;rw [xw, if_neg (fun z => z.elim (fun z => h (decide_eq_true z)) hi0)];exact hmi
      . rintro σ Hi ⟨v11, v12, v13, Si, hmi, rfl⟩
        simp only [zm, zl, ↓reduceIte];have SHi := N.same.trans Si;have mne : m ≠ mn := fun e => by have := N.at'; rw [e, hmn] at this; cases this
        have cnm : ∀ e u, e ≠ m -> Hc e = some u -> upd Hi m (.dT (putK (yg (R.take j) ms) (zv r) (V.ref mn))) e = some u := fun e u he h => by rw [zn he]; exact Si _ _ h
        have ltj : (R.take j).length = j := by rw [Zj]; omega
        refine ⟨_, DPut.t (k := zv r) (Si _ _ N.at') (by rw [wy]; exact Si _ _ hrow) ?_, ms ++ [mn], _, _, _, _, _, _, ⟨fun e u h => ?_, hm, ?_, ?_, ?_, ?_, ?_⟩, cnm _ _ (fun e => by rw [e, N.at'] at hl; cases hl) hl, ⟨ht.len, fun i e r' e1 e2 => cnm _ _ (fun e' => by have := ht.at' i e r' e1 e2; rw [e', N.at'] at this; cases this) (ht.at' i e r' e1 e2)⟩, by rw [Yx]; rfl⟩
        . rw [yg, List.length_zipWith, N.len, Nat.min_self, ltj]
          exact Zh (show j < 4096 by omega) (by decide)
        . exact cnm _ _ (fun z => by rw [z, hm] at h; cases h) (N.same _ _ h)
        . rw [zd, zc8 N.len hrj, Zq, er]
          rfl
        . rw [Zo, N.len, Zq, er]
          simp
        . intro e he
          rcases ZH.mp he with z | z
          . exact N.new e z
          . rw [ZC.mp z]
            exact N.same.free hmn
        . intro z
          rcases ZH.mp z with z | z
          . exact N.ne z
          . exact mne (ZC.mp z)
        . intro i e he
          by_cases hi : i < ms.length
          . rw [Zg hi] at he
            exact cnm _ _ (fun z => N.ne (z ▸ Zi he)) (N.menu i e he)
          . rw [Zf (ZD.mp hi)] at he
            have hi' := (Zc.mp he).1;simp at hi';have e0 : i = ms.length := by omega
            rw [e0, Nat.sub_self] at he;simp at he;rw [<- he, e0, zn (Ne.symm mne), N.len, ltj];exact hmi
    . rintro σ Hc ⟨ms, v8, v9, v10, v11, v12, v13, N, hl, ht, rfl⟩
      rw [hT];simp only [zm, zl, ↓reduceIte];refine q Hc m ms ?_;rw [Za, lao, Zt] at N;exact N
end
theorem oy {κ : Type} [DecidableEq κ] {k : κ} : ∀ (kvs : List (κ × V)) (j : κ), valV (y6 kvs k) j = if j = k then none else valV kvs j
  | [], j => by
    rw [show y6 ([] : List (κ × V)) k = [] from rfl, zgn]
    split <;> rfl
  | p :: l, j => by
    by_cases e : p.1 = k
    . rw [dg e, oy l j]
      by_cases e2 : j = k
      . rw [if_pos e2, if_pos e2]
      . rw [if_neg e2, if_neg e2, y8 (fun z => e2 (z.symm.trans e))]
    . rw [l8 e]
      by_cases e3 : p.1 = j
      . rw [xj e3, xj e3, if_neg (fun z => e (e3.trans z))]
      . rw [y8 e3, y8 e3, oy l j]
theorem az {κ : Type} [DecidableEq κ] {kvs : List (κ × V)} {k : κ} {v w : V} (h : valV kvs k = some w) : (putK kvs k v).length = kvs.length := by
  rw [putK, if_pos (by rw [w4, h]; rfl), Za]
theorem bc {κ : Type} [DecidableEq κ] {kvs : List (κ × V)} {k : κ} {v : V} {q : κ × V} (h : q ∈ putK kvs k v) : q = (k, v) \/ q ∈ kvs := by
  unfold putK at h
  split at h
  . obtain ⟨x, hx, e⟩ := Zp.mp h
    by_cases z : x.1 = k
    . rw [if_pos z] at e; rw [<- e, z]; exact .inl rfl
    . rw [if_neg z] at e; rw [<- e]; exact .inr hx
  . rcases ZH.mp h with h | h
    . exact .inr h
    . exact .inl (ZC.mp h)
theorem za8 {κ : Type} [DecidableEq κ] {kvs : List (κ × V)} {k : κ} {v : V} : (k, v) ∈ putK kvs k v := by
  unfold putK
  split
  . rename_i h
    obtain ⟨x, hx, e⟩ := YM.mp h;have e := of_decide_eq_true e;exact Zp.mpr ⟨x, hx, by rw [if_pos e, e]⟩
  . simp
theorem iy {P : Program} {w : World} {K : Fg} {H : Hp} {m : Addr} {kvs : List (List Key × V)} {outs : List Str} {R : List (List Str)} (h : H m = some (.dT kvs)) (len : kvs.length = R.length) (each : ∀ q ∈ R, ∃ c, MenuA P w K H ((valV kvs (zv q)).getD .non) outs c) (bad : ∃ q ∈ R, MenuA P w K H ((valV kvs (zv q)).getD .non) outs false) : MenusA P w K H (.ref m) outs R false := by
  obtain ⟨cs, l1, p1, f1⟩ := zb6 (R := fun q c => MenuA P w K H ((valV kvs (zv q)).getD .non) outs c) each bad;exact .inr (.inr ⟨m, kvs, rfl, h, .inr ⟨len, cs, l1, p1, f1.symm⟩⟩)
theorem qo {P : Program} {w : World} {K : Fg} {H : Hp} {m : Addr} {kvs : List (List Key × V)} {outs : List Str} {R : List (List Str)} (h : H m = some (.dT kvs)) (len : kvs.length ≠ R.length) : MenusA P w K H (.ref m) outs R false := .inr (.inr ⟨m, kvs, rfl, h, .inl ⟨rfl, len⟩⟩)
theorem i9 {P : Program} {w : World} {K : Fg} {H : Hp} {me : Addr} {mk : List (Key × V)} {outs : List Str} (h : H me = some (.dK mk)) (l : mk.length <= 20) (each : ∀ kv ∈ mk, ∃ z c1, kv.1 = Sum.inr z /\ Pr H kv.2 c1) (bad : ∃ kv ∈ mk, ∃ z c1, kv.1 = Sum.inr z /\ Pr H kv.2 c1 /\ (decide (z ∈ outs) && c1) = false) : MenuA P w K H (.ref me) outs false := by
  obtain ⟨cs, l1, p1, f1⟩ := zb6 (xs := mk.map fun kv => (kV kv.1, kv.2)) (R := fun kv c => ((∃ z, kv.1 = .str z) \/ kv.1 = .non) /\ ∃ c1, Pr H kv.2 c1 /\ c = (nu outs kv.1 && c1)) (fun y hy => by
    obtain ⟨q, hq, rfl⟩ := Zp.mp hy;obtain ⟨z, c1, e, pr⟩ := each q hq
    exact ⟨_, .inl ⟨z, by rw [e]; rfl⟩, c1, pr, rfl⟩) (by
    obtain ⟨q, hq, z, c1, e, pr, hf⟩ := bad
    exact ⟨_, Zp.mpr ⟨q, hq, rfl⟩, .inl ⟨z, by rw [e]; rfl⟩, c1, pr, by rw [e]; exact hf.symm⟩)
  exact .inr (.inl ⟨me, mk, cs, rfl, h, l, ⟨l1, p1⟩, by rw [f1, Bool.and_false]⟩)
theorem zcr {P : Program} {w : World} {K : Fg} {H : Hp} {me : Addr} {mk : List (Key × V)} {v : V} {c : Bool} {outs : List Str} (h : H me = some (xk P w me (qj mk v))) (l : mk.length <= 19) (each : ∀ kv ∈ mk, ∃ z c1, kv.1 = Sum.inr z /\ Pr H kv.2 c1) (hv : Pr H v c) : MenuA P w K H (.ref me) outs false := by
  obtain ⟨cs, l1, p1, f1⟩ := zb6 (xs := (qj mk v).map fun kv => (onV kv.1, kv.2)) (R := fun kv c => ((∃ z, kv.1 = .str z) \/ kv.1 = .non) /\ ∃ c1, Pr H kv.2 c1 /\ c = (nu outs kv.1 && c1)) (fun y hy => by
    obtain ⟨q, hq, rfl⟩ := Zp.mp hy
    rcases ZH.mp hq with hq | hq
    . obtain ⟨q', hq', rfl⟩ := Zp.mp hq
      obtain ⟨z, c1, e, pr⟩ := each q' hq';exact ⟨_, .inl ⟨z, by show kV q'.1 = _; rw [e]; rfl⟩, c1, pr, rfl⟩
    . rw [ZC.mp hq]
      exact ⟨_, .inr rfl, c, hv, rfl⟩) ⟨(.non, v), Zp.mpr ⟨(none, v), by rw [qj]; simp, rfl⟩, .inr rfl, c, hv, rfl⟩
  have ln : (qj mk v).length = mk.length + 1 := by rw [qj, Zo, Za]; rfl
  exact .inr (.inr ⟨me, _, cs, rfl, h, by omega, by omega, ⟨l1, p1⟩, f1.symm⟩)
theorem NewMenus.mono {H H1 H2 : Hp} {m : Addr} {ms : List Addr} {R : List (List Str)} {f : Nat -> List (Key × V)} (h : NewMenus H H1 m ms R f) (S : Same H1 H2) : NewMenus H H2 m ms R f := ⟨h.same.trans S, h.nm, S _ _ h.at', h.len, h.new, h.ne, fun j c e => S _ _ (h.menu j c e)⟩
theorem NewMenus.val {H H1 : Hp} {m : Addr} {ms : List Addr} {R : List (List Str)} {f : Nat -> List (Key × V)} (h : NewMenus H H1 m ms R f) (nd : R.Nodup) {q : List Str} (hq : q ∈ R) : ∃ j me, R[j]? = some q /\ ms[j]? = some me /\ valV (yg R ms) (zv q) = some (V.ref me) /\ H1 me = some (.dK (f j)) := by
  obtain ⟨j, hj⟩ := ZV hq;have lj := (Zc.mp hj).1;have hme : ms[j]? = some (ms[j]'(by rw [h.len]; exact lj)) := Zb _;exact ⟨j, _, hj, hme, gd h.len nd hj hme, h.menu j _ hme⟩
theorem NewMenus.keys {H H1 : Hp} {m : Addr} {ms : List Addr} {R : List (List Str)} {f : Nat -> List (Key × V)} (h : NewMenus H H1 m ms R f) : (yg R ms).length = R.length := by rw [yg, List.length_zipWith, h.len, Nat.min_self]
theorem kx {P : Program} {w : World} {K : Fg} {H0 H1 H3 : Hp} {m : Addr} {ms : List Addr} {outs : List Str} {R : List (List Str)} {f : Nat -> List (Key × V)} {r : List Str} {kvs : List (List Key × V)} (N : NewMenus H0 H1 m ms R f) (nd : R.Nodup) (hr : r ∈ R) (h3 : H3 m = some (.dT kvs)) (len : kvs.length = R.length) (oth : ∀ q ∈ R, q ≠ r -> valV kvs (zv q) = valV (yg R ms) (zv q)) (all : ∀ (j : Nat) (c : Addr), ms[j]? = some c -> ∃ b, MenuA P w K H3 (.ref c) outs b) (bad : MenuA P w K H3 ((valV kvs (zv r)).getD .non) outs false) : MenusA P w K H3 (.ref m) outs R false := by
  refine iy h3 len (fun q hq => ?_) ⟨r, hr, bad⟩
  by_cases e : q = r
  . rw [e]; exact ⟨false, bad⟩
  . obtain ⟨j, me, _, h1, h2, _⟩ := N.val nd hq
    rw [oth q hq e, h2];exact all j me h1
theorem zfk {R : List (List Str)} {ms : List Addr} {r : List Str} (hl : ms.length = R.length) (h : r ∉ R) : valV (yg R ms) (zv r) = none := by
  cases e : valV (yg R ms) (zv r) with
  | none => rfl
  | some v =>
    exfalso
    have := ku e;rw [vz hl] at this;obtain ⟨q, hq, eq⟩ := Zp.mp this;exact h (xr eq ▸ hq)
theorem ze6 : kit0 "list" "dict" = some false /\ kit0 "tuple" "dict" = some false /\ kit0 "str" "dict" = some false /\ kit0 "bool" "dict" = some false /\ kit0 "NoneType" "dict" = some false := by decide +kernel
theorem zdk {H : Hp} {c : Int} {p1 p2 : Addr} {xs ys : List V} (h1 : H p1 = some (.lst xs)) (h2 : H p2 = some (.tup ys)) : ∃ v, atI [V.non, V.bl true, V.str (Str.ofString "1"), V.ref p1, V.ref p2, V.bl false] (c % 6) = some v /\ Pr H v false := by
  have hidx : c % 6 = 0 \/ c % 6 = 1 \/ c % 6 = 2 \/ c % 6 = 3 \/ c % 6 = 4 \/ c % 6 = 5 := by omega
  rcases hidx with e | e | e | e | e | e <;> rw [e]
  . exact ⟨_, zx (j := 0) rfl, .non⟩
  . exact ⟨_, zx (j := 1) rfl, .bl _⟩
  . exact ⟨_, zx (j := 2) rfl, .str _⟩
  . exact ⟨_, zx (j := 3) rfl, .lst h1⟩
  . exact ⟨_, zx (j := 4) rfl, .tup h2⟩
  . exact ⟨_, zx (j := 5) rfl, .bl _⟩
section
variable {c c' : TT} {A rest : TS} {D : Ends} {σ : L2.St} {H : Hp} {i : Nat} {x n : Int} {b : Bool}
theorem zh (hc : ∀ Q : Bool -> Hp -> Prop, Q false H -> c σ H Q) (h : rest D σ H) : tSeq (tIfS c A cj) rest D σ H := hc _ (by rw [if_neg (by simp)]; exact h)
theorem wc (hc : ∀ Q : Bool -> Hp -> Prop, Q true H -> c σ H Q) (h : ∀ T : TS, T = rest -> A { D with nx := T D } σ H) : tSeq (tIfS c A cj) rest D σ H := hc _ (by rw [if_pos rfl]; exact h rest rfl)
theorem zu (hv : σ[i]? = some (some (V.int x))) (e : ¬ x = n) (Q : Bool -> Hp -> Prop) (h : Q false H) : mr (tOp rEq (tVar i) (tC (V.int n))) σ H Q := by
  refine ⟨_, hv, rfl, false, ?_, h⟩;rw [decide_eq_false (fun z => e (V.int.inj z))]
theorem om (hv : σ[i]? = some (some (V.int x))) (e : x = n) (Q : Bool -> Hp -> Prop) (h : Q true H) : mr (tOp rEq (tVar i) (tC (V.int n))) σ H Q := by
  refine ⟨_, hv, rfl, true, ?_, h⟩;rw [decide_eq_true (by rw [e])]
theorem xn (hv : σ[i]? = some (some (V.int x))) (e : decide (x < n) = b) (Q : Bool -> Hp -> Prop) (h : Q b H) : mr (tOp (rI0 fun i j => V.bl (decide (i < j))) (tVar i) (tC (V.int n))) σ H Q := ⟨_, hv, x, n, rfl, rfl, b, congrArg V.bl e, h⟩
theorem o5 (hv : σ[i]? = some (some (V.int x))) (e : decide (n < x) = b) (Q : Bool -> Hp -> Prop) (h : Q b H) : mr (tOp (rI0 fun i j => V.bl (decide (j < i))) (tVar i) (tC (V.int n))) σ H Q := ⟨_, hv, x, n, rfl, rfl, b, congrArg V.bl e, h⟩
theorem fb (h1 : ∀ Q : Bool -> Hp -> Prop, Q false H -> c σ H Q) (Q : Bool -> Hp -> Prop) (h : Q false H) : tAnd c c' σ H Q := h1 _ (by rw [if_neg (by simp)]; exact h)
theorem uj (h1 : ∀ Q : Bool -> Hp -> Prop, Q true H -> c σ H Q) (h2 : ∀ Q : Bool -> Hp -> Prop, Q b H -> c' σ H Q) (Q : Bool -> Hp -> Prop) (h : Q b H) : tAnd c c' σ H Q := h1 _ (by rw [if_pos rfl]; exact h2 _ h)
end
def zbs (P : Program) (w : World) (K : Fg) : Sp := fun vs H Q _ => ∃ (H0 : Hp) (m b : Addr) (ms : List Addr) (outs : List Str) (R : List (List Str)) (f : Nat -> List (Key × V)) (i : Nat) (r : List Str) (c : Int), vs = [.ref m, .ref b, .int c] /\ NewMenus H0 H m ms R f /\ R.Nodup /\ R.length <= 4096 /\ R[i]? = some r /\ r.length <= 8 /\ r ++ [Str.ofString "word"] ∉ R /\ H b = some (.tup (r.map V.str)) /\ (∀ j, MenuOk outs (f j) /\ 0 < (f j).length /\ (f j).length <= 8) /\ (∀ z ∈ outs, ss z) /\ ∀ H' v, Same H0 H' -> (c % 14 < 12 -> MenusA P w K H' v outs R false) -> (12 <= c % 14 -> v = .ref m /\ MenusAt H' m (yg R ms) outs R) -> Q v H'
section
variable {P : Program} {w : World} {K : Fg} {mg : Str -> Option Value} {base : Heap} {a : Ad}
theorem qd (B : Bt mg) (D : zj K mg "_law_spoiled" zf ["menus", "others", "cell"]) : FnAt P w K mg base "_law_spoiled" 1 ["menus", "others", "cell"] (zbs P w K) := by
  refine FnAt.of D sc_law_spoiled (fun vs H Q E h => ?_) (fun f cdv A outer s H vs Q E hr h => ?_)
  . obtain ⟨H0, m, b, ms, outs, R, fm, i, r, c, rfl, _⟩ := h
    rfl
  . obtain ⟨H0, m, b, ms, outs, R, fm, i, r, c, rfl, N, nd, l4, hi, r8, hR, hb, F, G, q⟩ := h
    have s12 : PS ((cxOf CX0 P w K mg base ["menus", "others", "cell", "way", "first"] "_law_spoiled" (ze zf) f cdv A outer s H E).nox) ((zy zf).getD 12 (.Pass ⟨0, 0, 0, 0⟩)) _ := (@zt _ _ _ _ (pv 0));have b12 : PSs (cxOf CX0 P w K mg base ["menus", "others", "cell", "way", "first"] "_law_spoiled" (ze zf) f cdv A outer s H E).nox ((zy zf).drop 12) _ := (@zbt _ _ _ _ _ @s12 rfl rfl);have s11 : PS ((cxOf CX0 P w K mg base ["menus", "others", "cell", "way", "first"] "_law_spoiled" (ze zf) f cdv A outer s H E).nox) ((zy zf).getD 11 (.Pass ⟨0, 0, 0, 0⟩)) _ := (@yl _ _ _ _ _ _ _ _ (@ye _ _ _ _ _ _ _ _ xy (pv 3) (@zc _ _ _ _) (yf _)) (@zi _ _ _ (@zt _ _ _ _ (@fw _ _ _ _ _ (@j0 _ _ _ _ _ _ _ _ _ (@wm _ _ _ _) (@uh _ _ _ _ _ _ (hu10 hr) (pv 0) (pv 1) (fun _ _ => rfl)) (@ft _ _)) rfl rfl (by simp) (by decide)))) (@yc _));have b11 : PSs (cxOf CX0 P w K mg base ["menus", "others", "cell", "way", "first"] "_law_spoiled" (ze zf) f cdv A outer s H E).nox ((zy zf).drop 11) _ := (@y3 _ _ _ _ _ _ @s11 rfl @b12);have s10 : PS ((cxOf CX0 P w K mg base ["menus", "others", "cell", "way", "first"] "_law_spoiled" (ze zf) f cdv A outer s H E).nox) ((zy zf).getD 10 (.Pass ⟨0, 0, 0, 0⟩)) _ := (@yl _ _ _ _ _ _ _ _ (@ye _ _ _ _ _ _ _ _ xy (pv 3) (@zc _ _ _ _) (yf _)) (@zi _ _ _ (@zt _ _ _ _ (@yi _ _ _ _ _ _ _ y9 (@xg _ _ _ _ (@za _ _ _ _ _ (@qz _ _ _) (@za _ _ _ _ _ (@xg _ _ _ _ (@zb _)) (@za _ _ _ _ _ (yu (gx rfl) rfl B.list tu (@za _ _ _ _ _ (pv 0) (@zb _) (zw nofun))) (@za _ _ _ _ _ (@wm _ _ _ _) (@za _ _ _ _ _ (@wa _ _ _ _) (@zb _) (zw nofun)) (zw nofun)) (zw nofun)) (zw nofun)) (zw nofun))) (@zg _ _ _ _ _ _ _ _ z8 (@zg _ _ _ _ _ _ _ _ yh (pv 2) (@zc _ _ _ _)) (@zc _ _ _ _)) (fun _ _ => rfl)))) (@yc _));have b10 : PSs (cxOf CX0 P w K mg base ["menus", "others", "cell", "way", "first"] "_law_spoiled" (ze zf) f cdv A outer s H E).nox ((zy zf).drop 10) _ := (@y3 _ _ _ _ _ _ @s10 rfl @b11);have s9 : PS ((cxOf CX0 P w K mg base ["menus", "others", "cell", "way", "first"] "_law_spoiled" (ze zf) f cdv A outer s H E).nox) ((zy zf).getD 9 (.Pass ⟨0, 0, 0, 0⟩)) _ := (@yl _ _ _ _ _ _ _ _ (PW.pt (@pw_and _ _ _ _ _ _ _ (@ye _ _ _ _ _ _ _ _ mj (pv 3) (@zc _ _ _ _) (yf _)) (@zhk _ _ _ _ (@ye _ _ _ _ _ _ _ _ op_gt (pv 3) (@zc _ _ _ _) (yf _))))) (@zi _ _ _ (vd (@yi _ _ _ _ _ _ _ y9 (@xg _ _ _ _ (@za _ _ _ _ _ (@qz _ _ _) (@za _ _ _ _ _ (@wa _ _ _ _) (@za _ _ _ _ _ (@wm _ _ _ _) (@za _ _ _ _ _ (@xg _ _ _ _ (@za _ _ _ _ _ (@zc _ _ _ _) (@zb _) (zw nofun))) (@za _ _ _ _ _ (@xc _ _ _ _ _ (@zb _)) (@za _ _ _ _ _ (@wa _ _ _ _) (@zb _) (zw nofun)) (zw nofun)) (zw nofun)) (zw nofun)) (zw nofun)) (zw nofun))) (@zg _ _ _ _ _ _ _ _ z8 (@zg _ _ _ _ _ _ _ _ yh (pv 2) (@zc _ _ _ _)) (@zc _ _ _ _)) (fun _ _ => rfl)) (tj (@uh _ _ _ _ _ _ (hu10 hr) (pv 0) (pv 1) (fun _ _ => rfl)) (pv 4) (vm (hu10 hr))))) (@yc _));have b9 : PSs (cxOf CX0 P w K mg base ["menus", "others", "cell", "way", "first"] "_law_spoiled" (ze zf) f cdv A outer s H E).nox ((zy zf).drop 9) _ := (@y3 _ _ _ _ _ _ @s9 rfl @b10);have s8 : PS ((cxOf CX0 P w K mg base ["menus", "others", "cell", "way", "first"] "_law_spoiled" (ze zf) f cdv A outer s H E).nox) ((zy zf).getD 8 (.Pass ⟨0, 0, 0, 0⟩)) _ := (@yl _ _ _ _ _ _ _ _ (@ye _ _ _ _ _ _ _ _ xy (pv 3) (@zc _ _ _ _) (yf _)) (@zi _ _ _ (vd (@zc _ _ _ _) (tj (@uh _ _ _ _ _ _ (hu10 hr) (pv 0) (pv 1) (fun _ _ => rfl)) (@qz _ _ _) zgd))) (@yc _));have b8 : PSs (cxOf CX0 P w K mg base ["menus", "others", "cell", "way", "first"] "_law_spoiled" (ze zf) f cdv A outer s H E).nox ((zy zf).drop 8) _ := (@y3 _ _ _ _ _ _ @s8 rfl @b9);have s7 : PS ((cxOf CX0 P w K mg base ["menus", "others", "cell", "way", "first"] "_law_spoiled" (ze zf) f cdv A outer s H E).nox) ((zy zf).getD 7 (.Pass ⟨0, 0, 0, 0⟩)) _ := (@yl _ _ _ _ _ _ _ _ (@ye _ _ _ _ _ _ _ _ xy (pv 3) (@zc _ _ _ _) (yf _)) (@zi _ _ _ (vd (@zc _ _ _ _) (tj (@uh _ _ _ _ _ _ (hu10 hr) (pv 0) (pv 1) (fun _ _ => rfl)) (@wm _ _ _ _) (vm (hu10 hr))))) (@yc _));have b7 : PSs (cxOf CX0 P w K mg base ["menus", "others", "cell", "way", "first"] "_law_spoiled" (ze zf) f cdv A outer s H E).nox ((zy zf).drop 7) _ := (@y3 _ _ _ _ _ _ @s7 rfl @b8);have s6 : PS ((cxOf CX0 P w K mg base ["menus", "others", "cell", "way", "first"] "_law_spoiled" (ze zf) f cdv A outer s H E).nox) ((zy zf).getD 6 (.Pass ⟨0, 0, 0, 0⟩)) _ := (@yl _ _ _ _ _ _ _ _ (@ye _ _ _ _ _ _ _ _ xy (pv 3) (@zc _ _ _ _) (yf _)) (@zi _ _ _ (vd (@yi _ _ _ _ _ _ _ y9 (@xg _ _ _ _ (@za _ _ _ _ _ (@qz _ _ _) (@za _ _ _ _ _ (@xg _ _ _ _ (@zb _)) (@za _ _ _ _ _ (@xg _ _ _ _ (@za _ _ _ _ _ (pv 4) (@zb _) (zw nofun))) (@za _ _ _ _ _ (@xc _ _ _ _ _ (@za _ _ _ _ _ (pv 4) (@za _ _ _ _ _ (@zc _ _ _ _) (@zb _) (zw nofun)) (zw nofun))) (@za _ _ _ _ _ (@wm _ _ _ _) (@za _ _ _ _ _ (@wa _ _ _ _) (@zb _) (zw nofun)) (zw nofun)) (zw nofun)) (zw nofun)) (zw nofun)) (zw nofun))) (@zg _ _ _ _ _ _ _ _ z8 (@zg _ _ _ _ _ _ _ _ yh (pv 2) (@zc _ _ _ _)) (@zc _ _ _ _)) (fun _ _ => rfl)) (tj (pv 0) (pv 1) (vm (hu10 hr))))) (@yc _));have b6 : PSs (cxOf CX0 P w K mg base ["menus", "others", "cell", "way", "first"] "_law_spoiled" (ze zf) f cdv A outer s H E).nox ((zy zf).drop 6) _ := (@y3 _ _ _ _ _ _ @s6 rfl @b7);have s5 : PS ((cxOf CX0 P w K mg base ["menus", "others", "cell", "way", "first"] "_law_spoiled" (ze zf) f cdv A outer s H E).nox) ((zy zf).getD 5 (.Pass ⟨0, 0, 0, 0⟩)) _ := (@yl _ _ _ _ _ _ _ _ (@ye _ _ _ _ _ _ _ _ xy (pv 3) (@zc _ _ _ _) (yf _)) (@zi _ _ _ (vd (@au _ _) (tj (pv 0) (pv 1) (vm (hu10 hr))))) (@yc _));have b5 : PSs (cxOf CX0 P w K mg base ["menus", "others", "cell", "way", "first"] "_law_spoiled" (ze zf) f cdv A outer s H E).nox ((zy zf).drop 5) _ := (@y3 _ _ _ _ _ _ @s5 rfl @b6);have s4 : PS ((cxOf CX0 P w K mg base ["menus", "others", "cell", "way", "first"] "_law_spoiled" (ze zf) f cdv A outer s H E).nox) ((zy zf).getD 4 (.Pass ⟨0, 0, 0, 0⟩)) _ := (@yl _ _ _ _ _ _ _ _ (@ye _ _ _ _ _ _ _ _ xy (pv 3) (@zc _ _ _ _) (yf _)) (@zi _ _ _ (vd (@fw _ _ _ _ _ (@j0 _ _ _ _ _ _ _ _ _ (pv 4) (@zc _ _ _ _) (@ft _ _)) rfl rfl (by simp) (by decide)) (tj (pv 0) (@zg _ _ _ _ _ _ _ _ ny (pv 1) (@xc _ _ _ _ _ (za (@wm _ _ _ _) (@zb _)))) (vm (hu10 hr))))) (@yc _));have b4 : PSs (cxOf CX0 P w K mg base ["menus", "others", "cell", "way", "first"] "_law_spoiled" (ze zf) f cdv A outer s H E).nox ((zy zf).drop 4) _ := (@y3 _ _ _ _ _ _ @s4 rfl @b5);have s3 : PS ((cxOf CX0 P w K mg base ["menus", "others", "cell", "way", "first"] "_law_spoiled" (ze zf) f cdv A outer s H E).nox) ((zy zf).getD 3 (.Pass ⟨0, 0, 0, 0⟩)) _ := (@yl _ _ _ _ _ _ _ _ (@ye _ _ _ _ _ _ _ _ xy (pv 3) (@zc _ _ _ _) (yf _)) (@zi _ _ _ (vd (@fw _ _ _ _ _ (@j0 _ _ _ _ _ _ _ _ _ (pv 4) (@zc _ _ _ _) (@ft _ _)) rfl rfl (by simp) (by decide)) (tj (pv 0) (@zg _ _ _ _ _ _ _ _ ny (pv 1) (@xc _ _ _ _ _ (za (@wm _ _ _ _) (@zb _)))) (vm (hu10 hr))))) (@yc _));have b3 : PSs (cxOf CX0 P w K mg base ["menus", "others", "cell", "way", "first"] "_law_spoiled" (ze zf) f cdv A outer s H E).nox ((zy zf).drop 3) _ := (@y3 _ _ _ _ _ _ @s3 rfl @b4);have s2 : PS ((cxOf CX0 P w K mg base ["menus", "others", "cell", "way", "first"] "_law_spoiled" (ze zf) f cdv A outer s H E).nox) ((zy zf).getD 2 (.Pass ⟨0, 0, 0, 0⟩)) _ := (@yl _ _ _ _ _ _ _ _ (@ye _ _ _ _ _ _ _ _ mj (pv 3) (@zc _ _ _ _) (yf _)) (@zi _ _ _ (je (zga (hu10 hr) (pv 0) (pv 1) ⟨rfl, rfl, rfl, rfl⟩))) (@yc _));have b2 : PSs (cxOf CX0 P w K mg base ["menus", "others", "cell", "way", "first"] "_law_spoiled" (ze zf) f cdv A outer s H E).nox ((zy zf).drop 2) _ := (@y3 _ _ _ _ _ _ @s2 rfl @b3);have s1 : PS ((cxOf CX0 P w K mg base ["menus", "others", "cell", "way", "first"] "_law_spoiled" (ze zf) f cdv A outer s H E).nox) ((zy zf).getD 1 (.Pass ⟨0, 0, 0, 0⟩)) _ := (@zz _ _ 4 _ _ _ _ sc_law_spoiled.nd (by rfl) (by exact Or.inl rfl) (@yi _ _ _ _ _ _ _ y9 (yu (zb0 rfl) rfl B.list tu (za (@uh _ _ _ _ _ _ (hu10 hr) (pv 0) (pv 1) (fun _ _ => rfl)) (@zb _))) (@zc _ _ _ _) (fun _ _ => rfl)) (by rfl) (by first | exact Or.inl rfl | exact Or.inr rfl));have b1 : PSs (cxOf CX0 P w K mg base ["menus", "others", "cell", "way", "first"] "_law_spoiled" (ze zf) f cdv A outer s H E).nox ((zy zf).drop 1) _ := (@y3 _ _ _ _ _ _ @s1 rfl @b2);have s0 : PS ((cxOf CX0 P w K mg base ["menus", "others", "cell", "way", "first"] "_law_spoiled" (ze zf) f cdv A outer s H E).nox) ((zy zf).getD 0 (.Pass ⟨0, 0, 0, 0⟩)) _ := (@zz _ _ 3 _ _ _ _ sc_law_spoiled.nd (by rfl) (by exact Or.inl rfl) (@zg _ _ _ _ _ _ _ _ z8 (pv 2) (@zc _ _ _ _)) (by rfl) (by first | exact Or.inl rfl | exact Or.inr rfl));have b0 : PSs (cxOf CX0 P w K mg base ["menus", "others", "cell", "way", "first"] "_law_spoiled" (ze zf) f cdv A outer s H E).nox ((zy zf).drop 0) _ := (@y3 _ _ _ _ _ _ @s0 rfl @b1);have b_ := @zbe _ _ _ @b0;refine ⟨_, @b_, ?_⟩;rw [show start ["menus", "others", "cell", "way", "first"] [V.ref m, V.ref b, V.int c] = [some (V.ref m), some (V.ref b), some (V.int c), none, none] from rfl];clear b_ b0 b1 b2 b3 b4 b5 b6 b7 b8 b9 b10 b11 b12 s0 s1 s2 s3 s4 s5 s6 s7 s8 s9 s10 s11 s12;refine hide2 fun T hT => ?_
    simp only [zm, zl, ↓reduceIte]
    obtain ⟨me, hme⟩ : ∃ me, ms[i]? = some me := by
      have := (Zc.mp hi).1;exact ⟨ms[i]'(by rw [N.len]; exact this), Zb _⟩
    have hv := gd N.len nd hi hme;have gt : DGet H m (V.ref b) (valV (yg R ms) (zv r)) := DGet.t (k := zv r) N.at' (by rw [wy]; exact hb);rw [hv] at gt;have hk := N.menu i me hme;obtain ⟨M, f0, f8⟩ := F i;obtain ⟨kv, hkv⟩ : ∃ kv, (fm i)[0]? = some kv := ⟨(fm i)[0], Zb f0⟩;obtain ⟨z, pr, hz, rfl⟩ := M.all kv (Zi hkv);refine ⟨by decide, _, gt, me, rfl, _, hk, fun p hp => ⟨_, .of zd, _, zx (j := 0) (v := V.str z) (by rw [Ze, hkv]; rfl), ?_⟩⟩;have s1 : Same H (upd H p (.lst ((fm i).map fun kv => kV kv.1))) := Same.upd (Same.refl _) hp;generalize upd H p (.lst ((fm i).map fun kv => kV kv.1)) = H1 at *;have N1 := N.mono s1;have hb1 : H1 b = some (.tup ((zv r).map kV)) := by rw [wy]; exact s1 _ _ hb
    have hk1 := s1 _ _ hk;have mem : me ∈ ms := Zi hme;have mm : me ≠ m := fun z => N.ne (z ▸ mem)
    have hrR : r ∈ R := Zi hi;have isd : IsD H1 m := .inr ⟨_, .inl N1.at'⟩
    have gt1 : DGet H1 m (V.ref b) (some (V.ref me)) := by
      have := DGet.t (k := zv r) N1.at' hb1;rw [hv] at this;exact this
    have lk := N1.keys;have good : ∀ {H3 : Hp}, (∀ (j : Nat) (c : Addr), ms[j]? = some c -> H3 c = some (.dK (fm j))) -> ∀ (j : Nat) (c : Addr), ms[j]? = some c -> ∃ b, MenuA P w K H3 (.ref c) outs b := fun h j c e => ⟨true, u7 (h j c e) (F j).1 (F j).2.1 (by have := (F j).2.2; omega)⟩
    have hw : c % 14 = 0 \/ c % 14 = 1 \/ c % 14 = 2 \/ c % 14 = 3 \/ c % 14 = 4 \/ c % 14 = 5 \/ c % 14 = 6 \/ (7 <= c % 14 /\ c % 14 <= 9) \/ c % 14 = 10 \/ c % 14 = 11 \/ 12 <= c % 14 := by omega
    rcases hw with e | e | e | e | e | e | e | e | e | e | e
    . rw [hT]
      clear hT T;refine wc (xn rfl (decide_eq_true (by omega))) fun T hT => ?_
      simp only [zm, zl, ↓reduceIte];have := du (kvs := yg R ms) (by rw [vz N.len]; exact Yg.mpr (List.Pairwise.imp (fun {a b} hab e => hab (xr e)) nd)) (ku hv);refine ⟨isd, _, N1.at', zv r, hb1, ⟨_, hv⟩, ?_⟩;rw [hT];exact zh (zu rfl (by omega)) (zh (zu rfl (by omega)) (zh (zu rfl (by omega)) (zh (zu rfl (by omega)) (zh (zu rfl (by omega)) (zh (zu rfl (by omega)) (zh (uj (xn rfl (decide_eq_true (by omega))) (o5 rfl (decide_eq_false (by omega)))) (zh (zu rfl (by omega)) (zh (zu rfl (by omega)) (⟨_, rfl, q _ _ (Same.upd N1.same N1.nm) (fun _ => qo zd (by omega)) (fun z => by omega)⟩)))))))))
    . rw [hT]
      clear hT T;refine wc (xn rfl (decide_eq_true (by omega))) fun T hT => ?_
      simp only [zm, zl, ↓reduceIte];refine ⟨isd, _, N1.at', zv r, hb1, ⟨_, hv⟩, ?_⟩;rw [hT];clear hT T;refine wc (om rfl (by omega)) fun T hT => ?_
      simp only [zm, zl, ↓reduceIte];refine fun p1 hp1 => ⟨zd, [(Sum.inr z, V.int 1)], rfl, by show 1 <= 15; decide, by decide, fun p2 hp2 => ?_⟩
      have bm : b ≠ m := fun z => by rw [z, N1.at'] at hb1; cases hb1
      have h2m : upd H1 m (.dT (y6 (yg R ms) (zv r))) m = some (.dT (y6 (yg R ms) (zv r))) := zd;have h2 : ∀ c u, c ≠ m -> H1 c = some u -> upd H1 m (.dT (y6 (yg R ms) (zv r))) c = some u := fun c u hc h => by rw [zn hc]; exact h
      have S0 : Same H0 (upd H1 m (.dT (y6 (yg R ms) (zv r)))) := Same.upd N1.same N1.nm;generalize upd H1 m (.dT (y6 (yg R ms) (zv r))) = H2 at *;have s3 : Same H2 (upd (upd H2 p1 (.dK [])) p1 (.dK (vv [] [(Sum.inr z, V.int 1)]))) := Same.upd (Same.upd (Same.refl _) hp1) hp1;generalize upd (upd H2 p1 (.dK [])) p1 (.dK (vv [] [(Sum.inr z, V.int 1)])) = H3 at *;have s4 : Same H3 (upd H3 p2 (.tup [V.str (Str.ofString "word")])) := Same.upd (Same.refl _) hp2;have c4 : upd H3 p2 (.tup [V.str (Str.ofString "word")]) p2 = some (.tup [V.str (Str.ofString "word")]) := zd;generalize upd H3 p2 (.tup [V.str (Str.ofString "word")]) = H4 at *;refine ⟨_, (s3.trans s4) _ _ (h2 _ _ bm hb1), _, c4, by rw [Za, zv, Za]; exact Zd (show r.length + 1 <= 9 by omega) (by decide), fun H5 p5 S5 h5 => ?_⟩;have S25 := s3.trans (s4.trans S5);have h5' : H5 p5 = some (.tup ((zv (r ++ [Str.ofString "word"])).map kV)) := by rw [h5, zv, zv, Zn, Zn]; rfl
      have ld : (y6 (yg R ms) (zv r)).length <= R.length := by have := ag (yg R ms) (zv r); omega
      refine ⟨_, DPut.t (S25 _ _ h2m) h5' (ZR (Zd ld l4) (by decide)), hT ▸ zh (zu rfl (by omega)) (zh (zu rfl (by omega)) (zh (zu rfl (by omega)) (zh (zu rfl (by omega)) (zh (zu rfl (by omega)) (zh (uj (xn rfl (decide_eq_true (by omega))) (o5 rfl (decide_eq_false (by omega)))) (zh (zu rfl (by omega)) (zh (zu rfl (by omega)) (⟨_, rfl, q _ _ (Same.upd (S0.trans S25) N1.nm) (fun _ => ?_) (fun z => by omega)⟩))))))))⟩
      by_cases le : (putK (y6 (yg R ms) (zv r)) (zv (r ++ [Str.ofString "word"])) (V.ref p1)).length = R.length
      . refine kx N1 nd hrR zd le (fun q hq hqr => ?_) (good fun j c' h => ?_) ?_
        . rw [si, if_neg (fun y => hR (by rw [<- xr y]; exact hq)), oy, if_neg (fun y => hqr (xr y))]
        . have cm : c' ≠ m := fun y => N.ne (y ▸ Zi h)
          rw [zn cm];exact S25 _ _ (h2 _ _ cm (N1.menu j c' h))
        . rw [si, if_neg (fun y => hR (by rw [<- xr y]; exact hrR)), oy, if_pos rfl]
          exact .inl ⟨rfl, p0⟩
      . exact qo zd le
    . rw [hT]
      clear hT T;refine zh (xn rfl (decide_eq_false (by omega))) (zh (zu rfl (by omega)) (wc (om rfl (by omega)) fun T hT => ?_));simp only [zm, zl, ↓reduceIte];refine fun p1 hp1 => ⟨zd, [(Sum.inr z, V.int 1)], rfl, by show 1 <= 15; decide, by decide, fun p2 hp2 => ?_⟩
      have s3 : Same H1 (upd (upd H1 p1 (.dK [])) p1 (.dK (vv [] [(Sum.inr z, V.int 1)]))) := Same.upd (Same.upd (Same.refl _) hp1) hp1;generalize upd (upd H1 p1 (.dK [])) p1 (.dK (vv [] [(Sum.inr z, V.int 1)])) = H3 at *;have s4 : Same H3 (upd H3 p2 (.tup [V.str (Str.ofString "word")])) := Same.upd (Same.refl _) hp2;have c4 : upd H3 p2 (.tup [V.str (Str.ofString "word")]) p2 = some (.tup [V.str (Str.ofString "word")]) := zd;generalize upd H3 p2 (.tup [V.str (Str.ofString "word")]) = H4 at *;refine ⟨_, (s3.trans s4) _ _ hb1, _, c4, by rw [Za, zv, Za]; exact Zd (show r.length + 1 <= 9 by omega) (by decide), fun H5 p5 S5 h5 => ?_⟩;have S15 := s3.trans (s4.trans S5);have h5' : H5 p5 = some (.tup ((zv (r ++ [Str.ofString "word"])).map kV)) := by rw [h5, zv, zv, Zn, Zn]; rfl
      refine ⟨_, DPut.t (S15 _ _ N1.at') h5' (by rw [lk]; exact ZR l4 (by decide)), hT ▸ zh (zu rfl (by omega)) (zh (zu rfl (by omega)) (zh (zu rfl (by omega)) (zh (zu rfl (by omega)) (zh (uj (xn rfl (decide_eq_true (by omega))) (o5 rfl (decide_eq_false (by omega)))) (zh (zu rfl (by omega)) (zh (zu rfl (by omega)) (⟨_, rfl, q _ _ (Same.upd (N1.same.trans S15) N1.nm) (fun _ => qo zd ?_) (fun z => by omega)⟩)))))))⟩;rw [m7 _ (zfk N.len hR), Zo, lk]
      show R.length + 1 ≠ _
      omega
    . rw [hT]
      clear hT T;refine zh (xn rfl (decide_eq_false (by omega))) (zh (zu rfl (by omega)) (zh (zu rfl (by omega)) (wc (om rfl (by omega)) fun T hT => ?_)));simp only [zm, zl, ↓reduceIte];refine fun p1 hp1 => ?_
      have s2 : Same H1 (upd H1 p1 (.dK [])) := Same.upd (Same.refl _) hp1;have c2 : upd H1 p1 (.dK []) p1 = some (.dK []) := zd;generalize upd H1 p1 (.dK []) = H2 at *;have pm : p1 ≠ m := fun z => by rw [z, s2 _ _ N1.at'] at c2; cases c2
      refine ⟨_, DPut.t (k := zv r) (s2 _ _ N1.at') (s2 _ _ hb1) (by rw [lk]; exact ZR l4 (by decide)), hT ▸ zh (zu rfl (by omega)) (zh (zu rfl (by omega)) (zh (zu rfl (by omega)) (zh (uj (xn rfl (decide_eq_true (by omega))) (o5 rfl (decide_eq_false (by omega)))) (zh (zu rfl (by omega)) (zh (zu rfl (by omega)) (⟨_, rfl, q _ _ (Same.upd (N1.same.trans s2) N1.nm) (fun _ => ?_) (fun z => by omega)⟩))))))⟩
      refine kx N1 nd hrR zd (by rw [az hv, lk]) (fun q _ hq => by rw [si, if_neg (fun z => hq (xr z))]) (good fun j c' h => by
        have cm : c' ≠ m := fun y => N.ne (y ▸ Zi h)
        rw [zn cm]
        exact s2 _ _ (N1.menu j c' h)) ?_
      rw [si, if_pos rfl];exact .inr (.inl ⟨p1, [], [], rfl, by rw [zn pm]; exact c2, by decide, ⟨rfl, fun i kv c e => by simp at e⟩, rfl⟩)
    . rw [hT]
      clear hT T;refine zh (xn rfl (decide_eq_false (by omega))) (zh (zu rfl (by omega)) (zh (zu rfl (by omega)) (zh (zu rfl (by omega)) (wc (om rfl (by omega)) fun T hT => ?_))));simp only [zm, zl, ↓reduceIte];refine ⟨by decide, fun p1 hp1 => ⟨by decide, fun p2 hp2 => ⟨by decide, fun p3 hp3 => ⟨by decide, fun p4 hp4 => ⟨⟨by decide, by decide⟩, by decide, _, .of zd, ?_⟩⟩⟩⟩⟩;have s2 : Same H1 (upd H1 p1 (.lst [])) := Same.upd (Same.refl _) hp1;have c2 : upd H1 p1 (.lst []) p1 = some (.lst []) := zd;generalize upd H1 p1 (.lst []) = H2 at *;have s3 : Same H2 (upd H2 p2 (.lst [V.str z])) := Same.upd (Same.refl _) hp2;have c3 : upd H2 p2 (.lst [V.str z]) p2 = some (.lst [V.str z]) := zd;generalize upd H2 p2 (.lst [V.str z]) = H3 at *;have s4 : Same H3 (upd H3 p3 (.tup [V.str z, V.int 1])) := Same.upd (Same.refl _) hp3;have c4 : upd H3 p3 (.tup [V.str z, V.int 1]) p3 = some (.tup [V.str z, V.int 1]) := zd;generalize upd H3 p3 (.tup [V.str z, V.int 1]) = H4 at *;have s5 : Same H4 (upd H4 p4 (.lst [V.non, V.ref p1, V.ref p2, V.ref p3, V.str (Str.ofString "menu"), V.bl true])) := Same.upd (Same.refl _) hp4;generalize upd H4 p4 (.lst [V.non, V.ref p1, V.ref p2, V.ref p3, V.str (Str.ofString "menu"), V.bl true]) = H5 at *;have S5 := s2.trans (s3.trans (s4.trans s5))
      obtain ⟨v, hva, hN⟩ : ∃ v, atI [V.non, V.ref p1, V.ref p2, V.ref p3, V.str (Str.ofString "menu"), V.bl true] (c / 14 % 6) = some v /\ ∀ H6 : Hp, (∀ c us, H5 c = some (.lst us) -> H6 c = some (.lst us)) -> (∀ c us, H5 c = some (.tup us) -> H6 c = some (.tup us)) -> NoDic K H6 v := by
        have hidx : c / 14 % 6 = 0 \/ c / 14 % 6 = 1 \/ c / 14 % 6 = 2 \/ c / 14 % 6 = 3 \/ c / 14 % 6 = 4 \/ c / 14 % 6 = 5 := by omega
        obtain ⟨k1, k2, k3, k4, k5⟩ := ze6
        rcases hidx with e | e | e | e | e | e <;> rw [e]
        . exact ⟨_, zx (j := 0) rfl, fun H6 _ _ => p0⟩
        . exact ⟨_, zx (j := 1) rfl, fun H6 L _ => ⟨_, .lst (L _ _ ((s3.trans (s4.trans s5)) _ _ c2)), k1⟩⟩
        . exact ⟨_, zx (j := 2) rfl, fun H6 L _ => ⟨_, .lst (L _ _ ((s4.trans s5) _ _ c3)), k1⟩⟩
        . exact ⟨_, zx (j := 3) rfl, fun H6 _ T => ⟨_, .tup (T _ _ (s5 _ _ c4)), k2⟩⟩
        . exact ⟨_, zx (j := 4) rfl, fun H6 _ _ => ⟨_, .str _, k3⟩⟩
        . exact ⟨_, zx (j := 5) rfl, fun H6 _ _ => ⟨_, .bl _, k4⟩⟩
      refine ⟨v, hva, _, DPut.t (k := zv r) (S5 _ _ N1.at') (S5 _ _ hb1) (by rw [lk]; exact ZR l4 (by decide)), hT ▸ zh (zu rfl (by omega)) (zh (zu rfl (by omega)) (zh (uj (xn rfl (decide_eq_true (by omega))) (o5 rfl (decide_eq_false (by omega)))) (zh (zu rfl (by omega)) (zh (zu rfl (by omega)) (⟨_, rfl, q _ _ (Same.upd (N1.same.trans S5) N1.nm) (fun _ => ?_) (fun z => by omega)⟩)))))⟩;have h5m := S5 _ _ N1.at'
      refine kx N1 nd hrR zd (by rw [az hv, lk]) (fun q _ hq => by rw [si, if_neg (fun z => hq (xr z))]) (good fun j c' h => by
        have cm : c' ≠ m := fun y => N.ne (y ▸ Zi h)
        rw [zn cm]
        exact S5 _ _ (N1.menu j c' h)) ?_
      rw [si, if_pos rfl];exact .inl ⟨rfl, hN _ (fun c' us h => by rw [zn (fun y => by rw [y, h5m] at h; cases h)]; exact h) (fun c' us h => by rw [zn (fun y => by rw [y, h5m] at h; cases h)]; exact h)⟩
    . rw [hT]
      clear hT T;refine zh (xn rfl (decide_eq_false (by omega))) (zh (zu rfl (by omega)) (zh (zu rfl (by omega)) (zh (zu rfl (by omega)) (zh (zu rfl (by omega)) (wc (om rfl (by omega)) fun T hT => ?_)))));simp only [zm, zl, ↓reduceIte]
      have hOth : ¬ Str.ofString "Other" ∈ outs := fun h => by
        have := (G _ h).2.2 79 (by decide +kernel);omega
      refine ⟨_, gt1, me, rfl, _, DPut.k (k := Sum.inr (Str.ofString "Other")) hk1 (ZR f8 (by decide)), hT ▸ zh (zu rfl (by omega)) (zh (uj (xn rfl (decide_eq_true (by omega))) (o5 rfl (decide_eq_false (by omega)))) (zh (zu rfl (by omega)) (zh (zu rfl (by omega)) (⟨_, rfl, q _ _ (Same.upd N1.same (N1.new me mem)) (fun _ => ?_) (fun z => by omega)⟩))))⟩
      have bad : MenuA P w K (upd H1 me (.dK (putK (fm i) (Sum.inr (Str.ofString "Other")) (V.int 1)))) (.ref me) outs false := by
        refine i9 zd (by have := x5 (fm i) (Sum.inr (Str.ofString "Other")) (V.int 1); omega) (fun kv h => ?_) ⟨_, za8, _, true, rfl, .int 1, by rw [decide_eq_false hOth]; rfl⟩
        rcases bc h with rfl | h
        . exact ⟨_, true, rfl, .int 1⟩
        . obtain ⟨o', pr', _, rfl⟩ := M.all kv h
          exact ⟨o', true, rfl, .int pr'⟩
      refine kx N1 nd hrR (by rw [zn (Ne.symm mm)]; exact N1.at') lk (fun q _ _ => rfl) (fun j c h => ?_) (by rw [hv]; exact bad)
      by_cases z : c = me
      . rw [z]; exact ⟨false, bad⟩
      . exact ⟨true, u7 (by rw [zn z]; exact N1.menu j c h) (F j).1 (F j).2.1 (by have := (F j).2.2; omega)⟩
    . rw [hT]
      clear hT T;refine zh (xn rfl (decide_eq_false (by omega))) (zh (zu rfl (by omega)) (zh (zu rfl (by omega)) (zh (zu rfl (by omega)) (zh (zu rfl (by omega)) (zh (zu rfl (by omega)) (wc (om rfl (by omega)) fun T hT => ?_))))));simp only [zm, zl, ↓reduceIte];refine ⟨_, gt1, me, rfl, _, hk1, ZR f8 (by decide), hT ▸ zh (uj (xn rfl (decide_eq_true (by omega))) (o5 rfl (decide_eq_false (by omega)))) (zh (zu rfl (by omega)) (zh (zu rfl (by omega)) (⟨_, rfl, q _ _ (Same.upd N1.same (N1.new me mem)) (fun _ => ?_) (fun z => by omega)⟩)))⟩
      have bad : MenuA P w K (upd H1 me (xk P w me (qj (fm i) (V.int 1)))) (.ref me) outs false := by
        refine zcr zd (by omega) (fun kv h => ?_) (.int 1);obtain ⟨o', pr', _, rfl⟩ := M.all kv h;exact ⟨o', true, rfl, .int pr'⟩
      refine kx N1 nd hrR (by rw [zn (Ne.symm mm)]; exact N1.at') lk (fun q _ _ => rfl) (fun j c h => ?_) (by rw [hv]; exact bad)
      by_cases z : c = me
      . rw [z]; exact ⟨false, bad⟩
      . exact ⟨true, u7 (by rw [zn z]; exact N1.menu j c h) (F j).1 (F j).2.1 (by have := (F j).2.2; omega)⟩
    . rw [hT]
      clear hT T;refine zh (xn rfl (decide_eq_false (by omega))) (zh (zu rfl (by omega)) (zh (zu rfl (by omega)) (zh (zu rfl (by omega)) (zh (zu rfl (by omega)) (zh (zu rfl (by omega)) (zh (zu rfl (by omega)) (wc (uj (xn rfl (decide_eq_true (by omega))) (o5 rfl (decide_eq_true (by omega)))) fun T hT => ?_)))))));simp only [zm, zl, ↓reduceIte];refine ⟨by decide, fun p1 hp1 => ⟨by decide, fun p2 hp2 => ⟨by decide, fun p3 hp3 => ⟨⟨by decide, by decide⟩, by decide, _, .of zd, ?_⟩⟩⟩⟩;have s2 : Same H1 (upd H1 p1 (.lst [V.int 1])) := Same.upd (Same.refl _) hp1;have c2 : upd H1 p1 (.lst [V.int 1]) p1 = some (.lst [V.int 1]) := zd;generalize upd H1 p1 (.lst [V.int 1]) = H2 at *;have s3 : Same H2 (upd H2 p2 (.tup [])) := Same.upd (Same.refl _) hp2;have c3 : upd H2 p2 (.tup []) p2 = some (.tup []) := zd;generalize upd H2 p2 (.tup []) = H3 at *;have s4 : Same H3 (upd H3 p3 (.lst [V.non, V.bl true, V.str (Str.ofString "1"), V.ref p1, V.ref p2, V.bl false])) := Same.upd (Same.refl _) hp3;generalize upd H3 p3 (.lst [V.non, V.bl true, V.str (Str.ofString "1"), V.ref p1, V.ref p2, V.bl false]) = H4 at *;have S4 := s2.trans (s3.trans s4);obtain ⟨v, hva, hP⟩ := zdk (c := c / 14) ((s3.trans s4) _ _ c2) (s4 _ _ c3)
      have gt4 : DGet H4 m (V.ref b) (some (V.ref me)) := by
        have := DGet.t (k := zv r) (S4 _ _ N1.at') (S4 _ _ hb1);rw [hv] at this;exact this
      have h4e := S4 _ _ hk1;refine ⟨v, hva, _, gt4, me, rfl, _, DPut.k (k := Sum.inr z) h4e (ZR f8 (by decide)), hT ▸ zh (zu rfl (by omega)) (zh (zu rfl (by omega)) (⟨_, rfl, q _ _ (Same.upd (N1.same.trans S4) (N1.new me mem)) (fun _ => ?_) (fun z => by omega)⟩))⟩;have pv : Pr (upd H4 me (.dK (putK (fm i) (Sum.inr z) v))) v false := hP.mono (fun c' us h => by rw [zn (fun y => by rw [y, h4e] at h; cases h)]; exact h) (fun c' us h => by rw [zn (fun y => by rw [y, h4e] at h; cases h)]; exact h)
      have bad : MenuA P w K (upd H4 me (.dK (putK (fm i) (Sum.inr z) v))) (.ref me) outs false := by
        refine i9 zd (by have := x5 (fm i) (Sum.inr z) v; omega) (fun kv h => ?_) ⟨_, za8, _, false, rfl, pv, by rw [Bool.and_false]⟩
        rcases bc h with rfl | h
        . exact ⟨_, false, rfl, pv⟩
        . obtain ⟨o', pr', _, rfl⟩ := M.all kv h
          exact ⟨o', true, rfl, .int pr'⟩
      refine kx N1 nd hrR (by rw [zn (Ne.symm mm)]; exact S4 _ _ N1.at') lk (fun q _ _ => rfl) (fun j c' h => ?_) (by rw [hv]; exact bad)
      by_cases y : c' = me
      . rw [y]; exact ⟨false, bad⟩
      . exact ⟨true, u7 (by rw [zn y]; exact S4 _ _ (N1.menu j c' h)) (F j).1 (F j).2.1 (by have := (F j).2.2; omega)⟩
    . rw [hT]
      clear hT T;refine zh (xn rfl (decide_eq_false (by omega))) (zh (zu rfl (by omega)) (zh (zu rfl (by omega)) (zh (zu rfl (by omega)) (zh (zu rfl (by omega)) (zh (zu rfl (by omega)) (zh (zu rfl (by omega)) (zh (fb (xn rfl (decide_eq_false (by omega)))) (wc (om rfl (by omega)) fun T hT => ?_))))))));simp only [zm, zl, ↓reduceIte];refine ⟨by decide, fun p1 hp1 => ⟨_, (Same.upd (Same.refl _) hp1) _ _ N1.at', fun as _ p2 hp2 => ⟨by decide, fun p3 hp3 => ⟨⟨by decide, by decide⟩, by decide, _, .of zd, ?_⟩⟩⟩⟩;have s2 : Same H1 (upd H1 p1 (.lst [])) := Same.upd (Same.refl _) hp1;have c2 : upd H1 p1 (.lst []) p1 = some (.lst []) := zd;generalize upd H1 p1 (.lst []) = H2 at *;have s3 : Same H2 (upd H2 p2 (.lst (as.map V.ref))) := Same.upd (Same.refl _) hp2;have c3 : upd H2 p2 (.lst (as.map V.ref)) p2 = some (.lst (as.map V.ref)) := zd;generalize upd H2 p2 (.lst (as.map V.ref)) = H3 at *;have s4 : Same H3 (upd H3 p3 (.lst [V.non, V.ref p1, V.ref p2, V.str (Str.ofString "menus"), V.bl true])) := Same.upd (Same.refl _) hp3;generalize upd H3 p3 (.lst [V.non, V.ref p1, V.ref p2, V.str (Str.ofString "menus"), V.bl true]) = H4 at *;have S4 := N1.same.trans (s2.trans (s3.trans s4));have hidx : c / 14 % 5 = 0 \/ c / 14 % 5 = 1 \/ c / 14 % 5 = 2 \/ c / 14 % 5 = 3 \/ c / 14 % 5 = 4 := by omega
      obtain ⟨k1, k2, k3, k4, k5⟩ := ze6
      rcases hidx with e' | e' | e' | e' | e' <;> rw [e']
      . exact ⟨_, zx (j := 0) rfl, q _ _ S4 (fun _ => .inl ⟨rfl, p0⟩) fun z => by omega⟩
      . exact ⟨_, zx (j := 1) rfl, q _ _ S4 (fun _ => .inl ⟨rfl, _, .lst ((s3.trans s4) _ _ c2), k1⟩) fun z => by omega⟩
      . exact ⟨_, zx (j := 2) rfl, q _ _ S4 (fun _ => .inl ⟨rfl, _, .lst (s4 _ _ c3), k1⟩) fun z => by omega⟩
      . exact ⟨_, zx (j := 3) rfl, q _ _ S4 (fun _ => .inl ⟨rfl, _, .str _, k3⟩) fun z => by omega⟩
      . exact ⟨_, zx (j := 4) rfl, q _ _ S4 (fun _ => .inl ⟨rfl, _, .bl _, k4⟩) fun z => by omega⟩
    . rw [hT]
      clear hT T;refine zh (xn rfl (decide_eq_false (by omega))) (zh (zu rfl (by omega)) (zh (zu rfl (by omega)) (zh (zu rfl (by omega)) (zh (zu rfl (by omega)) (zh (zu rfl (by omega)) (zh (zu rfl (by omega)) (zh (fb (xn rfl (decide_eq_false (by omega)))) (zh (zu rfl (by omega)) (wc (om rfl (by omega)) fun T hT => ?_)))))))));simp only [zm, zl, ↓reduceIte];refine fun p1 hp1 => ?_
      have s2 : Same H1 (upd H1 p1 (.dK [])) := Same.upd (Same.refl _) hp1
      have gt2 : DGet (upd H1 p1 (.dK [])) m (V.ref b) (some (V.ref me)) := by
        have := DGet.t (k := zv r) (s2 _ _ N1.at') (s2 _ _ hb1);rw [hv] at this;exact this
      have h0 := N1.same.free hp1;exact ⟨_, gt2, zd, [(Sum.inr (Str.ofString "row"), V.ref me)], rfl, by show 1 <= 15; decide, q _ _ (Same.upd (Same.upd N1.same h0) h0) (fun _ => .inr (.inl ⟨rfl, p1, _, _, rfl, zd⟩)) fun z => by omega⟩
    . rw [hT]
      exact zh (xn rfl (decide_eq_false (by omega))) (zh (zu rfl (by omega)) (zh (zu rfl (by omega)) (zh (zu rfl (by omega)) (zh (zu rfl (by omega)) (zh (zu rfl (by omega)) (zh (zu rfl (by omega)) (zh (fb (xn rfl (decide_eq_false (by omega)))) (zh (zu rfl (by omega)) (zh (zu rfl (by omega)) (⟨_, rfl, q _ _ N1.same (fun z => by omega) fun _ => ⟨rfl, N1.at', lk, fun r' hr' => by
        obtain ⟨j, me', _, _, h2, h3⟩ := N1.val nd hr'
        exact ⟨me', _, h2, h3, (F j).1, (F j).2.1, (F j).2.2⟩⟩⟩))))))))))
end
def J47 (a : Ad) (H4 : Hp) (σ0 : L2.St) (σ : L2.St) (c : Value) (H' : Hp) : Prop := Same H4 H' /\ σ = σ0 /\ c = .ref a.NoMenu
def ze5 (P : Program) (w : World) (K : Fg) : Sp := fun vs H Q _ => ∃ (p o h : Addr) (y : V) (hs : List Addr) (outs : List Str) (ds : List HD) (k : Nat), vs = [.ref p, .int k, y] /\ HHouse H p o h hs outs ds /\ GoodHouse outs ds /\ k < ds.length /\
  ((MenusA P w K H y outs (z0 ((ds.eraseIdx k).map HD.words)) false /\ ∀ H' t kd, Same H H' -> H' t = some (.tup [.non, .ref kd]) -> H' kd = some (.lst [V.bl true, V.bl true, V.bl false, V.bl false]) -> Q (.ref t) H') \/
   ∃ (m : Addr) (kvs : List (List Key × V)), y = .ref m /\ MenusAt H m kvs outs (z0 ((ds.eraseIdx k).map HD.words)) /\ ∀ H' t tb f, Same H H' -> H' t = some (.tup [.ref tb, .non]) -> H' tb = some (.dT (wn f (z0 (ds.map HD.words)))) -> Q (.ref t) H')
section
variable {P : Program} {w : World} {K : Fg} {mg : Str -> Option Value} {base : Heap} {a : Ad}
theorem qk (B : Bt mg) (C : Ct K mg a) (qe : FnAtX P w K mg base "menus_table" 5 ["house", "k", "menus"] (ah a P w K)) (D : zj K mg "_law_told" qq ["house", "k", "menus"]) : FnAt P w K mg base "_law_told" 6 ["house", "k", "menus"] (ze5 P w K) := by
  refine FnAt.of D sc_law_told (fun vs H Q E h => ?_) (fun f cdv A outer s H vs Q E hr h => ?_)
  . obtain ⟨p, o, h, y, hs, outs, ds, k, rfl, _⟩ := h
    rfl
  . obtain ⟨p, o, h, y, hs, outs, ds, k, rfl, hH, G, hk, hx⟩ := h
    refine ⟨_, (@zk _ _ _ _ _ (zz (i := 3) sc_law_told.nd rfl (Or.inl rfl) (@qz _ _ _)) (@zk _ _ _ _ _ (zz (i := 4) sc_law_told.nd rfl (Or.inl rfl) (@qz _ _ _)) (@zk _ _ _ _ _ (zes (i := 5) C.q_TrueError.toErr rfl C.m_TrueError sc_law_told.nd rfl rfl (fun J pn => (@zi _ _ _ (zz (i := 3) sc_law_told.nd rfl (Or.inl rfl) (zgm qe (hr.mono (by decide)) zed rfl (za (pv 0) (za (pv 1) (za (pv 2) (@zb _)))))))) (fun e => (@zi _ _ _ (zz (i := 4) sc_law_told.nd rfl (Or.inl rfl) (@xg _ _ _ _ (za (zq bf rfl B.isinstance yd (za (pv 5) (za (wv (v := .ref a.NoMenu) rfl C.m_NoMenu rfl) (@zb _)))) (za (zq cx rfl B.isinstance yd (za (pv 5) (za (w6 rfl B.ValueError d7) (@zb _)))) (za (zq m8 rfl B.isinstance yd (@za _ _ _ _ _ (pv 5) (@za _ _ _ _ _ (@xc _ _ _ _ _ (@za _ _ _ _ _ (wv (v := .ref a.NoHouse) rfl C.m_NoHouse rfl) (@za _ _ _ _ _ (wv (v := .ref a.NoPays) rfl C.m_NoPays rfl) (@za _ _ _ _ _ (wv (v := .ref a.NoRow) rfl C.m_NoRow rfl) (@za _ _ _ _ _ (wv (v := .ref a.NoRule) rfl C.m_NoRule rfl) (@zb _) (zw nofun)) (zw nofun)) (zw nofun)) (zw nofun))) (@zb _) (zw nofun)) (zw nofun))) (za (zq m8 rfl B.isinstance yd (@za _ _ _ _ _ (pv 5) (@za _ _ _ _ _ (@xc _ _ _ _ _ (@za _ _ _ _ _ (wv (v := .ref a.NoShare) rfl C.m_NoShare rfl) (@za _ _ _ _ _ (wv (v := .ref a.NoStand) rfl C.m_NoStand rfl) (@za _ _ _ _ _ (wv (v := .ref a.NoWeight) rfl C.m_NoWeight rfl) (@za _ _ _ _ _ (wv (v := .ref a.NoWord) rfl C.m_NoWord rfl) (@zb _) (zw nofun)) (zw nofun)) (zw nofun)) (zw nofun))) (@zb _) (zw nofun)) (zw nofun))) (@zb _)))))))))) (@zi _ _ _ (@zt _ _ _ _ (@xc _ _ _ _ _ (za (pv 3) (za (pv 4) (@zb _))))))))), ?_⟩;rw [show start ["house", "k", "menus", "found", "kinds", "e"] [V.ref p, V.int k, y] = [some (V.ref p), some (V.int k), some y, none, none, none] from rfl];simp only [zm, zl, ↓reduceIte]
    rcases hx with ⟨M, q⟩ | ⟨m, kvs, rfl, M, q⟩
    . refine ⟨J47 a H [some (V.ref p), some (V.int k), some y, some V.non, some V.non, none], fun pn => .inl ⟨p, o, h, y, hs, outs, ds, k, rfl, hH, G, hk, M, fun H1 S1 => ⟨S1, rfl, rfl⟩⟩, fun σ1 c H2 hJ => ?_⟩
      obtain ⟨S2, rfl, rfl⟩ := hJ;refine ⟨_, rfl, C.q_NoMenu.toErr, C.s_NoMenu_TrueError, fun e ea hea => ?_⟩;have Sa : Same H2 (upd H2 ea (ExcO ea a.NoMenu)) := Same.upd (Same.refl _) hea;have ha : upd H2 ea (ExcO ea a.NoMenu) ea = some (ExcO ea a.NoMenu) := zd;generalize upd H2 ea (ExcO ea a.NoMenu) = H3 at *;refine ⟨_, rfl, _, rfl, _, ha, C.q_NoMenu, _, C.k_NoMenu_NoMenu, _, rfl, _, rfl, _, ha, C.q_NoMenu, _, C.v_NoMenu, _, rfl, by decide, fun p1 hp1 => ?_⟩;have Sb : Same H3 (upd H3 p1 (.tup [V.ref a.NoHouse, V.ref a.NoPays, V.ref a.NoRow, V.ref a.NoRule])) := Same.upd (Same.refl _) hp1;have hb : upd H3 p1 (.tup [V.ref a.NoHouse, V.ref a.NoPays, V.ref a.NoRow, V.ref a.NoRule]) p1 = some (.tup [V.ref a.NoHouse, V.ref a.NoPays, V.ref a.NoRow, V.ref a.NoRule]) := zd;generalize upd H3 p1 (.tup [V.ref a.NoHouse, V.ref a.NoPays, V.ref a.NoRow, V.ref a.NoRule]) = H4 at *;refine ⟨_, rfl, _, Sb _ _ ha, C.q_NoMenu, [a.NoHouse, a.NoPays, a.NoRow, a.NoRule], .of hb, false, o7 ⟨C.k_NoMenu_NoHouse, C.k_NoMenu_NoPays, C.k_NoMenu_NoRow, C.k_NoMenu_NoRule, trivial⟩, ?_⟩;refine ⟨_, rfl, by decide, fun p2 hp2 => ?_⟩;have Sc : Same H4 (upd H4 p2 (.tup [V.ref a.NoShare, V.ref a.NoStand, V.ref a.NoWeight, V.ref a.NoWord])) := Same.upd (Same.refl _) hp2;have hcc : upd H4 p2 (.tup [V.ref a.NoShare, V.ref a.NoStand, V.ref a.NoWeight, V.ref a.NoWord]) p2 = some (.tup [V.ref a.NoShare, V.ref a.NoStand, V.ref a.NoWeight, V.ref a.NoWord]) := zd;generalize upd H4 p2 (.tup [V.ref a.NoShare, V.ref a.NoStand, V.ref a.NoWeight, V.ref a.NoWord]) = H5 at *;refine ⟨_, rfl, _, (Sb.trans Sc) _ _ ha, C.q_NoMenu, [a.NoShare, a.NoStand, a.NoWeight, a.NoWord], .of hcc, false, o7 ⟨C.k_NoMenu_NoShare, C.k_NoMenu_NoStand, C.k_NoMenu_NoWeight, C.k_NoMenu_NoWord, trivial⟩, by decide, fun p3 hp3 => ?_⟩;have Sd : Same H5 (upd H5 p3 (.lst [V.bl true, V.bl true, V.bl false, V.bl false])) := Same.upd (Same.refl _) hp3;have hdd : upd H5 p3 (.lst [V.bl true, V.bl true, V.bl false, V.bl false]) p3 = some (.lst [V.bl true, V.bl true, V.bl false, V.bl false]) := zd;generalize upd H5 p3 (.lst [V.bl true, V.bl true, V.bl false, V.bl false]) = H6 at *;simp only [iu, zm, zl, ↓reduceIte];refine ⟨by decide, fun p4 hp4 => ?_⟩;have Se : Same H6 (upd H6 p4 (.tup [V.non, V.ref p3])) := Same.upd (Same.refl _) hp4;exact q _ p4 p3 (S2.trans (Sa.trans (Sb.trans (Sc.trans (Sd.trans Se))))) zd (Se _ _ hdd)
    . refine ⟨fun _ _ _ => False, fun pn => .inr ⟨p, o, h, m, hs, outs, ds, k, ds[k], kvs, rfl, hH, G, Zb hk, M, fun H1 t f S1 _ ht _ => ⟨by decide, fun p1 hp1 => ?_⟩⟩, fun σ1 c H2 hJ => hJ.elim⟩
      have s2 : Same H1 (upd H1 p1 (.tup [V.ref t, V.non])) := Same.upd (Same.refl _) hp1;exact q _ p1 t f (S1.trans s2) zd (s2 _ _ ht)
end
def zcz (K : Fg) : Sp := fun vs H Q _ => ∃ (a : Addr) (ns : List Int), vs = [.ref a] /\ SqL K H a (ns.map V.int) /\ ns.length <= 63 /\ ∀ H', Q (.bl true) H'
theorem zfd {K : Fg} {f : Addr} {fd : FuncData} (F : Fun K "law" "law" ja f fd) (s : Shared) (u : Value) : BindsTo s fd ⟨[u], []⟩ [("script", u)] := by
  obtain ⟨oc, od, kV, doc, pm, an, cdv, ct, osl, rfl, lk, hcd⟩ := F.ex;exact .of_eq rfl
def tops46 : List Int := [8, 5, 4, 2]
theorem de : Tops tops46 := ⟨rfl, by decide⟩
theorem zct : FewT tops46 := by unfold FewT; decide
theorem zdz {H : Hp} : ∀ {R : List (List Str)} {ms as : List Addr}, ms.length = R.length -> kc H (yg R ms) as -> TupsAt H as R
  | [], [], as, _, h => by
    cases h;exact TupsAt.nil
  | [], _ :: _, _, h, _ => by cases h
  | _ :: _, [], _, h, _ => by cases h
  | r :: R, c :: ms, as, hl, h => by
    cases h with
    | cons h1 h2 => exact (TupsAt.one (r := r) (by rw [<- wy]; exact h1)).append (zdz (by simpa using hl) h2)
theorem MenusA.perm {P : Program} {w : World} {K : Fg} {H : Hp} {y : V} {outs : List Str} {R rs : List (List Str)} (h : MenusA P w K H y outs R false) (p : R.Perm rs) : MenusA P w K H y outs rs false := by
  rcases h with h | h | ⟨m, kvs, rfl, h1, h2⟩
  . exact .inl h
  . exact .inr (.inl h)
  . rcases h2 with ⟨_, h2⟩ | ⟨h2, cs, h3, h4, h5⟩
    . exact qo h1 (by rw [<- p.length_eq]; exact h2)
    . refine iy h1 (h2.trans p.length_eq) (fun q hq => ?_) ?_
      . obtain ⟨i, hi⟩ := ZV (p.mem_iff.mpr hq)
        have li := (Zc.mp hi).1;exact ⟨_, h4 i q _ hi (Zb (by omega))⟩
      . obtain ⟨x, hx, e⟩ := List.all_eq_false.mp h5.symm
        obtain ⟨i, hi⟩ := ZV hx;have li := (Zc.mp hi).1
        have ex : x = false := by cases x with
          | false => rfl
          | true => exact absurd rfl e
        rw [ex] at hi;have hq : R[i]? = some (R[i]'(by omega)) := Zb _;exact ⟨_, p.mem_iff.mp (Zl (by omega)), h4 i _ _ hq hi⟩
theorem MenusAt.perm {H : Hp} {m : Addr} {kvs : List (List Key × V)} {outs : List Str} {R rs : List (List Str)} (h : MenusAt H m kvs outs R) (p : R.Perm rs) : MenusAt H m kvs outs rs := ⟨h.at', h.len.trans p.length_eq, fun r hr => h.menu r (p.mem_iff.mpr hr)⟩
theorem fin47 {K : Fg} {H : Hp} {b tb : Addr} {xs : List HX} {ds : List HD} {outs : List Str} {g : List Str -> Str} {Q : V -> Hp -> Prop} (bH : HandsL H b xs ds) (G : GoodHouse outs ds) (htb : H tb = some (.dT (wn g (z0 (ds.map HD.words))))) (q : ∀ H', Q (.bl true) H') : if decide True = true then ∃ x, TyOf K H (V.ref tb) (Value.type x) /\ ∃ x_1, kit0 x "dict" = some x_1 /\ if x_1 = true then ∃ x, H tb = some (HO.dT x) /\ k8 [V.ref b] H (fun x_2 H1 => ∃ p, x_2 = V.ref p /\ ∃ x_3, (SqL K H1 p x_3 \/ SqT K H1 p x_3) /\ scal (V.int x.length) (V.int x_3.length) = true /\ Q (V.bl (decide ((x.length : Int) = x_3.length))) H1) E0 else Q (V.bl false) H else Q (V.bl false) H := by
  refine iteT ⟨_, .dT htb, true, by decide +kernel, iteT ⟨_, htb, b, xs, ds, rfl, bH, G.hands.2, fun d hd => (G.words1 d hd).2, fun H1 l as S1 R1 => ⟨l, rfl, _, .inl (.of R1.lst), rfl, ?_⟩⟩⟩;rw [Za, R1.tups.len, wn, Za, decide_eq_true rfl];exact q _
section
variable {P : Program} {w : World} {K : Fg} {mg : Str -> Option Value} {base : Heap} {a : Ad}
theorem law_fn (B : Bt mg) (C : Ct K mg a) (yo : FnAt P w K mg base "_law_cell_at" 1 ["script", "k"] (qu K)) (ni : FnAt P w K mg base "_law_parts" 3 ["script", "tops"] (za2 K)) (io : FnAtX P w K mg base "house_of" 7 ["outcomes", "hands"] ar) (uq : FnAt P w K mg base "_law_rows" 1 ["hands"] k8) (rh : FnAt P w K mg base "_law_menus" 3 ["script", "outcomes", "hands", "k"] (zbb K)) (qd : FnAt P w K mg base "_law_spoiled" 1 ["menus", "others", "cell"] (zbs P w K)) (qk : FnAt P w K mg base "_law_told" 6 ["house", "k", "menus"] (ze5 P w K)) {f : Addr} {fd : FuncData} (F : Fun K "law" "law" ja f fd) : FnOk P w K mg base CX0 8 f fd ["script"] (zcz K) := by
  refine F.ok sc_law (fun vs H Q E h => by obtain ⟨b, ns, rfl, _⟩ := h; rfl) (fun cdv A outer s H vs Q E hr h => ?_);obtain ⟨a, ns, rfl, hS, hlen, q⟩ := h;refine ⟨_, (@zk _ _ _ _ _ (vd (zp ni (hr.mono (by decide)) rfl (@za _ _ _ _ _ (pv 0) (@za _ _ _ _ _ (@xg _ _ _ _ (@za _ _ _ _ _ (@zc _ _ _ _) (@za _ _ _ _ _ (@zc _ _ _ _) (@za _ _ _ _ _ (@zc _ _ _ _) (@za _ _ _ _ _ (@zc _ _ _ _) (@zb _) (zw nofun)) (zw nofun)) (zw nofun)) (zw nofun))) (@zb _) (zw nofun)) (zw nofun))) (kt rfl (wq (ya (i := 1) sc_law.nd rfl (Or.inl rfl)) (wq (ya (i := 2) sc_law.nd rfl (Or.inl rfl)) (@nk _))))) (@zk _ _ _ _ _ (zz (i := 3) sc_law.nd rfl (Or.inl rfl) (zf4 io (hr.mono (by decide)) rfl (za (pv 1) (za (pv 2) (@zb _))))) (@zk _ _ _ _ _ (zz (i := 4) sc_law.nd rfl (Or.inl rfl) (@zg _ _ _ _ _ _ _ _ z8 (zp yo (hr.mono (by decide)) rfl (za (pv 0) (za (@zc _ _ _ _) (@zb _)))) (@zg _ _ _ _ _ _ _ _ vo (@zc _ _ _ _) (@zc _ _ _ _)))) (@zk _ _ _ _ _ (zz (i := 5) sc_law.nd rfl (Or.inl rfl) (@zg _ _ _ _ _ _ _ _ z8 (pv 4) (zq yb rfl B.len yp (za (pv 2) (@zb _))))) (@zk _ _ _ _ _ (zz (i := 6) sc_law.nd rfl (Or.inl rfl) (zp rh (hr.mono (by decide)) rfl (za (pv 0) (za (pv 1) (za (pv 2) (za (pv 5) (@zb _))))))) (@zk _ _ _ _ _ (zz (i := 7) sc_law.nd rfl (Or.inl rfl) (yu (gx rfl) rfl B.list tu (za (pv 6) (@zb _)))) (@zk _ _ _ _ _ (zz (i := 8) sc_law.nd rfl (Or.inl rfl) (zp qd (hr.mono (by decide)) rfl (za (pv 6) (za (@yi _ _ _ _ _ _ _ y9 (pv 7) (@zg _ _ _ _ _ _ _ _ z8 (@zg _ _ _ _ _ _ _ _ yh (pv 4) (@zc _ _ _ _)) (zq yb rfl B.len yp (za (pv 7) (@zb _)))) (fun _ _ => rfl)) (za (@zg _ _ _ _ _ _ _ _ yh (pv 4) (@zc _ _ _ _)) (@zb _)))))) (@zk _ _ _ _ _ (vd (zp qk (hr.mono (by decide)) rfl (za (pv 3) (za (pv 5) (za (pv 8) (@zb _))))) (kt rfl (wq (ya (i := 9) sc_law.nd rfl (Or.inl rfl)) (wq (ya (i := 10) sc_law.nd rfl (Or.inl rfl)) (@nk _))))) (@zk _ _ _ _ _ (@yl _ _ _ _ _ _ _ _ (@ye _ _ _ _ _ _ _ _ mj (@zg _ _ _ _ _ _ _ _ z8 (@zg _ _ _ _ _ _ _ _ yh (pv 4) (@zc _ _ _ _)) (@zc _ _ _ _)) (@zc _ _ _ _) (yf _)) (@zk _ _ _ _ _ (@yl _ _ _ _ _ _ _ _ (@ye _ _ _ _ _ _ _ _ (op_neF (Nat.lt_of_succ_lt (hu_of hr))) (pv 10) (@xg _ _ _ _ (za (@wa _ _ _ _) (za (@wa _ _ _ _) (za (@wa _ _ _ _) (za (@wa _ _ _ _) (@zb _)))))) (yf _)) (@zi _ _ _ (@zt _ _ _ _ (@wa _ _ _ _))) (@yc _)) (@zk _ _ _ _ _ (zz (i := 6) sc_law.nd rfl (Or.inl rfl) (zp rh (hr.mono (by decide)) rfl (za (pv 0) (za (pv 1) (za (pv 2) (za (pv 5) (@zb _))))))) (@zi _ _ _ (vd (zp qk (hr.mono (by decide)) rfl (za (pv 3) (za (pv 5) (za (pv 6) (@zb _))))) (kt rfl (wq (ya (i := 9) sc_law.nd rfl (Or.inl rfl)) (wq (ya (i := 10) sc_law.nd rfl (Or.inl rfl)) (@nk _)))))))) (@yc _)) (@zi _ _ _ (@zt _ _ _ _ (@vi _ _ _ _ _ _ _ (@se _ _ _ _ _ _ _ _ op_isN (pv 10) (@qz _ _ _) (yf _)) (@vi _ _ _ _ _ _ _ (zq yt rfl B.isinstance yd (za (pv 9) (za (w6 rfl B.dict nv) (@zb _)))) (@uz _ _ _ _ _ (@se _ _ _ _ _ _ _ _ xy (zq dn rfl B.len yp (za (pv 9) (@zb _))) (zq yb rfl B.len yp (za (zp uq (hr.mono (by decide)) rfl (za (pv 2) (@zb _))) (@zb _))) (yf _)))))))))))))))), ?_⟩;rw [show start ["script", "outcomes", "hands", "house", "cell", "k", "menus", "rows", "thing", "found", "kinds"] [V.ref a] = [some (V.ref a), none, none, none, none, none, none, none, none, none, none] from rfl];refine zcm fun T hT => ?_
  simp only [zm, zl, ↓reduceIte];refine ⟨by decide, fun tp htp => ?_⟩;have S0 : Same H (upd H tp (.lst [V.int 8, V.int 5, V.int 4, V.int 2])) := Same.upd (Same.refl _) htp;have hTp : upd H tp (.lst [V.int 8, V.int 5, V.int 4, V.int 2]) tp = some (.lst (tops46.map V.int)) := zd;generalize upd H tp (.lst [V.int 8, V.int 5, V.int 4, V.int 2]) = H0 at *;refine ⟨a, tp, ns, tops46, rfl, S0.seq hS, .of hTp, de, fun H1 H2 H3 o b p xs S1 ho ho1 N hp e3 => ?_⟩;subst e3;have S3 : Same H2 (upd H2 p (.tup [V.ref o, V.ref b])) := Same.upd (Same.refl _) hp;have hp3 : upd H2 p (.tup [V.ref o, V.ref b]) p = some (.tup [V.ref o, V.ref b]) := zd;generalize upd H2 p (.tup [V.ref o, V.ref b]) = H3 at *;simp only [zm, zl, ↓reduceIte];refine ⟨_, .of hp3, rfl, ?_⟩;simp only [zm, zl, ↓reduceIte];have G := goodA ns de zct;have oF : H3 o = some (.lst ((ra ns).map V.str)) := (N.same.trans S3) _ _ ho1;have bF : HandsL H3 b xs (wg ns tops46 (wx ns)) := N.lists.mono S3;have S03 : Same H H3 := S0.trans (S1.trans (N.same.trans S3));generalize wg ns tops46 (wx ns) = ds at *;generalize ra ns = outs at *;refine ⟨o, b, outs, xs, ds, rfl, oF, bF, G, fun H4 p ko kh hs S4 hK => ?_⟩;simp only [zm, zl, ↓reduceIte];have S04 := S03.trans S4;have b4 := bF.mono S4;have o4 := S4 _ _ oF;have h4 := G.hands;refine ⟨a, ns, 4, rfl, S04.seq hS, ?_⟩;simp only [zm, zl, ↓reduceIte];refine ⟨⟨by decide, by decide⟩, by decide, _, .inl (.of b4.at'), ?_⟩;rw [Za, b4.len];generalize zr ns 4 % 10 ^ Int.toNat 18 = c at *;have hk4 := yn c (show (0 : Int) < (ds.length : Int) by omega);obtain ⟨k, ek⟩ : ∃ k : Nat, c % (ds.length : Int) = (k : Int) := ⟨(c % (ds.length : Int)).toNat, by omega⟩;rw [ek] at hk4 ⊢;have hk' : k < ds.length := by omega
  obtain ⟨d, ed⟩ : ∃ d, ds[k]? = some d := ⟨ds[k], Zb hk'⟩;refine ⟨by omega, ?_⟩;rw [hT];clear hT T;refine zcm fun T hT => ?_
  simp only [zm, zl, ↓reduceIte];refine ⟨a, o, b, ns, outs, xs, ds, k, d, rfl, S04.seq hS, o4, b4, G, ed, fun H5 m ms N5 => ?_⟩;have S5 := N5.same;have ho8 := G.outs1;have hperm := dm ns (z0 ((ds.eraseIdx k).map HD.words))
  have nd : (z0 ((ds.eraseIdx k).map HD.words)).Nodup := nj fun vs hvs => by
    obtain ⟨d, hd, rfl⟩ := Zp.mp hvs;exact G.wordsD d (ZN hd)
  have fOk : ∀ j, MenuOk outs (xw ns outs (wsA d j) j outs.length) /\ 0 < (xw ns outs (wsA d j) j outs.length).length /\ (xw ns outs (wsA d j) j outs.length).length <= 8 := fun j => by
    have h := j1 (ns := ns) (ws := wsA d j) (j := j) ho8.1 ho8.2 outs.length ho8.2;exact ⟨h.1, h.2.2 ho8.1, Zd h.2.1 ho8.2⟩
  have lR : (ordA ns (z0 ((ds.eraseIdx k).map HD.words))).length <= 4096 := by
    rw [hperm.length_eq]
    have few := tz (wss := (ds.eraseIdx k).map HD.words) (by rw [Za, ZM hk']; omega) (fun ws hws => by
      obtain ⟨d, hd, rfl⟩ := Zp.mp hws
      exact (G.words1 d (ZN hd)).2) _ (Zm _)
    rw [Zt] at few;exact few
  have rl : ∀ r ∈ ordA ns (z0 ((ds.eraseIdx k).map HD.words)), r.length = ds.length - 1 := fun r hr => by
    have h := rowsP_iff.mp (hperm.mem_iff.mp hr);rw [h.1, Za, ZM hk']
  have ndR := hperm.nodup_iff.mpr nd
  have fresh : ∀ H' m' ms', NewMenus H4 H' m' ms' (ordA ns (z0 ((ds.eraseIdx k).map HD.words))) (fun j => xw ns outs (wsA d j) j outs.length) -> MenusAt H' m' (yg (ordA ns (z0 ((ds.eraseIdx k).map HD.words))) ms') outs (z0 ((ds.eraseIdx k).map HD.words)) := fun H' m' ms' N' => MenusAt.perm ⟨N'.at', N'.keys, fun r hr => by
    obtain ⟨j, me, _, _, v1, v2⟩ := N'.val ndR hr
    exact ⟨me, _, v1, v2, fOk j⟩⟩ hperm
  have hpos : 0 < (z0 ((ds.eraseIdx k).map HD.words)).length := by
    rw [df];refine ma fun z hz => ?_
    obtain ⟨ws, hws, rfl⟩ := Zp.mp hz;obtain ⟨d, hd, rfl⟩ := Zp.mp hws;exact (G.words1 d (ZN hd)).1
  refine ⟨m, rfl, _, N5.at', fun as hk q1 hq1 => ?_⟩;have T5 := zdz N5.len hk;have s6 : Same H5 (upd H5 q1 (.lst (as.map V.ref))) := Same.upd (Same.refl _) hq1;have c6 : upd H5 q1 (.lst (as.map V.ref)) q1 = some (.lst (as.map V.ref)) := zd;generalize upd H5 q1 (.lst (as.map V.ref)) = H6 at *;have la : as.length = (z0 ((ds.eraseIdx k).map HD.words)).length := T5.len.trans hperm.length_eq;have hix := yn (c / 56) (show (0 : Int) < (as.length : Int) by omega);obtain ⟨i, ei⟩ : ∃ i : Nat, c / 56 % (as.length : Int) = (i : Int) := ⟨(c / 56 % (as.length : Int)).toNat, by omega⟩;have hi : i < as.length := by omega
  have hai : as[i]? = some as[i] := Zb hi;have hRi : (ordA ns (z0 ((ds.eraseIdx k).map HD.words)))[i]? = some ((ordA ns (z0 ((ds.eraseIdx k).map HD.words)))[i]'(by rw [<- T5.len]; exact hi)) := Zb _;have hrw := s6 _ _ (T5.at' i _ _ hai hRi);have hrl := rl _ (Zi hRi);generalize (ordA ns (z0 ((ds.eraseIdx k).map HD.words)))[i]'(by rw [<- T5.len]; exact hi) = r at *;refine ⟨⟨by decide, by decide⟩, _, .inl (.of c6), by rw [Za]; omega, _, .of c6, V.ref as[i], ?_, ⟨by decide, by decide⟩, H4, m, as[i], ms, outs, _, _, i, r, c / 4, rfl, N5.mono s6, ndR, lR, hRi, by omega, fun h => ?_, hrw, fOk, G.outsG, fun H7 v S7 hbad hgood => ?_⟩
  . rw [Za, ei]
    exact zx (by rw [Ze, hai]; rfl)
  . have := rl _ h
    rw [Zo, hrl] at this;simp at this
  have hK7 := hK.mono S7;refine ⟨p, ko, kh, v, hs, outs, ds, k, rfl, hK7, G, hk', ?_⟩
  rcases (show c / 4 % 14 < 12 \/ 12 <= c / 4 % 14 by omega) with hw | hw
  . refine .inl ⟨(hbad hw).perm hperm, fun H8 t kd S8 ht hkd => ?_⟩
    refine ⟨t, rfl, _, .of ht, rfl, _, _, rfl, _, _, rfl, rfl, ?_⟩;rw [hT];clear hT T;refine wc (fun Q' h => ?_) fun T hT => ?_
    . simp only [zm, zl, ↓reduceIte]
      rw [decide_eq_true hw];exact ⟨⟨by decide, by decide⟩, by decide, h⟩
    simp only [zm, zl, ↓reduceIte];refine ⟨by decide, fun p1 hp1 => ?_⟩;have s9 : Same H8 (upd H8 p1 (.lst [V.bl true, V.bl true, V.bl false, V.bl false])) := Same.upd (Same.refl _) hp1;have c9 : upd H8 p1 (.lst [V.bl true, V.bl true, V.bl false, V.bl false]) p1 = some (.lst [V.bl true, V.bl true, V.bl false, V.bl false]) := zd;generalize upd H8 p1 (.lst [V.bl true, V.bl true, V.bl false, V.bl false]) = H9 at *;have S9 := S7.trans (S8.trans s9);refine ⟨_, .of (s9 _ _ hkd), _, .of c9, rfl, rfl, iteF ?_⟩;refine ⟨a, o, b, ns, outs, xs, ds, k, d, rfl, (S04.trans S9).seq hS, S9 _ _ o4, b4.mono S9, G, ed, fun H10 m' ms' N10 => ?_⟩;have S10 := S9.trans N10.same
    have M10 : MenusAt H10 m' (yg (ordA ns (z0 ((ds.eraseIdx k).map HD.words))) ms') outs (z0 ((ds.eraseIdx k).map HD.words)) := MenusAt.perm ⟨N10.at', N10.keys, fun r hr => by
      obtain ⟨j, me, _, _, v1, v2⟩ := N10.val ndR hr
      exact ⟨me, _, v1, v2, fOk j⟩⟩ hperm
    refine ⟨p, ko, kh, _, hs, outs, ds, k, rfl, hK.mono S10, G, hk', .inr ⟨m', _, rfl, M10, fun H11 t' tb g S11 ht' htb => ?_⟩⟩;refine ⟨t', rfl, _, .of ht', rfl, _, _, rfl, _, _, rfl, rfl, ?_⟩;rw [hT];clear hT T;simp only [zm, zl, ↓reduceIte];exact fin47 (b4.mono (S10.trans S11)) G htb q
  . obtain ⟨rfl, M7⟩ := hgood hw
    refine .inr ⟨m, _, rfl, M7.perm hperm, fun H8 t tb g S8 ht htb => ?_⟩;refine ⟨t, rfl, _, .of ht, rfl, _, _, rfl, _, _, rfl, rfl, ?_⟩;rw [hT];clear hT T;refine zh (fun Q' h => ?_) ?_
    . simp only [zm, zl, ↓reduceIte]
      rw [decide_eq_false (by omega)];exact ⟨⟨by decide, by decide⟩, by decide, h⟩
    simp only [zm, zl, ↓reduceIte];exact fin47 (b4.mono (S7.trans S8)) G htb q
theorem law_ok (B : Bt mg) (C : Ct K mg a) (d_is_whole : zj K mg "is_whole" u9 ["thing"]) (d_is_bounded : zj K mg "is_bounded" uw ["thing"]) (d_is_grid_row : zj K mg "is_grid_row" uc ["thing", "width"]) (d_is_name : zj K mg "is_name" ot ["thing"]) (d_are_names : zj K mg "are_names" sj ["thing", "most"]) (d_are_worths : zj K mg "are_worths" tm ["thing", "height", "width"]) (d_is_hand : zj K mg "is_hand" oh ["thing", "width"]) (d_name_of : zj K mg "name_of" oj ["hand"]) (d_names_of : zj K mg "names_of" qi ["hands"]) (d_words_of_hand : zj K mg "words_of_hand" wk ["hand"]) (d_worths_of_hand : zj K mg "worths_of_hand" x9 ["hand"]) (d_worths_by : zj K mg "worths_by" sv ["hand", "word"]) (d_count_of_rows : zj K mg "count_of_rows" vf ["hands"]) (d_makes_house : zj K mg "makes_house" v7 ["outcomes", "hands"]) (d_kept_hand : zj K mg "kept_hand" vx ["hand"]) (d_house_of : zj K mg "house_of" u8 ["outcomes", "hands"]) (d_outcomes_of : zj K mg "outcomes_of" ud ["house"]) (d_hands_of : zj K mg "hands_of" qm ["house"]) (d_with_each : zj K mg "with_each" re ["rows", "words"]) (d_rows_over : zj K mg "rows_over" so ["hands"]) (d_rows_of : zj K mg "rows_of" oz ["house"]) (d_without : zj K mg "without" o0 ["things", "k"]) (d_others_of : zj K mg "others_of" rb ["house", "k"]) (d_is_outcome : zj K mg "is_outcome" u4 ["house", "thing"]) (d_left_of : zj K mg "left_of" oo ["offer"]) (d_outcome_of : zj K mg "outcome_of" ut ["offer"]) (d_pick : zj K mg "pick" ie ["house", "k", "menu", "word"]) (d_is_menu : zj K mg "is_menu" on ["house", "thing"]) (d_are_menus : zj K mg "are_menus" rg ["house", "k", "thing"]) (d_menus_table : zj K mg "menus_table" ub ["house", "k", "menus"]) (d_law_cell_at : zj K mg "_law_cell_at" uf ["script", "k"]) (d_law_pool : zj K mg "_law_pool" z9 ["cell", "many"]) (d_law_drawn : zj K mg "_law_drawn" sy ["script", "k"]) (d_law_worth : zj K mg "_law_worth" sm ["cell"]) (d_law_parts : zj K mg "_law_parts" rf ["script", "tops"]) (d_law_rows : zj K mg "_law_rows" ql ["hands"]) (d_law_price : zj K mg "_law_price" sr ["cell", "worth"]) (d_law_menus : zj K mg "_law_menus" rj ["script", "outcomes", "hands", "k"]) (d_law_told : zj K mg "_law_told" qq ["house", "k", "menus"]) (d_law_spoiled : zj K mg "_law_spoiled" zf ["menus", "others", "cell"]) (base : Heap) {f : Addr} {fd : FuncData} (F : Fun K "law" "law" ja f fd) : FnOk P w K mg base CX0 8 f fd ["script"] (zcz K) := by
  have c1 := yo (P := P) (w := w) (base := base) B d_law_cell_at;have c2 := uo (P := P) (w := w) (base := base) B d_law_pool;have c3 := o9 (P := P) (w := w) (base := base) d_law_worth;have c4 := v0 B c1 d_law_drawn;have c5 := ni B c1 c2 c3 c4 d_law_parts;have n1 := rp (P := P) (w := w) (base := base) B d_is_name;have n2 := ve B n1 d_are_names;have n0 := ur (P := P) (w := w) (base := base) B d_is_whole;have n3 := qf B (qx B n0 d_is_bounded) d_is_grid_row;have n4 := pb B n3 d_are_worths;have n5 := lq B n1 n2 n4 d_is_hand;have n6 := vj (P := P) (w := w) (base := base) d_name_of;have n7 := yk (P := P) (w := w) (base := base) d_words_of_hand;have n8 := y7 (P := P) (w := w) (base := base) d_worths_of_hand;have n9 := vc B n2 n5 (m6 n6 d_names_of) (ux B n7 d_count_of_rows) d_makes_house;have n10 := zc7 B C n9 (zao B n6 n7 n8 d_kept_hand) d_house_of;have m1 := zb5 (P := P) (w := w) (base := base) d_hands_of;have m0 := d6 (P := P) (w := w) (base := base) d_outcomes_of;have mw := i7 (P := P) (w := w) (base := base) d_words_of_hand
  have m2 := nh mw (jw d_worths_of_hand) d_worths_by;have m3 := ge B m1 m0 m2 (ll (P := P) (w := w) (base := base) d_left_of) (pq (P := P) (w := w) (base := base) d_outcome_of) d_pick;have mo := vt B (na (P := P) (w := w) (base := base) B d_with_each) mw d_rows_over;have r1 := ow B mo m1 d_rows_of;have r2 := uk (P := P) (w := w) (base := base) B d_without;have r3 := o6 B mo m1 r2 d_others_of;have l1 := uq (P := P) (w := w) (base := base) d_law_rows;have e1 := l5 B (ph B m0 d_is_outcome) (zcp (P := P) (w := w) (base := base) B d_is_whole) d_is_menu;have e2 := qe B C (su B r3 e1 d_are_menus) r1 r2 m3 d_menus_table;exact law_fn B C c1 c5 n10 l1 (rh B c1 c4 l1 (ng (P := P) (w := w) (base := base) B d_law_price) d_law_menus) (qd (P := P) (w := w) (base := base) B d_law_spoiled) (qk B C e2 d_law_told) F
end
end Mine
namespace Tp
open PySem PySem.W PySem.Calls PyProof.Rows
noncomputable section
abbrev pr : Program := PySem.Challenge.pw_trueword_k47_no_menus
def en (P : Params) (x : Str) (t : Nat) (v : Value) : DictEntry := ⟨PyData.keyHash P x, .str x t, v⟩
abbrev fn (i : Nat) (name qual : Str) (dV kV doc pm : Value) (an : Option Addr) (cdv ct : Value) : FuncData := fnOf name qual (L2.ui (Mine.top i)) (L2.zy (Mine.top i)) (L2.ze (Mine.top i)) dV kV doc pm an cdv ct
abbrev fx (i : Nat) (name qual : Str) (g : Addr) (dV kV doc pm : Value) (an : Option Addr) (cdv ct : Value) (b : Addr) : FuncData := ⟨name, qual, L2.ui (Mine.top i), .stmts (L2.zy (Mine.top i)), L2.ze (Mine.top i), g, [], dV, kV, doc, pm, an, cdv, ct, b⟩
def oE : Obj := ⟨.type "tuple", none, .seq #[] 0, #[]⟩
def oF : Obj := ⟨.none, none, .fields #[], #[]⟩
def tl : Nat -> List Str -> List Value
  | _, [] => []
  | t, x :: r => .str x t :: tl (t + 1) r
def ts (t : Nat) (xs : List Str) : Obj := ⟨.type "tuple", none, .seq (tl t xs).toArray 0, #[]⟩
def fo (i : Nat) (n m : Str) (t c : Nat) : Obj := ⟨.type "function", none, .func (fn i n n .none .none .none (.str m t) none (.ref c) .none), #[]⟩
def xo (i : Nat) (n : Str) : Obj := ⟨.none, none, .func (fx i n n 0 .none .none .none .none none .none .none 0), #[]⟩
def co (n : Str) (t l c f a : Nat) (b : Bool) (e : Nat) (v1 v2 v3 v4 : Value) (k : Nat) : Obj := ⟨.type "code", none, .fields #[.str n t, .str n (t + 1), .str "/claim/cut.py" (t + 2), .int l 0, .int c 0, .int 0 0, .int 0 0, .int f 0, .ref a, .bool b, .int 181 0, .ref e, v1, v2, v3, v4, .int k 0, .int l 0, .str "/claim/cut.py" (k + 1)], #[]⟩
def ia (t : BT) : Nat -> List Obj -> BT
  | _, [] => t
  | n, o :: r => ia (t.ins n o) (n + 1) r
def lf (P : Params) : Life := (boot_heap P).life
def env : Env := { scope := pr.main.scope, locals := mainNs, globals := mainNs, cells := [], code := (.ref 13), frame := some 14 }
def cd : Code := .body (behindTheImports pr) env
def qp : Pos := ⟨0, 0, 0, 0⟩
def o13 : Obj := (co "<module>" 182 1 0 0 11 false 12 .none .none .none .none 185)
def ha (P : Params) : Heap := ⟨⟨[boot_o_0 P, boot_o_1 P, boot_o_2 P, boot_o_3 P, boot_o_4 P, boot_o_5 P, boot_o_6 P, boot_o_7 P, boot_o_8 P, boot_o_9 P, boot_o_10 P, oE, oF, o13, ⟨(.type "frame"), none, .plain, #[(some (.ref 13)), (some (.ref 3)), (some (.ref 3)), none, (some (.str "__main__" 164)), none, (some (.ref 0))]⟩]⟩, lf P⟩
def t0 (P : Params) : BT := (.node (boot_o_0 P) (.node (boot_o_1 P) (.node (boot_o_3 P) (.node (boot_o_7 P) .nil .nil) (.node (oE) .nil .nil)) (.node (boot_o_5 P) (.node (boot_o_9 P) .nil .nil) (.node (o13) .nil .nil))) (.node (boot_o_2 P) (.node (boot_o_4 P) (.node (boot_o_8 P) .nil .nil) (.node (oF) .nil .nil)) (.node (boot_o_6 P) (.node (boot_o_10 P) .nil .nil) (.node (⟨(.type "frame"), none, .plain, #[(some (.ref 13)), (some (.ref 3)), (some (.ref 3)), none, (some (.str "__main__" 164)), none, (some (.ref 0))]⟩) .nil .nil))))
def o3 (P : Params) : Obj := ⟨(.type "dict"), none, (.dict #[en P "__name__" 165 (.str "trueword.errors" 187), en P "__doc__" 166 .none, en P "__package__" 167 .none, en P "__loader__" 168 (.builtin "__main__.__loader__#opaque"), en P "__spec__" 169 .none, en P "__annotations__" 170 (.ref 6), en P "__builtins__" 171 (.ref 4), en P "__file__" 173 (.str "/claim/cut.py" 172), en P "__cached__" 174 .none, en P "TrueError" 206 (.ref 24), en P "NoPays" 222 (.ref 37), en P "NoHouse" 238 (.ref 49), en P "NoMenu" 254 (.ref 61), en P "NoWeight" 270 (.ref 73), en P "NoShare" 286 (.ref 85), en P "NoRule" 302 (.ref 97)] 16), #[]⟩
def o17 (P : Params) : Obj := ⟨(.type "dict"), none, (.dict #[en P "__module__" 196 (.str "trueword.errors" 187), en P "__qualname__" 198 (.str "TrueError" 197), en P "__firstlineno__" 200 (.int (2) 199), en P "__static_attributes__" 201 (.ref 22)] 4), #[]⟩
def o20 : Obj := (co "TrueError" 191 2 0 0 18 false 19 .none .none .none .none 194)
def o23 (P : Params) : Obj := ⟨(.type "dict"), none, (.dict #[en P "__module__" 196 (.str "trueword.errors" 187), en P "__firstlineno__" 200 (.int (2) 199), en P "__static_attributes__" 201 (.ref 22), en P "__weakref__" 203 (.ref 25), en P "__doc__" 204 .none] 3), #[]⟩
def o24 : Obj := ⟨(.type "type"), none, (.cls ⟨"TrueError", [(.type "ValueError")], [(.ref 24), (.type "ValueError"), (.type "Exception"), (.type "BaseException"), (.type "object")], 23, "TrueError", true, [], [(.ref 37), (.ref 49), (.ref 61), (.ref 73), (.ref 85), (.ref 97)], false, none, false⟩), #[(some (.ref 15)), none, (some (.str "TrueError" 189)), (some (.str "TrueError" 197)), (some (.builtin "ValueError.__new__")), (some (.bool true))]⟩
def o30 (P : Params) : Obj := ⟨(.type "dict"), none, (.dict #[en P "__module__" 214 (.str "trueword.errors" 187), en P "__qualname__" 216 (.str "NoPays" 215), en P "__firstlineno__" 218 (.int (4) 217), en P "__static_attributes__" 219 (.ref 35)] 4), #[]⟩
def o33 : Obj := (co "NoPays" 209 4 0 0 31 false 32 .none .none .none .none 212)
def o36 (P : Params) : Obj := ⟨(.type "dict"), none, (.dict #[en P "__module__" 214 (.str "trueword.errors" 187), en P "__firstlineno__" 218 (.int (4) 217), en P "__static_attributes__" 219 (.ref 35), en P "__doc__" 220 .none] 2), #[]⟩
def o37 : Obj := ⟨(.type "type"), none, (.cls ⟨"NoPays", [(.ref 24)], [(.ref 37), (.ref 24), (.type "ValueError"), (.type "Exception"), (.type "BaseException"), (.type "object")], 36, "NoPays", true, [], [], false, none, false⟩), #[(some (.ref 28)), none, (some (.str "NoPays" 207)), (some (.str "NoPays" 215)), (some (.builtin "ValueError.__new__")), (some (.bool true))]⟩
def o42 (P : Params) : Obj := ⟨(.type "dict"), none, (.dict #[en P "__module__" 230 (.str "trueword.errors" 187), en P "__qualname__" 232 (.str "NoHouse" 231), en P "__firstlineno__" 234 (.int (6) 233), en P "__static_attributes__" 235 (.ref 47)] 4), #[]⟩
def o45 : Obj := (co "NoHouse" 225 6 0 0 43 false 44 .none .none .none .none 228)
def o48 (P : Params) : Obj := ⟨(.type "dict"), none, (.dict #[en P "__module__" 230 (.str "trueword.errors" 187), en P "__firstlineno__" 234 (.int (6) 233), en P "__static_attributes__" 235 (.ref 47), en P "__doc__" 236 .none] 2), #[]⟩
def o49 : Obj := ⟨(.type "type"), none, (.cls ⟨"NoHouse", [(.ref 24)], [(.ref 49), (.ref 24), (.type "ValueError"), (.type "Exception"), (.type "BaseException"), (.type "object")], 48, "NoHouse", true, [], [], false, none, false⟩), #[(some (.ref 40)), none, (some (.str "NoHouse" 223)), (some (.str "NoHouse" 231)), (some (.builtin "ValueError.__new__")), (some (.bool true))]⟩
def o54 (P : Params) : Obj := ⟨(.type "dict"), none, (.dict #[en P "__module__" 246 (.str "trueword.errors" 187), en P "__qualname__" 248 (.str "NoMenu" 247), en P "__firstlineno__" 250 (.int (8) 249), en P "__static_attributes__" 251 (.ref 59)] 4), #[]⟩
def o57 : Obj := (co "NoMenu" 241 8 0 0 55 false 56 .none .none .none .none 244)
def o60 (P : Params) : Obj := ⟨(.type "dict"), none, (.dict #[en P "__module__" 246 (.str "trueword.errors" 187), en P "__firstlineno__" 250 (.int (8) 249), en P "__static_attributes__" 251 (.ref 59), en P "__doc__" 252 .none] 2), #[]⟩
def o61 : Obj := ⟨(.type "type"), none, (.cls ⟨"NoMenu", [(.ref 24)], [(.ref 61), (.ref 24), (.type "ValueError"), (.type "Exception"), (.type "BaseException"), (.type "object")], 60, "NoMenu", true, [], [], false, none, false⟩), #[(some (.ref 52)), none, (some (.str "NoMenu" 239)), (some (.str "NoMenu" 247)), (some (.builtin "ValueError.__new__")), (some (.bool true))]⟩
def o66 (P : Params) : Obj := ⟨(.type "dict"), none, (.dict #[en P "__module__" 262 (.str "trueword.errors" 187), en P "__qualname__" 264 (.str "NoWeight" 263), en P "__firstlineno__" 266 (.int (10) 265), en P "__static_attributes__" 267 (.ref 71)] 4), #[]⟩
def o69 : Obj := (co "NoWeight" 257 10 0 0 67 false 68 .none .none .none .none 260)
def o72 (P : Params) : Obj := ⟨(.type "dict"), none, (.dict #[en P "__module__" 262 (.str "trueword.errors" 187), en P "__firstlineno__" 266 (.int (10) 265), en P "__static_attributes__" 267 (.ref 71), en P "__doc__" 268 .none] 2), #[]⟩
def o73 : Obj := ⟨(.type "type"), none, (.cls ⟨"NoWeight", [(.ref 24)], [(.ref 73), (.ref 24), (.type "ValueError"), (.type "Exception"), (.type "BaseException"), (.type "object")], 72, "NoWeight", true, [], [], false, none, false⟩), #[(some (.ref 64)), none, (some (.str "NoWeight" 255)), (some (.str "NoWeight" 263)), (some (.builtin "ValueError.__new__")), (some (.bool true))]⟩
def o78 (P : Params) : Obj := ⟨(.type "dict"), none, (.dict #[en P "__module__" 278 (.str "trueword.errors" 187), en P "__qualname__" 280 (.str "NoShare" 279), en P "__firstlineno__" 282 (.int (12) 281), en P "__static_attributes__" 283 (.ref 83)] 4), #[]⟩
def o81 : Obj := (co "NoShare" 273 12 0 0 79 false 80 .none .none .none .none 276)
def o84 (P : Params) : Obj := ⟨(.type "dict"), none, (.dict #[en P "__module__" 278 (.str "trueword.errors" 187), en P "__firstlineno__" 282 (.int (12) 281), en P "__static_attributes__" 283 (.ref 83), en P "__doc__" 284 .none] 2), #[]⟩
def o85 : Obj := ⟨(.type "type"), none, (.cls ⟨"NoShare", [(.ref 24)], [(.ref 85), (.ref 24), (.type "ValueError"), (.type "Exception"), (.type "BaseException"), (.type "object")], 84, "NoShare", true, [], [], false, none, false⟩), #[(some (.ref 76)), none, (some (.str "NoShare" 271)), (some (.str "NoShare" 279)), (some (.builtin "ValueError.__new__")), (some (.bool true))]⟩
def o90 (P : Params) : Obj := ⟨(.type "dict"), none, (.dict #[en P "__module__" 294 (.str "trueword.errors" 187), en P "__qualname__" 296 (.str "NoRule" 295), en P "__firstlineno__" 298 (.int (14) 297), en P "__static_attributes__" 299 (.ref 95)] 4), #[]⟩
def o93 : Obj := (co "NoRule" 289 14 0 0 91 false 92 .none .none .none .none 292)
def o96 (P : Params) : Obj := ⟨(.type "dict"), none, (.dict #[en P "__module__" 294 (.str "trueword.errors" 187), en P "__firstlineno__" 298 (.int (14) 297), en P "__static_attributes__" 299 (.ref 95), en P "__doc__" 300 .none] 2), #[]⟩
def o97 : Obj := ⟨(.type "type"), none, (.cls ⟨"NoRule", [(.ref 24)], [(.ref 97), (.ref 24), (.type "ValueError"), (.type "Exception"), (.type "BaseException"), (.type "object")], 96, "NoRule", true, [], [], false, none, false⟩), #[(some (.ref 88)), none, (some (.str "NoRule" 287)), (some (.str "NoRule" 295)), (some (.builtin "ValueError.__new__")), (some (.bool true))]⟩
def t1 (P : Params) : BT := ia (((t0 P).set 3 fun _ => o3 P).set 12 fun _ => ⟨.none, none, (.fields #[(.int (2) 0), (.int (0) 0), (.ref 20), (.int (4) 0), (.int (0) 0), (.ref 33), (.int (6) 0), (.int (0) 0), (.ref 45), (.int (8) 0), (.int (0) 0), (.ref 57), (.int (10) 0), (.int (0) 0), (.ref 69), (.int (12) 0), (.int (0) 0), (.ref 81), (.int (14) 0), (.int (0) 0), (.ref 93)]), #[]⟩) 15 [⟨(.type "tuple"), none, (.seq #[(.type "ValueError")] 0), #[]⟩, ⟨(.type "builtin_function_or_method"), none, (.fields #[(.builtin "type.__prepare__"), (.type "type")]), #[]⟩, o17 P, oE, oF, o20, ⟨(.type "frame"), none, .plain, #[(some (.ref 20)), (some (.ref 3)), (some (.ref 17)), none, (some (.str "trueword.errors" 187)), none, (some (.ref 0))]⟩, oE, o23 P, o24, ⟨(.type "getset_descriptor"), none, (.fields #[(.str "__weakref__" 202), (.ref 24), (.builtin "ExceptionGroup.__weakref__"), .none]), #[]⟩, ⟨(.type "super"), none, (.fields #[(.ref 24), (.ref 24), (.ref 24)]), #[]⟩, ⟨(.type "builtin_function_or_method"), none, (.fields #[(.builtin "object.__init_subclass__"), (.ref 24)]), #[]⟩, ⟨(.type "tuple"), none, (.seq #[(.ref 24)] 0), #[]⟩, ⟨(.type "builtin_function_or_method"), none, (.fields #[(.builtin "type.__prepare__"), (.type "type")]), #[]⟩, o30 P, oE, oF, o33, ⟨(.type "frame"), none, .plain, #[(some (.ref 33)), (some (.ref 3)), (some (.ref 30)), none, (some (.str "trueword.errors" 187)), none, (some (.ref 0))]⟩, oE, o36 P, o37, ⟨(.type "super"), none, (.fields #[(.ref 37), (.ref 37), (.ref 37)]), #[]⟩, ⟨(.type "builtin_function_or_method"), none, (.fields #[(.builtin "object.__init_subclass__"), (.ref 37)]), #[]⟩, ⟨(.type "tuple"), none, (.seq #[(.ref 24)] 0), #[]⟩, ⟨(.type "builtin_function_or_method"), none, (.fields #[(.builtin "type.__prepare__"), (.type "type")]), #[]⟩, o42 P, oE, oF, o45, ⟨(.type "frame"), none, .plain, #[(some (.ref 45)), (some (.ref 3)), (some (.ref 42)), none, (some (.str "trueword.errors" 187)), none, (some (.ref 0))]⟩, oE, o48 P, o49, ⟨(.type "super"), none, (.fields #[(.ref 49), (.ref 49), (.ref 49)]), #[]⟩, ⟨(.type "builtin_function_or_method"), none, (.fields #[(.builtin "object.__init_subclass__"), (.ref 49)]), #[]⟩, ⟨(.type "tuple"), none, (.seq #[(.ref 24)] 0), #[]⟩, ⟨(.type "builtin_function_or_method"), none, (.fields #[(.builtin "type.__prepare__"), (.type "type")]), #[]⟩, o54 P, oE, oF, o57, ⟨(.type "frame"), none, .plain, #[(some (.ref 57)), (some (.ref 3)), (some (.ref 54)), none, (some (.str "trueword.errors" 187)), none, (some (.ref 0))]⟩, oE, o60 P, o61, ⟨(.type "super"), none, (.fields #[(.ref 61), (.ref 61), (.ref 61)]), #[]⟩, ⟨(.type "builtin_function_or_method"), none, (.fields #[(.builtin "object.__init_subclass__"), (.ref 61)]), #[]⟩, ⟨(.type "tuple"), none, (.seq #[(.ref 24)] 0), #[]⟩, ⟨(.type "builtin_function_or_method"), none, (.fields #[(.builtin "type.__prepare__"), (.type "type")]), #[]⟩, o66 P, oE, oF, o69, ⟨(.type "frame"), none, .plain, #[(some (.ref 69)), (some (.ref 3)), (some (.ref 66)), none, (some (.str "trueword.errors" 187)), none, (some (.ref 0))]⟩, oE, o72 P, o73, ⟨(.type "super"), none, (.fields #[(.ref 73), (.ref 73), (.ref 73)]), #[]⟩, ⟨(.type "builtin_function_or_method"), none, (.fields #[(.builtin "object.__init_subclass__"), (.ref 73)]), #[]⟩, ⟨(.type "tuple"), none, (.seq #[(.ref 24)] 0), #[]⟩, ⟨(.type "builtin_function_or_method"), none, (.fields #[(.builtin "type.__prepare__"), (.type "type")]), #[]⟩, o78 P, oE, oF, o81, ⟨(.type "frame"), none, .plain, #[(some (.ref 81)), (some (.ref 3)), (some (.ref 78)), none, (some (.str "trueword.errors" 187)), none, (some (.ref 0))]⟩, oE, o84 P, o85, ⟨(.type "super"), none, (.fields #[(.ref 85), (.ref 85), (.ref 85)]), #[]⟩, ⟨(.type "builtin_function_or_method"), none, (.fields #[(.builtin "object.__init_subclass__"), (.ref 85)]), #[]⟩, ⟨(.type "tuple"), none, (.seq #[(.ref 24)] 0), #[]⟩, ⟨(.type "builtin_function_or_method"), none, (.fields #[(.builtin "type.__prepare__"), (.type "type")]), #[]⟩, o90 P, oE, oF, o93, ⟨(.type "frame"), none, .plain, #[(some (.ref 93)), (some (.ref 3)), (some (.ref 90)), none, (some (.str "trueword.errors" 187)), none, (some (.ref 0))]⟩, oE, o96 P, o97, ⟨(.type "super"), none, (.fields #[(.ref 97), (.ref 97), (.ref 97)]), #[]⟩, ⟨(.type "builtin_function_or_method"), none, (.fields #[(.builtin "object.__init_subclass__"), (.ref 97)]), #[]⟩]
def o3_1 (P : Params) : Obj := ⟨(.type "dict"), none, (.dict #[en P "__name__" 165 (.str "trueword.menus" 535), en P "__doc__" 166 .none, en P "__package__" 167 .none, en P "__loader__" 168 (.builtin "__main__.__loader__#opaque"), en P "__spec__" 169 .none, en P "__annotations__" 170 (.ref 6), en P "__builtins__" 171 (.ref 4), en P "__file__" 173 (.str "/claim/cut.py" 172), en P "__cached__" 174 .none, en P "TrueError" 206 (.ref 24), en P "NoPays" 222 (.ref 37), en P "NoHouse" 238 (.ref 49), en P "NoMenu" 254 (.ref 61), en P "NoWeight" 270 (.ref 73), en P "NoShare" 286 (.ref 85), en P "NoRule" 302 (.ref 97), en P "NoRow" 318 (.ref 109), en P "NoStand" 334 (.ref 121), en P "NoWord" 350 (.ref 133), en P "MOST_WORDS" 354 (.int (8) 353), en P "is_whole" 361 (.ref 142), en P "is_bounded" 368 (.ref 149), en P "is_grid_row" 374 (.ref 154), en P "MOST_LETTERS" 378 (.int (8) 377), en P "MOST_OUTCOMES" 380 (.int (8) 379), en P "MOST_HANDS" 382 (.int (4) 381), en P "MOST_ROWS" 384 (.int (256) 383), en P "is_name" 390 (.ref 159), en P "are_names" 396 (.ref 164), en P "are_worths" 402 (.ref 169), en P "is_hand" 410 (.ref 176), en P "name_of" 417 (.ref 183), en P "names_of" 423 (.ref 188), en P "words_of_hand" 430 (.ref 195), en P "worths_of_hand" 437 (.ref 202), en P "worths_by" 445 (.ref 209), en P "count_of_rows" 454 (.ref 216), en P "makes_house" 460 (.ref 221), en P "kept_hand" 466 (.ref 226), en P "house_of" 472 (.ref 231), en P "outcomes_of" 479 (.ref 238), en P "hands_of" 486 (.ref 245), en P "with_each" 492 (.ref 250), en P "rows_over" 501 (.ref 257), en P "rows_of" 508 (.ref 264), en P "without" 516 (.ref 271), en P "others_of" 524 (.ref 278), en P "is_outcome" 534 (.ref 285), en P "left_of" 543 (.ref 292), en P "outcome_of" 550 (.ref 299), en P "pick" 556 (.ref 304)] 51), #[]⟩
def o24_1 : Obj := ⟨(.type "type"), none, (.cls ⟨"TrueError", [(.type "ValueError")], [(.ref 24), (.type "ValueError"), (.type "Exception"), (.type "BaseException"), (.type "object")], 23, "TrueError", true, [], [(.ref 37), (.ref 49), (.ref 61), (.ref 73), (.ref 85), (.ref 97), (.ref 109), (.ref 121), (.ref 133)], false, none, false⟩), #[(some (.ref 15)), none, (some (.str "TrueError" 189)), (some (.str "TrueError" 197)), (some (.builtin "ValueError.__new__")), (some (.bool true))]⟩
def o102 (P : Params) : Obj := ⟨(.type "dict"), none, (.dict #[en P "__module__" 310 (.str "trueword.errors" 187), en P "__qualname__" 312 (.str "NoRow" 311), en P "__firstlineno__" 314 (.int (16) 313), en P "__static_attributes__" 315 (.ref 107)] 4), #[]⟩
def o105 : Obj := (co "NoRow" 305 16 0 0 103 false 104 .none .none .none .none 308)
def o108 (P : Params) : Obj := ⟨(.type "dict"), none, (.dict #[en P "__module__" 310 (.str "trueword.errors" 187), en P "__firstlineno__" 314 (.int (16) 313), en P "__static_attributes__" 315 (.ref 107), en P "__doc__" 316 .none] 2), #[]⟩
def o109 : Obj := ⟨(.type "type"), none, (.cls ⟨"NoRow", [(.ref 24)], [(.ref 109), (.ref 24), (.type "ValueError"), (.type "Exception"), (.type "BaseException"), (.type "object")], 108, "NoRow", true, [], [], false, none, false⟩), #[(some (.ref 100)), none, (some (.str "NoRow" 303)), (some (.str "NoRow" 311)), (some (.builtin "ValueError.__new__")), (some (.bool true))]⟩
def o114 (P : Params) : Obj := ⟨(.type "dict"), none, (.dict #[en P "__module__" 326 (.str "trueword.errors" 187), en P "__qualname__" 328 (.str "NoStand" 327), en P "__firstlineno__" 330 (.int (18) 329), en P "__static_attributes__" 331 (.ref 119)] 4), #[]⟩
def o117 : Obj := (co "NoStand" 321 18 0 0 115 false 116 .none .none .none .none 324)
def o120 (P : Params) : Obj := ⟨(.type "dict"), none, (.dict #[en P "__module__" 326 (.str "trueword.errors" 187), en P "__firstlineno__" 330 (.int (18) 329), en P "__static_attributes__" 331 (.ref 119), en P "__doc__" 332 .none] 2), #[]⟩
def o121 : Obj := ⟨(.type "type"), none, (.cls ⟨"NoStand", [(.ref 24)], [(.ref 121), (.ref 24), (.type "ValueError"), (.type "Exception"), (.type "BaseException"), (.type "object")], 120, "NoStand", true, [], [], false, none, false⟩), #[(some (.ref 112)), none, (some (.str "NoStand" 319)), (some (.str "NoStand" 327)), (some (.builtin "ValueError.__new__")), (some (.bool true))]⟩
def o126 (P : Params) : Obj := ⟨(.type "dict"), none, (.dict #[en P "__module__" 342 (.str "trueword.errors" 187), en P "__qualname__" 344 (.str "NoWord" 343), en P "__firstlineno__" 346 (.int (20) 345), en P "__static_attributes__" 347 (.ref 131)] 4), #[]⟩
def o129 : Obj := (co "NoWord" 337 20 0 0 127 false 128 .none .none .none .none 340)
def o132 (P : Params) : Obj := ⟨(.type "dict"), none, (.dict #[en P "__module__" 342 (.str "trueword.errors" 187), en P "__firstlineno__" 346 (.int (20) 345), en P "__static_attributes__" 347 (.ref 131), en P "__doc__" 348 .none] 2), #[]⟩
def o133 : Obj := ⟨(.type "type"), none, (.cls ⟨"NoWord", [(.ref 24)], [(.ref 133), (.ref 24), (.type "ValueError"), (.type "Exception"), (.type "BaseException"), (.type "object")], 132, "NoWord", true, [], [], false, none, false⟩), #[(some (.ref 124)), none, (some (.str "NoWord" 335)), (some (.str "NoWord" 343)), (some (.builtin "ValueError.__new__")), (some (.bool true))]⟩
def o141 : Obj := (co "is_whole" 355 24 1 3 136 true 137 .none (.ref 138) (.ref 139) (.ref 140) 359)
def o142 : Obj := (fo 13 "is_whole" "trueword.grids" 351 141)
def o148 : Obj := (co "is_bounded" 362 26 1 3 143 true 144 .none (.ref 145) (.ref 146) (.ref 147) 366)
def o149 : Obj := (fo 14 "is_bounded" "trueword.grids" 351 148)
def o153 : Obj := (co "is_grid_row" 369 28 2 3 150 true 151 .none .none .none (.ref 152) 372)
def o154 : Obj := (fo 15 "is_grid_row" "trueword.grids" 351 153)
def o158 : Obj := (co "is_name" 385 37 1 3 155 true 156 .none .none .none (.ref 157) 388)
def o159 : Obj := (fo 21 "is_name" "trueword.houses" 375 158)
def o163 : Obj := (co "are_names" 391 41 2 3 160 true 161 .none .none .none (.ref 162) 394)
def o164 : Obj := (fo 22 "are_names" "trueword.houses" 375 163)
def o168 : Obj := (co "are_worths" 397 45 3 3 165 true 166 .none .none .none (.ref 167) 400)
def o169 : Obj := (fo 23 "are_worths" "trueword.houses" 375 168)
def o175 : Obj := (co "is_hand" 403 49 2 3 170 true 171 .none (.ref 172) (.ref 173) (.ref 174) 408)
def o176 : Obj := (fo 24 "is_hand" "trueword.houses" 375 175)
def o182 : Obj := (co "name_of" 411 53 1 3 177 true 178 .none (.ref 179) (.ref 180) (.ref 181) 415)
def o183 : Obj := (fo 25 "name_of" "trueword.houses" 375 182)
def o187 : Obj := (co "names_of" 418 55 1 3 184 true 185 .none .none .none (.ref 186) 421)
def o188 : Obj := (fo 26 "names_of" "trueword.houses" 375 187)
def o194 : Obj := (co "words_of_hand" 424 57 1 3 189 true 190 .none (.ref 191) (.ref 192) (.ref 193) 428)
def o195 : Obj := (fo 27 "words_of_hand" "trueword.houses" 375 194)
def o201 : Obj := (co "worths_of_hand" 431 59 1 3 196 true 197 .none (.ref 198) (.ref 199) (.ref 200) 435)
def o202 : Obj := (fo 28 "worths_of_hand" "trueword.houses" 375 201)
def o208 : Obj := (co "worths_by" 438 61 2 3 203 true 204 .none (.ref 205) (.ref 206) (.ref 207) 443)
def o209 : Obj := (fo 29 "worths_by" "trueword.houses" 375 208)
def o215 : Obj := (co "count_of_rows" 446 63 1 3 210 true 211 .none (.ref 212) (.ref 213) (.ref 214) 452)
def o216 : Obj := (fo 30 "count_of_rows" "trueword.houses" 375 215)
def o220 : Obj := (co "makes_house" 455 68 2 3 217 true 218 .none .none .none (.ref 219) 458)
def o221 : Obj := (fo 31 "makes_house" "trueword.houses" 375 220)
def o225 : Obj := (co "kept_hand" 461 74 1 3 222 true 223 .none .none .none (.ref 224) 464)
def o226 : Obj := (fo 32 "kept_hand" "trueword.houses" 375 225)
def o230 : Obj := (co "house_of" 467 77 2 3 227 true 228 .none .none .none (.ref 229) 470)
def o231 : Obj := (fo 33 "house_of" "trueword.houses" 375 230)
def o237 : Obj := (co "outcomes_of" 473 81 1 3 232 true 233 .none (.ref 234) (.ref 235) (.ref 236) 477)
def o238 : Obj := (fo 34 "outcomes_of" "trueword.houses" 375 237)
def o244 : Obj := (co "hands_of" 480 83 1 3 239 true 240 .none (.ref 241) (.ref 242) (.ref 243) 484)
def o245 : Obj := (fo 35 "hands_of" "trueword.houses" 375 244)
def o249 : Obj := (co "with_each" 487 85 2 3 246 true 247 .none .none .none (.ref 248) 490)
def o250 : Obj := (fo 36 "with_each" "trueword.houses" 375 249)
def o256 : Obj := (co "rows_over" 493 90 1 3 251 true 252 .none (.ref 253) (.ref 254) (.ref 255) 499)
def o257 : Obj := (fo 37 "rows_over" "trueword.houses" 375 256)
def o263 : Obj := (co "rows_of" 502 95 1 3 258 true 259 .none (.ref 260) (.ref 261) (.ref 262) 506)
def o264 : Obj := (fo 38 "rows_of" "trueword.houses" 375 263)
def o270 : Obj := (co "without" 509 97 2 3 265 true 266 .none (.ref 267) (.ref 268) (.ref 269) 514)
def o271 : Obj := (fo 39 "without" "trueword.houses" 375 270)
def o277 : Obj := (co "others_of" 517 99 2 3 272 true 273 .none (.ref 274) (.ref 275) (.ref 276) 522)
def o278 : Obj := (fo 40 "others_of" "trueword.houses" 375 277)
def o284 : Obj := (co "is_outcome" 527 102 2 3 279 true 280 .none (.ref 281) (.ref 282) (.ref 283) 532)
def o285 : Obj := (fo 42 "is_outcome" "trueword.tables" 525 284)
def o291 : Obj := (co "left_of" 537 105 1 3 286 true 287 .none (.ref 288) (.ref 289) (.ref 290) 541)
def o292 : Obj := (fo 44 "left_of" "trueword.menus" 535 291)
def o298 : Obj := (co "outcome_of" 544 107 1 3 293 true 294 .none (.ref 295) (.ref 296) (.ref 297) 548)
def o299 : Obj := (fo 45 "outcome_of" "trueword.menus" 535 298)
def o303 : Obj := (co "pick" 551 109 4 3 300 true 301 .none .none .none (.ref 302) 554)
def o304 : Obj := (fo 46 "pick" "trueword.menus" 535 303)
def t2 (P : Params) : BT := ia ((((t1 P).set 3 fun _ => o3_1 P).set 12 fun _ => ⟨.none, none, (.fields #[(.int (2) 0), (.int (0) 0), (.ref 20), (.int (4) 0), (.int (0) 0), (.ref 33), (.int (6) 0), (.int (0) 0), (.ref 45), (.int (8) 0), (.int (0) 0), (.ref 57), (.int (10) 0), (.int (0) 0), (.ref 69), (.int (12) 0), (.int (0) 0), (.ref 81), (.int (14) 0), (.int (0) 0), (.ref 93), (.int (16) 0), (.int (0) 0), (.ref 105), (.int (18) 0), (.int (0) 0), (.ref 117), (.int (20) 0), (.int (0) 0), (.ref 129), (.int (24) 0), (.int (0) 0), (.ref 141), (.int (26) 0), (.int (0) 0), (.ref 148), (.int (28) 0), (.int (0) 0), (.ref 153), (.int (37) 0), (.int (0) 0), (.ref 158), (.int (41) 0), (.int (0) 0), (.ref 163), (.int (45) 0), (.int (0) 0), (.ref 168), (.int (49) 0), (.int (0) 0), (.ref 175), (.int (53) 0), (.int (0) 0), (.ref 182), (.int (55) 0), (.int (0) 0), (.ref 187), (.int (57) 0), (.int (0) 0), (.ref 194), (.int (59) 0), (.int (0) 0), (.ref 201), (.int (61) 0), (.int (0) 0), (.ref 208), (.int (63) 0), (.int (0) 0), (.ref 215), (.int (68) 0), (.int (0) 0), (.ref 220), (.int (74) 0), (.int (0) 0), (.ref 225), (.int (77) 0), (.int (0) 0), (.ref 230), (.int (81) 0), (.int (0) 0), (.ref 237), (.int (83) 0), (.int (0) 0), (.ref 244), (.int (85) 0), (.int (0) 0), (.ref 249), (.int (90) 0), (.int (0) 0), (.ref 256), (.int (95) 0), (.int (0) 0), (.ref 263), (.int (97) 0), (.int (0) 0), (.ref 270), (.int (99) 0), (.int (0) 0), (.ref 277), (.int (102) 0), (.int (0) 0), (.ref 284), (.int (105) 0), (.int (0) 0), (.ref 291), (.int (107) 0), (.int (0) 0), (.ref 298), (.int (109) 0), (.int (0) 0), (.ref 303)]), #[]⟩).set 24 fun _ => o24_1) 100 [⟨(.type "tuple"), none, (.seq #[(.ref 24)] 0), #[]⟩, ⟨(.type "builtin_function_or_method"), none, (.fields #[(.builtin "type.__prepare__"), (.type "type")]), #[]⟩, o102 P, oE, oF, o105, ⟨(.type "frame"), none, .plain, #[(some (.ref 105)), (some (.ref 3)), (some (.ref 102)), none, (some (.str "trueword.errors" 187)), none, (some (.ref 0))]⟩, oE, o108 P, o109, ⟨(.type "super"), none, (.fields #[(.ref 109), (.ref 109), (.ref 109)]), #[]⟩, ⟨(.type "builtin_function_or_method"), none, (.fields #[(.builtin "object.__init_subclass__"), (.ref 109)]), #[]⟩, ⟨(.type "tuple"), none, (.seq #[(.ref 24)] 0), #[]⟩, ⟨(.type "builtin_function_or_method"), none, (.fields #[(.builtin "type.__prepare__"), (.type "type")]), #[]⟩, o114 P, oE, oF, o117, ⟨(.type "frame"), none, .plain, #[(some (.ref 117)), (some (.ref 3)), (some (.ref 114)), none, (some (.str "trueword.errors" 187)), none, (some (.ref 0))]⟩, oE, o120 P, o121, ⟨(.type "super"), none, (.fields #[(.ref 121), (.ref 121), (.ref 121)]), #[]⟩, ⟨(.type "builtin_function_or_method"), none, (.fields #[(.builtin "object.__init_subclass__"), (.ref 121)]), #[]⟩, ⟨(.type "tuple"), none, (.seq #[(.ref 24)] 0), #[]⟩, ⟨(.type "builtin_function_or_method"), none, (.fields #[(.builtin "type.__prepare__"), (.type "type")]), #[]⟩, o126 P, oE, oF, o129, ⟨(.type "frame"), none, .plain, #[(some (.ref 129)), (some (.ref 3)), (some (.ref 126)), none, (some (.str "trueword.errors" 187)), none, (some (.ref 0))]⟩, oE, o132 P, o133, ⟨(.type "super"), none, (.fields #[(.ref 133), (.ref 133), (.ref 133)]), #[]⟩, ⟨(.type "builtin_function_or_method"), none, (.fields #[(.builtin "object.__init_subclass__"), (.ref 133)]), #[]⟩, oE, oF, (ts 358 ["thing"]), oE, (xo 13 "is_whole"), o141, o142, oE, oF, (ts 365 ["thing"]), oE, (xo 14 "is_bounded"), o148, o149, oE, oF, (xo 15 "is_grid_row"), o153, o154, oE, oF, (xo 21 "is_name"), o158, o159, oE, oF, (xo 22 "are_names"), o163, o164, oE, oF, (xo 23 "are_worths"), o168, o169, oE, oF, (ts 406 ["thing", "width"]), oE, (xo 24 "is_hand"), o175, o176, oE, oF, (ts 414 ["hand"]), oE, (xo 25 "name_of"), o182, o183, oE, oF, (xo 26 "names_of"), o187, o188, oE, oF, (ts 427 ["hand"]), oE, (xo 27 "words_of_hand"), o194, o195, oE, oF, (ts 434 ["hand"]), oE, (xo 28 "worths_of_hand"), o201, o202, oE, oF, (ts 441 ["hand", "word"]), oE, (xo 29 "worths_by"), o208, o209, oE, oF, (ts 449 ["hands", "count", "hand"]), oE, (xo 30 "count_of_rows"), o215, o216, oE, oF, (xo 31 "makes_house"), o220, o221, oE, oF, (xo 32 "kept_hand"), o225, o226, oE, oF, (xo 33 "house_of"), o230, o231, oE, oF, (ts 476 ["house"]), oE, (xo 34 "outcomes_of"), o237, o238, oE, oF, (ts 483 ["house"]), oE, (xo 35 "hands_of"), o244, o245, oE, oF, (xo 36 "with_each"), o249, o250, oE, oF, (ts 496 ["hands", "rows", "hand"]), oE, (xo 37 "rows_over"), o256, o257, oE, oF, (ts 505 ["house"]), oE, (xo 38 "rows_of"), o263, o264, oE, oF, (ts 512 ["things", "k"]), oE, (xo 39 "without"), o270, o271, oE, oF, (ts 520 ["house", "k"]), oE, (xo 40 "others_of"), o277, o278, oE, oF, (ts 530 ["house", "thing"]), oE, (xo 42 "is_outcome"), o284, o285, oE, oF, (ts 540 ["offer"]), oE, (xo 44 "left_of"), o291, o292, oE, oF, (ts 547 ["offer"]), oE, (xo 45 "outcome_of"), o298, o299, oE, oF, (xo 46 "pick"), o303, o304]
def o3_2 (P : Params) : Obj := ⟨(.type "dict"), none, (.dict #[en P "__name__" 165 (.str "law_trueword_k47_no_menus" 575), en P "__doc__" 166 .none, en P "__package__" 167 .none, en P "__loader__" 168 (.builtin "__main__.__loader__#opaque"), en P "__spec__" 169 .none, en P "__annotations__" 170 (.ref 6), en P "__builtins__" 171 (.ref 4), en P "__file__" 173 (.str "/claim/cut.py" 172), en P "__cached__" 174 .none, en P "TrueError" 206 (.ref 24), en P "NoPays" 222 (.ref 37), en P "NoHouse" 238 (.ref 49), en P "NoMenu" 254 (.ref 61), en P "NoWeight" 270 (.ref 73), en P "NoShare" 286 (.ref 85), en P "NoRule" 302 (.ref 97), en P "NoRow" 318 (.ref 109), en P "NoStand" 334 (.ref 121), en P "NoWord" 350 (.ref 133), en P "MOST_WORDS" 354 (.int (8) 353), en P "is_whole" 361 (.ref 142), en P "is_bounded" 368 (.ref 149), en P "is_grid_row" 374 (.ref 154), en P "MOST_LETTERS" 378 (.int (8) 377), en P "MOST_OUTCOMES" 380 (.int (8) 379), en P "MOST_HANDS" 382 (.int (4) 381), en P "MOST_ROWS" 384 (.int (256) 383), en P "is_name" 390 (.ref 159), en P "are_names" 396 (.ref 164), en P "are_worths" 402 (.ref 169), en P "is_hand" 410 (.ref 176), en P "name_of" 417 (.ref 183), en P "names_of" 423 (.ref 188), en P "words_of_hand" 430 (.ref 195), en P "worths_of_hand" 437 (.ref 202), en P "worths_by" 445 (.ref 209), en P "count_of_rows" 454 (.ref 216), en P "makes_house" 460 (.ref 221), en P "kept_hand" 466 (.ref 226), en P "house_of" 472 (.ref 231), en P "outcomes_of" 479 (.ref 238), en P "hands_of" 486 (.ref 245), en P "with_each" 492 (.ref 250), en P "rows_over" 501 (.ref 257), en P "rows_of" 508 (.ref 264), en P "without" 516 (.ref 271), en P "others_of" 524 (.ref 278), en P "is_outcome" 534 (.ref 285), en P "left_of" 543 (.ref 292), en P "outcome_of" 550 (.ref 299), en P "pick" 556 (.ref 304), en P "is_menu" 562 (.ref 309), en P "are_menus" 568 (.ref 314), en P "menus_table" 574 (.ref 319), en P "_law_cell_at" 584 (.ref 326), en P "_law_pool" 590 (.ref 331), en P "_law_drawn" 601 (.ref 338), en P "_law_worth" 608 (.ref 345), en P "_law_parts" 614 (.ref 350), en P "_law_rows" 620 (.ref 355), en P "_law_price" 628 (.ref 362), en P "_law_menus" 648 (.ref 369), en P "_law_told" 660 (.ref 376), en P "_law_spoiled" 671 (.ref 383), en P "law" 688 (.ref 390)] 65), #[]⟩
def o308 : Obj := (co "is_menu" 557 113 2 3 305 true 306 .none .none .none (.ref 307) 560)
def o309 : Obj := (fo 47 "is_menu" "trueword.menus" 535 308)
def o313 : Obj := (co "are_menus" 563 117 3 3 310 true 311 .none .none .none (.ref 312) 566)
def o314 : Obj := (fo 48 "are_menus" "trueword.menus" 535 313)
def o318 : Obj := (co "menus_table" 569 122 3 3 315 true 316 .none .none .none (.ref 317) 572)
def o319 : Obj := (fo 49 "menus_table" "trueword.menus" 535 318)
def o325 : Obj := (co "_law_cell_at" 577 127 2 3 320 true 321 .none (.ref 322) (.ref 323) (.ref 324) 582)
def o326 : Obj := (fo 51 "_law_cell_at" "law_trueword_k47_no_menus" 575 325)
def o330 : Obj := (co "_law_pool" 585 131 2 3 327 true 328 .none .none .none (.ref 329) 588)
def o331 : Obj := (fo 52 "_law_pool" "law_trueword_k47_no_menus" 575 330)
def o337 : Obj := (co "_law_drawn" 591 144 2 3 332 true 333 .none (.ref 334) (.ref 335) (.ref 336) 599)
def o338 : Obj := (fo 53 "_law_drawn" "law_trueword_k47_no_menus" 575 337)
def o344 : Obj := (co "_law_worth" 602 151 1 3 339 true 340 .none (.ref 341) (.ref 342) (.ref 343) 606)
def o345 : Obj := (fo 54 "_law_worth" "law_trueword_k47_no_menus" 575 344)
def o349 : Obj := (co "_law_parts" 609 159 2 3 346 true 347 .none .none .none (.ref 348) 612)
def o350 : Obj := (fo 55 "_law_parts" "law_trueword_k47_no_menus" 575 349)
def o354 : Obj := (co "_law_rows" 615 174 1 3 351 true 352 .none .none .none (.ref 353) 618)
def o355 : Obj := (fo 56 "_law_rows" "law_trueword_k47_no_menus" 575 354)
def o361 : Obj := (co "_law_price" 621 182 2 3 356 true 357 .none (.ref 358) (.ref 359) (.ref 360) 626)
def o362 : Obj := (fo 57 "_law_price" "law_trueword_k47_no_menus" 575 361)
def o368 : Obj := (co "_law_menus" 629 190 4 3 363 true 364 .none (.ref 365) (.ref 366) (.ref 367) 646)
def o369 : Obj := (fo 58 "_law_menus" "law_trueword_k47_no_menus" 575 368)
def o375 : Obj := (co "_law_told" 649 206 3 3 370 true 371 .none (.ref 372) (.ref 373) (.ref 374) 658)
def o376 : Obj := (fo 59 "_law_told" "law_trueword_k47_no_menus" 575 375)
def o382 : Obj := (co "_law_spoiled" 661 214 3 3 377 true 378 .none (.ref 379) (.ref 380) (.ref 381) 669)
def o383 : Obj := (fo 60 "_law_spoiled" "law_trueword_k47_no_menus" 575 382)
def o389 : Obj := (co "law" 672 238 1 3 384 true 385 .none (.ref 386) (.ref 387) (.ref 388) 686)
def o390 : Obj := (fo 61 "law" "law_trueword_k47_no_menus" 575 389)
def t3 (P : Params) : BT := ia (((t2 P).set 3 fun _ => o3_2 P).set 12 fun _ => ⟨.none, none, (.fields #[(.int (2) 0), (.int (0) 0), (.ref 20), (.int (4) 0), (.int (0) 0), (.ref 33), (.int (6) 0), (.int (0) 0), (.ref 45), (.int (8) 0), (.int (0) 0), (.ref 57), (.int (10) 0), (.int (0) 0), (.ref 69), (.int (12) 0), (.int (0) 0), (.ref 81), (.int (14) 0), (.int (0) 0), (.ref 93), (.int (16) 0), (.int (0) 0), (.ref 105), (.int (18) 0), (.int (0) 0), (.ref 117), (.int (20) 0), (.int (0) 0), (.ref 129), (.int (24) 0), (.int (0) 0), (.ref 141), (.int (26) 0), (.int (0) 0), (.ref 148), (.int (28) 0), (.int (0) 0), (.ref 153), (.int (37) 0), (.int (0) 0), (.ref 158), (.int (41) 0), (.int (0) 0), (.ref 163), (.int (45) 0), (.int (0) 0), (.ref 168), (.int (49) 0), (.int (0) 0), (.ref 175), (.int (53) 0), (.int (0) 0), (.ref 182), (.int (55) 0), (.int (0) 0), (.ref 187), (.int (57) 0), (.int (0) 0), (.ref 194), (.int (59) 0), (.int (0) 0), (.ref 201), (.int (61) 0), (.int (0) 0), (.ref 208), (.int (63) 0), (.int (0) 0), (.ref 215), (.int (68) 0), (.int (0) 0), (.ref 220), (.int (74) 0), (.int (0) 0), (.ref 225), (.int (77) 0), (.int (0) 0), (.ref 230), (.int (81) 0), (.int (0) 0), (.ref 237), (.int (83) 0), (.int (0) 0), (.ref 244), (.int (85) 0), (.int (0) 0), (.ref 249), (.int (90) 0), (.int (0) 0), (.ref 256), (.int (95) 0), (.int (0) 0), (.ref 263), (.int (97) 0), (.int (0) 0), (.ref 270), (.int (99) 0), (.int (0) 0), (.ref 277), (.int (102) 0), (.int (0) 0), (.ref 284), (.int (105) 0), (.int (0) 0), (.ref 291), (.int (107) 0), (.int (0) 0), (.ref 298), (.int (109) 0), (.int (0) 0), (.ref 303), (.int (113) 0), (.int (0) 0), (.ref 308), (.int (117) 0), (.int (0) 0), (.ref 313), (.int (122) 0), (.int (0) 0), (.ref 318), (.int (127) 0), (.int (0) 0), (.ref 325), (.int (131) 0), (.int (0) 0), (.ref 330), (.int (144) 0), (.int (0) 0), (.ref 337), (.int (151) 0), (.int (0) 0), (.ref 344), (.int (159) 0), (.int (0) 0), (.ref 349), (.int (174) 0), (.int (0) 0), (.ref 354), (.int (182) 0), (.int (0) 0), (.ref 361), (.int (190) 0), (.int (0) 0), (.ref 368), (.int (206) 0), (.int (0) 0), (.ref 375), (.int (214) 0), (.int (0) 0), (.ref 382), (.int (238) 0), (.int (0) 0), (.ref 389)]), #[]⟩) 305 [oE, oF, (xo 47 "is_menu"), o308, o309, oE, oF, (xo 48 "are_menus"), o313, o314, oE, oF, (xo 49 "menus_table"), o318, o319, oE, oF, (ts 580 ["script", "k"]), oE, (xo 51 "_law_cell_at"), o325, o326, oE, oF, (xo 52 "_law_pool"), o330, o331, oE, oF, (ts 594 ["script", "k", "many", "cell", "number"]), oE, (xo 53 "_law_drawn"), o337, o338, oE, oF, (ts 605 ["cell"]), oE, (xo 54 "_law_worth"), o344, o345, oE, oF, (xo 55 "_law_parts"), o349, o350, oE, oF, (xo 56 "_law_rows"), o354, o355, oE, oF, (ts 624 ["cell", "worth"]), oE, (xo 57 "_law_price"), o361, o362, oE, oF, (ts 632 ["script", "outcomes", "hands", "k", "menus", "j", "rows", "step", "others", "menu", "worths", "i", "place", "cell"]), oE, (xo 58 "_law_menus"), o368, o369, oE, oF, (ts 652 ["house", "k", "menus", "found", "kinds", "e"]), oE, (xo 59 "_law_told"), o375, o376, oE, oF, (ts 664 ["menus", "others", "cell", "way", "first"]), oE, (xo 60 "_law_spoiled"), o382, o383, oE, oF, (ts 675 ["script", "outcomes", "hands", "house", "cell", "k", "menus", "rows", "thing", "found", "kinds"]), oE, (xo 61 "law"), o389, o390]
def hf (P : Params) : Heap := absHeap (t3 P) 391 (lf P)
def s0 (w : World) (os : OsState) : SharedT := ⟨t0 w.params, 15, lf w.params, Array.mk [], boot_drawn, 187, os⟩
def s1 (w : World) (os : OsState) : SharedT := ⟨t1 w.params, 100, lf w.params, Array.mk [], boot_drawn, 303, os⟩
def s2 (w : World) (os : OsState) : SharedT := ⟨t2 w.params, 305, lf w.params, Array.mk [], boot_drawn, 557, os⟩
def s3 (w : World) (os : OsState) : SharedT := ⟨t3 w.params, 391, lf w.params, Array.mk [], boot_drawn, 689, os⟩
def l0 : List Stmt := (pr.main.body.drop 0).take 8
def l1 : List Stmt := (pr.main.body.drop 8).take 39
def l2 : List Stmt := (pr.main.body.drop 47).take 15
theorem bs : behindTheImports pr = l0 ++ (l1 ++ (l2 ++ ([]))) := by kernel_rfl
theorem r_pre (w : World) (os : OsState) : topGo treeTable pr w 11 (some (.ref 6)) 12 ⟨boot_heap w.params, Array.mk [], boot_drawn, boot_toks, os⟩ (topStub pr) = some (⟨ha w.params, Array.mk [], boot_drawn, 187, os⟩, ⟨denote treeTable cd, cd, ⟨0, 0, 0, 0⟩, [topFrame qp]⟩) := by kernel_rfl
theorem zhd (w : World) (os : OsState) : segRun treeTable pr w 11 (some (.ref 6)) 1 1 ⟨ha w.params, Array.mk [], boot_drawn, 187, os⟩ (blockOf (behindTheImports pr) env cd ⟨0, 0, 0, 0⟩ [topFrame qp]) = some (.next, (s0 w os).abs, cd, ⟨0, 0, 0, 0⟩) := by kernel_rfl
theorem r0 (w : World) (os : OsState) : segRunT treeTable pr w 11 (some (.ref 6)) 1 1474 (s0 w os) (piecesOf l0 env cd ⟨0, 0, 0, 0⟩ [topFrame qp]) = some (.next, s1 w os, cd, ⟨14, 0, 15, 8⟩) := by
  rw [PySem.W.Fast.te10110043849684766642, PySem.W.Fast.te14364793385576792824]; kernel_rfl
theorem r1 (w : World) (os : OsState) : segRunT treeTable pr w 11 (some (.ref 6)) 1 1483 (s1 w os) (piecesOf l1 env cd ⟨14, 0, 15, 8⟩ [topFrame qp]) = some (.next, s2 w os, cd, ⟨109, 0, 112, 47⟩) := by
  rw [PySem.W.Fast.te10110043849684766642, PySem.W.Fast.te14364793385576792824]; kernel_rfl
theorem r2 (w : World) (os : OsState) : segRunT treeTable pr w 11 (some (.ref 6)) 1 436 (s2 w os) (piecesOf l2 env cd ⟨109, 0, 112, 47⟩ [topFrame qp]) = some (.next, s3 w os, cd, ⟨238, 0, 252, 94⟩) := by
  rw [PySem.W.Fast.te10110043849684766642, PySem.W.Fast.te14364793385576792824]; kernel_rfl
theorem r_fin (w : World) (os : OsState) : topRun treeTable pr w 11 (some (.ref 6)) 2 (s3 w os).abs ⟨doneF .next, cd, ⟨238, 0, 252, 94⟩, [topFrame qp]⟩ = some ⟨hf w.params, Array.mk [], boot_drawn, 689, os⟩ := by kernel_rfl
theorem r_rest (w : World) (os : OsState) : topRun treeTable pr w 11 (some (.ref 6)) (1474 + (1483 + (436 + (2)))) (s0 w os).abs (restOf (behindTheImports pr) env cd ⟨0, 0, 0, 0⟩ [topFrame qp]) = some ⟨hf w.params, Array.mk [], boot_drawn, 689, os⟩ := by
  have k := piece_app (segRun_of (r0 w os)) (piece_app (segRun_of (r1 w os)) (piece_app (segRun_of (r2 w os)) (piece_nil (r_fin w os))));exact (congrArg (fun b => topRun treeTable pr w 11 (some (.ref 6)) (1474 + (1483 + (436 + (2)))) (s0 w os).abs (restOf b env cd ⟨0, 0, 0, 0⟩ [topFrame qp])) bs).trans k
theorem r_all (w : World) (os : OsState) : topRun treeTable pr w 11 (some (.ref 6)) (12 + (1 + (1474 + (1483 + (436 + (2)))))) ⟨boot_heap w.params, Array.mk [], boot_drawn, boot_toks, os⟩ (topStub pr) = some ⟨hf w.params, Array.mk [], boot_drawn, 689, os⟩ := go_top (r_pre w os) (piece_block (zhd w os) (r_rest w os))
def ks : List Addr := [3, 13, 17, 20, 23, 24, 30, 33, 36, 37, 42, 45, 48, 49, 54, 57, 60, 61, 66, 69, 72, 73, 78, 81, 84, 85, 90, 93, 96, 97, 102, 105, 108, 109, 114, 117, 120, 121, 126, 129, 132, 133, 141, 142, 148, 149, 153, 154, 158, 159, 163, 164, 168, 169, 175, 176, 182, 183, 187, 188, 194, 195, 201, 202, 208, 209, 215, 216, 220, 221, 225, 226, 230, 231, 237, 238, 244, 245, 249, 250, 256, 257, 263, 264, 270, 271, 277, 278, 284, 285, 291, 292, 298, 299, 303, 304, 308, 309, 313, 314, 318, 319, 325, 326, 330, 331, 337, 338, 344, 345, 349, 350, 354, 355, 361, 362, 368, 369, 375, 376, 382, 383, 389, 390]
def K : Params -> Frag := fun P => (nat_lit 3, o3_2 P) :: (nat_lit 13, o13) :: (nat_lit 17, o17 P) :: (nat_lit 20, o20) :: (nat_lit 23, o23 P) :: (nat_lit 24, o24_1) :: (nat_lit 30, o30 P) :: (nat_lit 33, o33) :: (nat_lit 36, o36 P) :: (nat_lit 37, o37) :: (nat_lit 42, o42 P) :: (nat_lit 45, o45) :: (nat_lit 48, o48 P) :: (nat_lit 49, o49) :: (nat_lit 54, o54 P) :: (nat_lit 57, o57) :: (nat_lit 60, o60 P) :: (nat_lit 61, o61) :: (nat_lit 66, o66 P) :: (nat_lit 69, o69) :: (nat_lit 72, o72 P) :: (nat_lit 73, o73) :: (nat_lit 78, o78 P) :: (nat_lit 81, o81) :: (nat_lit 84, o84 P) :: (nat_lit 85, o85) :: (nat_lit 90, o90 P) :: (nat_lit 93, o93) :: (nat_lit 96, o96 P) :: (nat_lit 97, o97) :: (nat_lit 102, o102 P) :: (nat_lit 105, o105) :: (nat_lit 108, o108 P) :: (nat_lit 109, o109) :: (nat_lit 114, o114 P) :: (nat_lit 117, o117) :: (nat_lit 120, o120 P) :: (nat_lit 121, o121) :: (nat_lit 126, o126 P) :: (nat_lit 129, o129) :: (nat_lit 132, o132 P) :: (nat_lit 133, o133) :: (nat_lit 141, o141) :: (nat_lit 142, o142) :: (nat_lit 148, o148) :: (nat_lit 149, o149) :: (nat_lit 153, o153) :: (nat_lit 154, o154) :: (nat_lit 158, o158) :: (nat_lit 159, o159) :: (nat_lit 163, o163) :: (nat_lit 164, o164) :: (nat_lit 168, o168) :: (nat_lit 169, o169) :: (nat_lit 175, o175) :: (nat_lit 176, o176) :: (nat_lit 182, o182) :: (nat_lit 183, o183) :: (nat_lit 187, o187) :: (nat_lit 188, o188) :: (nat_lit 194, o194) :: (nat_lit 195, o195) :: (nat_lit 201, o201) :: (nat_lit 202, o202) :: (nat_lit 208, o208) :: (nat_lit 209, o209) :: (nat_lit 215, o215) :: (nat_lit 216, o216) :: (nat_lit 220, o220) :: (nat_lit 221, o221) :: (nat_lit 225, o225) :: (nat_lit 226, o226) :: (nat_lit 230, o230) :: (nat_lit 231, o231) :: (nat_lit 237, o237) :: (nat_lit 238, o238) :: (nat_lit 244, o244) :: (nat_lit 245, o245) :: (nat_lit 249, o249) :: (nat_lit 250, o250) :: (nat_lit 256, o256) :: (nat_lit 257, o257) :: (nat_lit 263, o263) :: (nat_lit 264, o264) :: (nat_lit 270, o270) :: (nat_lit 271, o271) :: (nat_lit 277, o277) :: (nat_lit 278, o278) :: (nat_lit 284, o284) :: (nat_lit 285, o285) :: (nat_lit 291, o291) :: (nat_lit 292, o292) :: (nat_lit 298, o298) :: (nat_lit 299, o299) :: (nat_lit 303, o303) :: (nat_lit 304, o304) :: (nat_lit 308, o308) :: (nat_lit 309, o309) :: (nat_lit 313, o313) :: (nat_lit 314, o314) :: (nat_lit 318, o318) :: (nat_lit 319, o319) :: (nat_lit 325, o325) :: (nat_lit 326, o326) :: (nat_lit 330, o330) :: (nat_lit 331, o331) :: (nat_lit 337, o337) :: (nat_lit 338, o338) :: (nat_lit 344, o344) :: (nat_lit 345, o345) :: (nat_lit 349, o349) :: (nat_lit 350, o350) :: (nat_lit 354, o354) :: (nat_lit 355, o355) :: (nat_lit 361, o361) :: (nat_lit 362, o362) :: (nat_lit 368, o368) :: (nat_lit 369, o369) :: (nat_lit 375, o375) :: (nat_lit 376, o376) :: (nat_lit 382, o382) :: (nat_lit 383, o383) :: (nat_lit 389, o389) :: (nat_lit 390, o390) :: []
theorem ke (P : Params) : ks = (K P).map (·.1) := by kernel_rfl
def lo : List Str := pr.main.scope.names.map (·.1)
def vw : Program := { pr with main := { pr.main with body := [Mine.ja] } }
def fs (w : World) (os : OsState) : Shared := ⟨hf w.params, Array.mk [], boot_drawn, 689, os⟩
theorem z_size (w : World) : ((boot_heap w.params).isNs mainGlobals && (Array.mk [] : Array GenState).size == 0, (boot_heap w.params).objs.size, (boot_heap w.params).nsMap mainGlobals "__annotations__") = (true, 11, (some (.ref 6))) := by kernel_rfl
theorem z_one (w : World) (os : OsState) : (staticsOk (importedModules pr.main.body) (boot_heap w.params) (hf w.params) && namesBound pr (hf w.params) && gensDone (fs w os) && laidKept (boot_heap w.params) (hf w.params)) = true := by kernel_rfl
theorem z_two (w : World) (os : OsState) : openSeen vw lo (importedModules pr.main.body) (fun _ => true) true (fs w os) = openGood vw lo := by
  rw [PySem.W.Fast.te4187177175401517315]; kernel_rfl
theorem zg5 (w : World) (os : OsState) : (kHook K ks ke).obs (fs w os) = (kHook K ks ke).val w := by kernel_rfl
theorem z_open : opening pr = plainProg pr.main.scope.names := by kernel_rfl
theorem zho (s : Shared) : fenceModules? pr s = some s := by kernel_rfl
theorem left : LeftO pr vw lo (fun _ => true) (kHook K ks ke).obs (kHook K ks ke).val 1000000 :=
  LeftO.of_pieces (boot_open z_open rfl zho) z_size r_all rfl fun w => funext fun os => looks_pair (z_one w os) (looks_pair (z_two w os) (zg5 w os))
end
end Tp
open PySem PySem.W PyProof.Rows
set_option maxRecDepth 100000 in
set_option maxHeartbeats 0 in
theorem PySem.Challenge.cw_trueword_k47_no_menus_holds : PySem.Challenge.rw_trueword_k47_no_menus.Holds := by
  refine holds_law (by rw [PySem.W.Fast.te9446332074065402090]; kernel_rfl) fun said => ?_
  refine holds_open (q := Tp.vw) (loose := Tp.lo) (Xt := fun _ => true) (XP := fun _ _ => True) (Yf := (kHook Tp.K Tp.ks Tp.ke).obs) (Ya := (kHook Tp.K Tp.ks Tp.ke).val) (YP := (kHook Tp.K Tp.ks Tp.ke).says) (N := 1000000) Tp.left (kHook Tp.K Tp.ks Tp.ke).of (kHook Tp.K Tp.ks Tp.ke).keeps (fun _ _ => trivial) (fun _ _ _ _ _ => trivial) (by rfl) (by rfl) (by rfl) (fun _ _ => recFacts_nil rfl) (by rfl) said (by decide +kernel) ⟨rfl, rfl, rfl, rfl, rfl, by decide +kernel⟩ ?hw ?hc
  case hw => w_witness2
  k_fill
  refine L2.zgq (l := PySem.Challenge.rw_trueword_k47_no_menus) (n := 63) (k := 8) (x := "script") (CX := L2.CX0) (sp := Mine.zcz) rfl (by decide) rfl ⟨rfl, by decide, by decide⟩ (fun w h Y => PySem.W.kIn_of Y) ?F ?S ?C
  case F =>
    intro w mg fa h KX G hmg
    have N : mg "ValueError" = none /\ mg "abs" = none /\ mg "all" = none /\ mg "bool" = none /\ mg "dict" = none /\ mg "int" = none /\ mg "isinstance" = none /\ mg "len" = none /\ mg "list" = none /\ mg "max" = none /\ mg "min" = none /\ mg "range" = none /\ mg "set" = none /\ mg "str" = none /\ mg "tuple" = none /\ mg "zip" = none /\ True := by
      refine ⟨?_, ?_, ?_, ?_, ?_, ?_, ?_, ?_, ?_, ?_, ?_, ?_, ?_, ?_, ?_, ?_, trivial⟩ <;> (refine' PySem.W.mg_none_of KX G ?a; (case a => k_is))
    obtain ⟨n_ValueError, n_abs, n_all, n_bool, n_dict, n_int, n_isinstance, n_len, n_list, n_max, n_min, n_range, n_set, n_str, n_tuple, n_zip, -⟩ := N;have k0_MOST_WORDS := PySem.W.mg_of (n := "MOST_WORDS") KX G (by k_is);have k_MOST_WORDS : ∃ t, mg "MOST_WORDS" = some (Value.int 8 t) := ⟨_, k0_MOST_WORDS⟩;have k0_MOST_LETTERS := PySem.W.mg_of (n := "MOST_LETTERS") KX G (by k_is);have k_MOST_LETTERS : ∃ t, mg "MOST_LETTERS" = some (Value.int 8 t) := ⟨_, k0_MOST_LETTERS⟩;have k0_MOST_OUTCOMES := PySem.W.mg_of (n := "MOST_OUTCOMES") KX G (by k_is);have k_MOST_OUTCOMES : ∃ t, mg "MOST_OUTCOMES" = some (Value.int 8 t) := ⟨_, k0_MOST_OUTCOMES⟩;have k0_MOST_HANDS := PySem.W.mg_of (n := "MOST_HANDS") KX G (by k_is);have k_MOST_HANDS : ∃ t, mg "MOST_HANDS" = some (Value.int 4 t) := ⟨_, k0_MOST_HANDS⟩;have k0_MOST_ROWS := PySem.W.mg_of (n := "MOST_ROWS") KX G (by k_is);have k_MOST_ROWS : ∃ t, mg "MOST_ROWS" = some (Value.int 256 t) := ⟨_, k0_MOST_ROWS⟩;have B : Mine.Bt mg := ⟨n_ValueError, n_abs, n_all, n_bool, n_dict, n_int, n_isinstance, n_len, n_list, n_max, n_min, n_range, n_set, n_str, n_tuple, n_zip, k_MOST_WORDS, k_MOST_LETTERS, k_MOST_OUTCOMES, k_MOST_HANDS, k_MOST_ROWS⟩;have z_NoHouse := L2.cy (name := "NoHouse") KX G (by k_is) (by k_exc) (by k_is) (by k_is) (by k_is);have z_NoMenu := L2.cy (name := "NoMenu") KX G (by k_is) (by k_exc) (by k_is) (by k_is) (by k_is);have z_TrueError := L2.cy (name := "TrueError") KX G (by k_is) (by k_exc) (by k_is) (by k_is) (by k_is);have z_NoWord := PySem.W.mg_of (n := "NoWord") KX G (by k_is);have z_NoWeight := PySem.W.mg_of (n := "NoWeight") KX G (by k_is);have z_NoStand := PySem.W.mg_of (n := "NoStand") KX G (by k_is);have z_NoShare := PySem.W.mg_of (n := "NoShare") KX G (by k_is);have z_NoRule := PySem.W.mg_of (n := "NoRule") KX G (by k_is);have z_NoRow := PySem.W.mg_of (n := "NoRow") KX G (by k_is);have z_NoPays := PySem.W.mg_of (n := "NoPays") KX G (by k_is);have C := Mine.Ct.mk (mg := mg) (a := ⟨_, _, _, _, _, _, _, _, _, _⟩) (z_NoHouse.1) (z_NoHouse.2) (z_NoMenu.1) (z_NoMenu.2) (L2.zhj (by k_is)) (z_TrueError.1) (z_TrueError.2) (z_NoWord) (z_NoWeight) (z_NoStand) (z_NoShare) (z_NoRule) (z_NoRow) (z_NoPays) (L2.u3 (by decide) (by k_is) (by k_is) (by k_is)) (by k_is) (L2.zgj) (by k_is) (L2.u3 (by decide) (by k_is) (by k_is) (by k_is)) (L2.u3 (by decide) (by k_is) (by k_is) (by k_is)) (L2.u3 (by decide) (by k_is) (by k_is) (by k_is)) (L2.u3 (by decide) (by k_is) (by k_is) (by k_is)) (L2.u3 (by decide) (by k_is) (by k_is) (by k_is)) (L2.u3 (by decide) (by k_is) (by k_is) (by k_is)) (L2.u3 (by decide) (by k_is) (by k_is) (by k_is)) (L2.u3 (by decide) (by k_is) (by k_is) (by k_is))
    have D : L2.zj (L2.KOf KX) mg "is_whole" Mine.u9 ["thing"] /\ L2.zj (L2.KOf KX) mg "is_bounded" Mine.uw ["thing"] /\ L2.zj (L2.KOf KX) mg "is_grid_row" Mine.uc ["thing", "width"] /\ L2.zj (L2.KOf KX) mg "is_name" Mine.ot ["thing"] /\ L2.zj (L2.KOf KX) mg "are_names" Mine.sj ["thing", "most"] /\ L2.zj (L2.KOf KX) mg "are_worths" Mine.tm ["thing", "height", "width"] /\ L2.zj (L2.KOf KX) mg "is_hand" Mine.oh ["thing", "width"] /\ L2.zj (L2.KOf KX) mg "name_of" Mine.oj ["hand"] /\ L2.zj (L2.KOf KX) mg "names_of" Mine.qi ["hands"] /\ L2.zj (L2.KOf KX) mg "words_of_hand" Mine.wk ["hand"] /\ L2.zj (L2.KOf KX) mg "worths_of_hand" Mine.x9 ["hand"] /\ L2.zj (L2.KOf KX) mg "worths_by" Mine.sv ["hand", "word"] /\ L2.zj (L2.KOf KX) mg "count_of_rows" Mine.vf ["hands"] /\ L2.zj (L2.KOf KX) mg "makes_house" Mine.v7 ["outcomes", "hands"] /\ L2.zj (L2.KOf KX) mg "kept_hand" Mine.vx ["hand"] /\ L2.zj (L2.KOf KX) mg "house_of" Mine.u8 ["outcomes", "hands"] /\ L2.zj (L2.KOf KX) mg "outcomes_of" Mine.ud ["house"] /\ L2.zj (L2.KOf KX) mg "hands_of" Mine.qm ["house"] /\ L2.zj (L2.KOf KX) mg "with_each" Mine.re ["rows", "words"] /\ L2.zj (L2.KOf KX) mg "rows_over" Mine.so ["hands"] /\ L2.zj (L2.KOf KX) mg "rows_of" Mine.oz ["house"] /\ L2.zj (L2.KOf KX) mg "without" Mine.o0 ["things", "k"] /\ L2.zj (L2.KOf KX) mg "others_of" Mine.rb ["house", "k"] /\ L2.zj (L2.KOf KX) mg "is_outcome" Mine.u4 ["house", "thing"] /\ L2.zj (L2.KOf KX) mg "left_of" Mine.oo ["offer"] /\ L2.zj (L2.KOf KX) mg "outcome_of" Mine.ut ["offer"] /\ L2.zj (L2.KOf KX) mg "pick" Mine.ie ["house", "k", "menu", "word"] /\ L2.zj (L2.KOf KX) mg "is_menu" Mine.on ["house", "thing"] /\ L2.zj (L2.KOf KX) mg "are_menus" Mine.rg ["house", "k", "thing"] /\ L2.zj (L2.KOf KX) mg "menus_table" Mine.ub ["house", "k", "menus"] /\ L2.zj (L2.KOf KX) mg "_law_cell_at" Mine.uf ["script", "k"] /\ L2.zj (L2.KOf KX) mg "_law_pool" Mine.z9 ["cell", "many"] /\ L2.zj (L2.KOf KX) mg "_law_drawn" Mine.sy ["script", "k"] /\ L2.zj (L2.KOf KX) mg "_law_worth" Mine.sm ["cell"] /\ L2.zj (L2.KOf KX) mg "_law_parts" Mine.rf ["script", "tops"] /\ L2.zj (L2.KOf KX) mg "_law_rows" Mine.ql ["hands"] /\ L2.zj (L2.KOf KX) mg "_law_price" Mine.sr ["cell", "worth"] /\ L2.zj (L2.KOf KX) mg "_law_menus" Mine.rj ["script", "outcomes", "hands", "k"] /\ L2.zj (L2.KOf KX) mg "_law_told" Mine.qq ["house", "k", "menus"] /\ L2.zj (L2.KOf KX) mg "_law_spoiled" Mine.zf ["menus", "others", "cell"] /\ L2.zj (L2.KOf KX) mg "law" Mine.ja ["script"] /\ True := by
      refine ⟨?_, ?_, ?_, ?_, ?_, ?_, ?_, ?_, ?_, ?_, ?_, ?_, ?_, ?_, ?_, ?_, ?_, ?_, ?_, ?_, ?_, ?_, ?_, ?_, ?_, ?_, ?_, ?_, ?_, ?_, ?_, ?_, ?_, ?_, ?_, ?_, ?_, ?_, ?_, ?_, ?_, trivial⟩ <;> (dsimp only [L2.KOf]; refine' L2.def_mk KX G ?a ?l ?c ?k ?h; (case a => k_is); (case l => k_is); (case c => k_is); (case k => k_is); (case h => first | exact (fun _ _ _ _ _ _ us hl => match us, hl with | [_], _ => rfl) | exact (fun _ _ _ _ _ _ us hl => match us, hl with | [_, _], _ => rfl) | exact (fun _ _ _ _ _ _ us hl => match us, hl with | [_, _, _], _ => rfl) | exact (fun _ _ _ _ _ _ us hl => match us, hl with | [_, _, _, _], _ => rfl)))
    obtain ⟨d_is_whole, d_is_bounded, d_is_grid_row, d_is_name, d_are_names, d_are_worths, d_is_hand, d_name_of, d_names_of, d_words_of_hand, d_worths_of_hand, d_worths_by, d_count_of_rows, d_makes_house, d_kept_hand, d_house_of, d_outcomes_of, d_hands_of, d_with_each, d_rows_over, d_rows_of, d_without, d_others_of, d_is_outcome, d_left_of, d_outcome_of, d_pick, d_is_menu, d_are_menus, d_menus_table, d_law_cell_at, d_law_pool, d_law_drawn, d_law_worth, d_law_parts, d_law_rows, d_law_price, d_law_menus, d_law_told, d_law_spoiled, d_law, -⟩ := D;obtain ⟨f, fd, e1, F1, b1⟩ := d_law.ex;have e2 := hmg.symm.trans e1;cases e2;refine ⟨fd, fun s u => ?_, fun base kb nb => ?_⟩
    . exact Mine.zfd F1 s u
    . exact Mine.law_ok B C d_is_whole d_is_bounded d_is_grid_row d_is_name d_are_names d_are_worths d_is_hand d_name_of d_names_of d_words_of_hand d_worths_of_hand d_worths_by d_count_of_rows d_makes_house d_kept_hand d_house_of d_outcomes_of d_hands_of d_with_each d_rows_over d_rows_of d_without d_others_of d_is_outcome d_left_of d_outcome_of d_pick d_is_menu d_are_menus d_menus_table d_law_cell_at d_law_pool d_law_drawn d_law_worth d_law_parts d_law_rows d_law_price d_law_menus d_law_told d_law_spoiled base F1
  case S => exact fun K H a ns hl hO hS => ⟨a, ns, rfl, hS, hl, fun _ => rfl⟩
  case C => exact fun _ _ _ _ z => z
#print axioms PySem.Challenge.cw_trueword_k47_no_menus_holds

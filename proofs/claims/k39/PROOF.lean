import PyProof.Rows.All
import Wide.All
import OpenK.AllK
import Wide.FinOn
import Lean
import PyProof.EqAt
import PyProof.EqKinds
import PyProof.TupleCall
import PySem.Challenge.RW_trueword_k39_pays_told
abbrev Fg := PySem.W.Frag
abbrev Za := @List.length_map
abbrev Zb := @List.getElem?_eq_getElem
abbrev Zc := @List.getElem?_eq_some_iff
abbrev Zd := @Nat.le_trans
abbrev Ze := @List.getElem?_map
abbrev Zf := @List.getElem?_append_right
abbrev Zg := @List.getElem?_append_left
abbrev Zh := @Nat.lt_of_lt_of_le
abbrev Zi := @List.mem_of_getElem?
abbrev Zj := @List.length_take
abbrev Zk := @List.getD_eq_getElem?_getD
abbrev Zl := @List.getElem_mem
abbrev Zm := @Nat.le_refl
abbrev Zn := @List.map_append
abbrev Zo := @List.length_append
abbrev Zp := @List.mem_map
abbrev Zq := @List.take_add_one
abbrev Zr := @List.size_toArray
abbrev Zs := @Nat.ne_of_lt
abbrev Zt := @List.take_length
abbrev Zu := @List.mem_append_right
abbrev Zv := @List.mem_cons_of_mem
abbrev Zw := @Int.toNat_natCast
abbrev Zx := @List.not_mem_nil
abbrev Zy := @List.getElem_of_mem
abbrev Zz := @List.idxOf_lt_length_iff
abbrev ZA := @List.mem_cons_self
abbrev ZB := @Nat.min_le_right
abbrev ZC := @List.mem_singleton
abbrev ZD := @Nat.not_lt
abbrev ZE := @Nat.zero_le
abbrev ZF := @List.lookup_cons
abbrev ZG := @List.take_of_length_le
abbrev ZH := @List.mem_append
abbrev ZI := @List.length_replicate
abbrev ZJ := @Nat.lt_irrefl
abbrev ZK := @List.mem_cons
abbrev ZL := @List.map_cons
abbrev ZM := @List.length_cons
abbrev ZN := @List.cons_append
abbrev ZO := @List.nil_append
abbrev ZP := @Array.length_toList
abbrev ZQ := @Nat.lt_of_le_of_lt
abbrev ZR := @Int.emod_lt_of_pos
abbrev ZS := @List.all_eq_true
abbrev ZT := @List.nodup_cons
abbrev ZU := @List.mem_range
abbrev ZV := @Int.emod_nonneg
abbrev ZW := @Int.toNat_of_nonneg
abbrev ZX := @List.length_eraseIdx_of_lt
abbrev ZY := @List.mem_filterMap
abbrev ZZ := @List.mem_append_left
abbrev Yb := @List.getElem?_of_mem
abbrev Yc := @List.length_range
abbrev Yd := @List.length_reverse
abbrev Ye := @List.append_nil
abbrev Yg := @List.length_singleton
abbrev Yh := @List.length_drop
abbrev Yi := @List.mem_of_mem_eraseIdx
abbrev Yj := @List.map_congr_left
abbrev Yk := @List.eraseIdx_eq_take_drop_succ
abbrev Yl := @List.find?_cons
abbrev Ym := @List.length_nil
abbrev Yn := @List.range_succ
abbrev Yo := @Int.le_refl
abbrev Yp := @List.nodup_append
abbrev Yq := @Nat.mul_le_mul
abbrev Yr := @List.filterMap_cons
abbrev Ys := @List.pairwise_iff_getElem
abbrev Yt := @List.getElem?_take_of_lt
abbrev Yu := @List.getElem_idxOf
abbrev Yv := @List.nodup_nil
abbrev Yw := @List.getElem?_replicate
abbrev Yx := @List.reverse_cons
abbrev Yy := @Nat.lt_succ_of_lt
abbrev Yz := @List.getElem?_set_self
abbrev YA := @List.getElem?_eraseIdx
abbrev YB := @Nat.lt_succ_self
abbrev YC := @List.mem_flatten
abbrev YD := @List.getElem?_eq_none
abbrev YE := @List.dropLast_eq_take
abbrev YF := @List.getElem?_set_ne
abbrev YG := @Nat.ne_of_gt
abbrev YH := @List.map_nil
abbrev YI := @Option.map_some
abbrev YJ := @List.replicate_succ
abbrev YK := @List.prod_cons
abbrev YL := @Nat.le_succ
abbrev YM := @List.all_cons
abbrev YN := @List.append_assoc
abbrev YO := @Nat.le_of_lt
abbrev YQ := @List.getElem_inj
abbrev YR := @Nat.succ_le_succ
abbrev YS := @List.countP_cons
abbrev YT := @Nat.sub_self
abbrev YU := @List.of_mem_zip
abbrev YV := @Nat.min_eq_left
-- CHANGE: your row's module here, as the last of these rows
set_option Elab.async false
set_option maxHeartbeats 8000000
set_option linter.all false
set_option maxRecDepth 100000
namespace L2
open PySem PySem.Spec PyProof.Rows
abbrev Key := Sum Int Str
def jw : Key -> Value -> Bool
  | .inl k, v => Value.isInt k v
  | .inr x, v => Value.isStrOf x v
def keyH (w : World) : Key -> Int
  | .inl k => hashInt k
  | .inr x => hashStr w x
theorem xt : ∀ {k : Key} {v : Value}, jw k v = true -> (∃ i t, k = Sum.inl i /\ v = Value.int i t) \/ (∃ x t, k = Sum.inr x /\ v = Value.str x t)
  | .inl i, v, h => by
    obtain ⟨t, e⟩ := Value.isInt_shape (k := i) (v := v) h;exact .inl ⟨i, t, rfl, e⟩
  | .inr x, v, h => by
    obtain ⟨t, e⟩ := Value.isStrOf_shape (x := x) (v := v) h;exact .inr ⟨x, t, rfl, e⟩
theorem ze1 (i : Int) (t : Tok) : jw (.inl i) (.int i t) = true := by simp [jw, Value.isInt]
theorem zeq (x : Str) (t : Tok) : jw (.inr x) (.str x t) = true := by simp [jw, Value.isStrOf]
theorem key_ll (a b : Int) : decide ((Sum.inl a : Key) = Sum.inl b) = (a == b) := by
  by_cases e : a = b
  . subst e; simp
  . have h : ¬ (Sum.inl a : Key) = Sum.inl b := fun q => e (Sum.inl.inj q)
    rw [decide_eq_false h];exact (beq_eq_false_iff_ne.mpr e).symm
theorem key_rr (a b : Str) : decide ((Sum.inr a : Key) = Sum.inr b) = decide (a = b) := by
  by_cases e : a = b
  . subst e; simp
  . have h : ¬ (Sum.inr a : Key) = Sum.inr b := fun q => e (Sum.inr.inj q)
    rw [decide_eq_false h, decide_eq_false e]
theorem key_lr (a : Int) (b : Str) : decide ((Sum.inl a : Key) = Sum.inr b) = false := decide_eq_false (fun q => nomatch q)
theorem key_rl (a : Str) (b : Int) : decide ((Sum.inr a : Key) = Sum.inl b) = false := decide_eq_false (fun q => nomatch q)
def x8 (prog : Program) (w : World) : PySem.KeyKind prog w Key where
  is := jw
  hash := keyH w
  inj := fun v a b ha hb => by
    rcases xt ha with ⟨i, t, rfl, rfl⟩ | ⟨x, t, rfl, rfl⟩
    . rcases xt hb with ⟨j, u, rfl, e⟩ | ⟨y, u, rfl, e⟩
      . injection e with e1 _; rw [e1]
      . exact nomatch e
    . rcases xt hb with ⟨j, u, rfl, e⟩ | ⟨y, u, rfl, e⟩
      . exact nomatch e
      . injection e with e1 _; rw [e1]
  byValue := fun k v h => by
    rcases xt h with ⟨i, t, rfl, rfl⟩ | ⟨x, t, rfl, rfl⟩ <;> rfl
  pyHash := fun hv h => by
    rcases xt hv with ⟨i, t, rfl, rfl⟩ | ⟨x, t, rfl, rfl⟩
    . exact wpAny_pyHash_int h
    . exact wpAny_pyHash_str h
  eqBool := fun hu hv h => by
    rcases xt hu with ⟨i, t, rfl, rfl⟩ | ⟨x, t, rfl, rfl⟩
    . rcases xt hv with ⟨j, u, rfl, rfl⟩ | ⟨y, u, rfl, rfl⟩
      . rw [key_ll] at h; exact wpAny_eqBool_int h
      . rw [key_lr] at h; exact SeqAt.EqAt.int_str i t y u _ _ _ _ h
    . rcases xt hv with ⟨j, u, rfl, rfl⟩ | ⟨y, u, rfl, rfl⟩
      . rw [key_rl] at h; exact SeqAt.EqAt.str_int x t j u _ _ _ _ h
      . rw [key_rr] at h; exact wpAny_eqBool_str h
  «strs» := fun k x t v h => by
    rcases xt h with ⟨i, u, rfl, e⟩ | ⟨y, u, rfl, e⟩
    . exact nomatch e
    . injection e with e1 _
      subst e1;cases v <;> rfl
theorem zbm (prog : Program) (w : World) (i : Int) (t : Tok) : (x8 prog w).is (.inl i) (.int i t) = true := ze1 i t
theorem zbg (prog : Program) (w : World) (x : Str) (t : Tok) : (x8 prog w).is (.inr x) (.str x t) = true := zeq x t
end L2
namespace L2
open PySem PySem.Spec PyProof.Rows
inductive V where
  | non | bl (b : Bool) | int (i : Int) | str (x : Str) | byt (b : Array UInt8) | flt (b : UInt64) | ref (a : Addr) | ty (n : String)
  deriving DecidableEq
def RelV : V -> Value -> Prop
  | .non, u => u = Value.none
  | .bl b, u => u = Value.bool b
  | .int i, u => ∃ t, u = Value.int i t
  | .str x, u => ∃ t, u = Value.str x t
  | .byt b, u => ∃ t, u = Value.bytes b t
  | .flt b, u => ∃ t, u = Value.float b t
  | .ref a, u => u = Value.ref a
  | .ty n, u => u = Value.type n
abbrev Vals : List V -> List Value -> Prop := Paired RelV
theorem Vals.length {xs : List V} {us : List Value} (r : Vals xs us) : xs.length = us.length := Paired.length r
theorem Vals.get : ∀ {xs : List V} {us : List Value} {i : Nat} {x : V}, Vals xs us -> xs[i]? = some x -> ∃ u, us[i]? = some u /\ RelV x u
  | _, _, _, _, .nil, e => by simp at e
  | _, _, 0, _, .cons r _, e => by simp at e; subst e; exact ⟨_, rfl, r⟩
  | _, _, i + 1, x, .cons _ t, e => by
    obtain ⟨u, h1, h2⟩ := Vals.get (i := i) (x := x) t (by simpa using e);exact ⟨u, by simpa using h1, h2⟩
theorem Vals.set {x : V} {u : Value} (r : RelV x u) : ∀ {xs : List V} {us : List Value} (i : Nat), Vals xs us -> Vals (xs.set i x) (us.set i u)
  | _, _, _, .nil => .nil
  | _, _, 0, .cons _ t => .cons r t
  | _, _, i + 1, .cons q t => .cons q (Vals.set r i t)
theorem Vals.append : ∀ {xs ys : List V} {us ws : List Value}, Vals xs us -> Vals ys ws -> Vals (xs ++ ys) (us ++ ws)
  | _, _, _, _, .nil, s => s
  | _, _, _, _, .cons r t, s => .cons r (Vals.append t s)
theorem Vals.take : ∀ {xs : List V} {us : List Value} (n : Nat), Vals xs us -> Vals (xs.take n) (us.take n)
  | _, _, 0, _ => .nil
  | _, _, _ + 1, .nil => .nil
  | _, _, n + 1, .cons r t => .cons r (Vals.take n t)
theorem Vals.drop : ∀ {xs : List V} {us : List Value} (n : Nat), Vals xs us -> Vals (xs.drop n) (us.drop n)
  | _, _, 0, r => r
  | _, _, _ + 1, .nil => .nil
  | _, _, n + 1, .cons _ t => Vals.drop n t
def RelO : Option V -> Option Value -> Prop
  | some v, some u => RelV v u
  | none, none => True
  | _, _ => False
def KV {κ : Type} : List (κ × V) -> List (κ × Value) -> Prop := Paired fun (p : κ × V) (q : κ × Value) => p.1 = q.1 /\ RelV p.2 q.2
def kV : Key -> V
  | .inl i => .int i
  | .inr x => .str x
inductive HO where
    | lst (xs : List V)
    | tup (xs : List V)
    | dK (kvs : List (Key × V)) | dT (kvs : List (List Key × V))
    | set (S : Int -> Bool) (n : Nat)
    | ins (C dx : Addr) (fs : List (Str × V))
    | own (x : Addr)
    | xd (fs : List (Str × V))
    | met (f x : Addr)
    | rng (lo hi : Int)
    | frz (o : Obj) (u : HO)
    | tbl (ps : Array Value)
    | ext (φ : Heap -> Prop)
abbrev Hp := Addr -> Option HO
def upd (H : Hp) (a : Addr) (o : HO) : Hp := fun b => if b = a then some o else H b
theorem zg {H : Hp} {a : Addr} {o : HO} : upd H a o a = some o := by unfold upd; rw [if_pos rfl]
theorem zx {H : Hp} {a b : Addr} {o : HO} (h : b ≠ a) : upd H a o b = H b := by unfold upd; rw [if_neg h]
theorem ne_of {H : Hp} {a b : Addr} {o u : HO} (h : H a = some o) (h' : H b = some u) (d : o ≠ u) : a ≠ b := by
  intro e; subst e; rw [h] at h'; exact d (Option.some.inj h')
theorem y3 {H : Hp} {a b : Addr} {o : HO} (h : H a = some o) (h' : H b = none) : a ≠ b := by
  intro e; subst e; rw [h] at h'; cases h'
def IsTupD (h : Heap) (a : Addr) (items : Array Value) : Prop := ∃ o, h.get? a = some o /\ o.cls = .type "tuple" /\ ∃ n, o.data = .seq items n /\ o.dict = none
theorem IsTupD.tup {h : Heap} {a : Addr} {items : Array Value} (q : IsTupD h a items) : IsTup h a items := by
  obtain ⟨o, e, c, n, d, _⟩ := q;exact ⟨o, e, c, n, d⟩
theorem IsTupD.new (h : Heap) (items : Array Value) : IsTupD (h.push { cls := .type "tuple", data := .seq items }) h.objs.size items := ⟨_, Heap.get?_push_size _ rfl, rfl, _, rfl, rfl⟩
section
variable (P : Program) (w : World)
def ObjOk (H : Hp) (h : Heap) (a : Addr) : HO -> Prop
  | .lst xs => xs.length <= sizeLine /\ ∃ (its : List Value) (n : Nat), Vals xs its /\ h.get? a = some { cls := .type "list", data := .seq its.toArray n }
  | .tup xs => xs.length <= sizeLine /\ ∃ its : List Value, Vals xs its /\ IsTupD h a its.toArray
  | .dK kvs => kvs.length <= sizeLine /\ (a == sysModules) = false /\ ∃ vs, KV kvs vs /\ h.DictOf (x8 P w) a vs
  | .dT kvs => kvs.length <= sizeLine /\ (a == sysModules) = false /\ ∃ xs : List (List Key × Addr × Value),
      Paired (fun (p : List Key × V) (q : List Key × Addr × Value) => p.1 = q.1 /\ H q.2.1 = some (.tup (p.1.map kV)) /\ RelV p.2 q.2.2) kvs xs /\
      ∃ o es ep, h.get? a = some o /\ o.ExactDict /\ o.data = .dict es ep /\ es.toList = xs.map (entryOfKey (tupleKind (x8 P w))) /\ (xs.map (·.1)).Nodup
  | .set S n => h.SetOf (intKind P w) a S n
  | .ins C dx fs => H dx = some (.own a) /\ fs.length <= 1000 /\ dx ≠ a /\ h.get? a = some (PySem.W.instObj C dx) /\
      ∃ mA, h.Ns1 dx mA /\ (∀ f, RelO (fs.lookup f) (mA f)) /\ PySem.Within mA (fs.map (·.1))
  | .own _ => ∃ o, h.get? a = some o
  | .xd fs => ∃ mA, h.Ns1 a mA /\ ∀ f, RelO (fs.lookup f) (mA f)
  | .rng lo hi => ∃ t u v, h.get? a = some { cls := .type "range", data := .fields #[.int lo t, .int hi u, .int 1 v] }
  | .frz o u => h.get? a = some o /\ ObjOk H h a u
  | .tbl ps => h.get? a = some { cls := .none, data := .fields ps }
  | .met f x => h.get? a = some (PySem.W.methodObj (.ref f) (.ref x))
  | .ext φ => φ h /\ (∃ o, h.get? a = some o) /\ ∀ h1 h2 : Heap, φ h1 -> (∀ o, h1.get? a = some o -> h2.get? a = some o) -> φ h2
def HOk (H : Hp) (h : Heap) : Prop := ∀ a o, H a = some o -> ObjOk P w H h a o
end
section
variable {P : Program} {w : World} {H H' : Hp} {h h' : Heap} {a : Addr} {o : HO}
theorem ObjOk.lt (x : ObjOk P w H h a o) : a < h.objs.size := by
  cases o with
  | lst xs => obtain ⟨_, _, _, _, e⟩ := x; exact Heap.lt_size e
  | tup xs => obtain ⟨_, _, _, p⟩ := x; exact p.tup.lt
  | dK kvs => obtain ⟨_, _, _, _, o, _, _, e, _⟩ := x; exact Heap.lt_size e
  | dT kvs => obtain ⟨_, _, _, _, o, _, _, e, _⟩ := x; exact Heap.lt_size e
  | set S n => obtain ⟨o, _, _, _, e, _⟩ := x; exact Heap.lt_size e
  | ins C dx fs => obtain ⟨_, _, _, e, _⟩ := x; exact Heap.lt_size e
  | own y => obtain ⟨_, e⟩ := x; exact Heap.lt_size e
  | xd fs => obtain ⟨_, ⟨_, _, _, e, _⟩, _⟩ := x; exact Heap.lt_size e
  | rng lo hi => obtain ⟨_, _, _, e⟩ := x; exact Heap.lt_size e
  | frz ob u => obtain ⟨e, _⟩ := x; exact Heap.lt_size e
  | tbl ps => exact Heap.lt_size (show h.get? a = some _ from x)
  | met f y => exact Heap.lt_size (show h.get? a = some _ from x)
  | ext φ => obtain ⟨_, ⟨_, e⟩, _⟩ := x; exact Heap.lt_size e
theorem Paired.mapP {α β : Type} {F G : α -> β -> Prop} : ∀ {l₁ : List α} {l₂ : List β}, Paired F l₁ l₂ -> (∀ a b, F a b -> G a b) -> Paired G l₁ l₂
  | _, _, .nil, _ => .nil
  | _, _, .cons r t, f => .cons (f _ _ r) (Paired.mapP t f)
theorem ObjOk.stay (x : ObjOk P w H h a o) (k : ∀ b u, (b = a \/ H b = some (.own a)) -> h.get? b = some u -> h'.get? b = some u)
    (ho : ∀ b, H b = some (.own a) -> H' b = some (.own a)) (ht : ∀ b xs, H b = some (.tup xs) -> H' b = some (.tup xs)) : ObjOk P w H' h' a o := by
  induction o with
  | lst xs => obtain ⟨z, its, n, r, e⟩ := x; exact ⟨z, its, n, r, k _ _ (.inl rfl) e⟩
  | tup xs => obtain ⟨z, its, r, ob, e, c⟩ := x; exact ⟨z, its, r, ob, k _ _ (.inl rfl) e, c⟩
  | dK kvs => obtain ⟨z, y, vs, r, ob, es, ep, e, c⟩ := x; exact ⟨z, y, vs, r, ob, es, ep, k _ _ (.inl rfl) e, c⟩
  | dT kvs =>
    obtain ⟨z, y, xs, r, ob, es, ep, e, c⟩ := x;exact ⟨z, y, xs, Paired.mapP r fun p q z => ⟨z.1, ht _ _ z.2.1, z.2.2⟩, ob, es, ep, k _ _ (.inl rfl) e, c⟩
  | set S n => obtain ⟨ob, es, ep, t, e, c⟩ := x; exact ⟨ob, es, ep, t, k _ _ (.inl rfl) e, c⟩
  | ins C dx fs =>
    obtain ⟨d, z, ne, e, mA, ⟨od, es, ep, e2, c⟩, r⟩ := x;exact ⟨ho _ d, z, ne, k _ _ (.inl rfl) e, mA, ⟨od, es, ep, k _ _ (.inr d) e2, c⟩, r⟩
  | own y => obtain ⟨ob, e⟩ := x; exact ⟨ob, k _ _ (.inl rfl) e⟩
  | xd fs => obtain ⟨mA, ⟨od, es, ep, e, c⟩, r⟩ := x; exact ⟨mA, ⟨od, es, ep, k _ _ (.inl rfl) e, c⟩, r⟩
  | rng lo hi => obtain ⟨t, u, v, e⟩ := x; exact ⟨t, u, v, k _ _ (.inl rfl) e⟩
  | frz ob u ih => obtain ⟨e, q⟩ := x; exact ⟨k _ _ (.inl rfl) e, ih q⟩
  | tbl ps =>
    have e : h.get? a = some { cls := .none, data := .fields ps } := x
    show h'.get? a = some { cls := .none, data := .fields ps }
    exact k a _ (.inl rfl) e
  | met f y =>
    have e : h.get? a = some (PySem.W.methodObj (.ref f) (.ref y)) := x
    show h'.get? a = some (PySem.W.methodObj (.ref f) (.ref y))
    exact k a _ (.inl rfl) e
  | ext φ => obtain ⟨p, ⟨o, e⟩, st⟩ := x; exact ⟨st _ _ p fun o q => k _ _ (.inl rfl) q, ⟨o, k _ _ (.inl rfl) e⟩, st⟩
theorem HOk.lt (x : HOk P w H h) (e : H a = some o) : a < h.objs.size := (x a o e).lt
theorem HOk.fresh (x : HOk P w H h) (e : h.objs.size <= a) : H a = none := by
  cases q : H a with
  | none => rfl
  | some u => exact absurd (Zh (x.lt q) e) (ZJ _)
theorem HOk.kept (x : HOk P w H h) (k : ∀ b u, h.get? b = some u -> h'.get? b = some u) : HOk P w H h' := fun a o e =>
  (x a o e).stay (fun b u _ q => k b u q) (fun _ q => q) fun _ _ q => q
theorem HOk.laid (x : HOk P w H h) (k : ∀ b u, h.get? b = some u -> h'.get? b = some u) (hp : h.objs.size <= a) (new : ObjOk P w (upd H a o) h' a o) : HOk P w (upd H a o) h' := fun b u e => by
  have hn := x.fresh hp
  by_cases hb : b = a
  . subst hb; rw [zg] at e; cases e; exact new
  . rw [zx hb] at e
    exact (x b u e).stay (fun c v _ q => k c v q) (fun c q => by rw [zx (y3 q hn)]; exact q) fun c xs q => by rw [zx (y3 q hn)]; exact q
end
def Rd (H : Hp) (a : Addr) (u : HO) : Prop := H a = some u \/ ∃ o, H a = some (.frz o u)
theorem Rd.of {H : Hp} {a : Addr} {u : HO} (h : H a = some u) : Rd H a u := .inl h
theorem Rd.ok {P : Program} {w : World} {H : Hp} {h : Heap} {a : Addr} {u : HO} (r : Rd H a u) (x : HOk P w H h) : ObjOk P w H h a u := by
  rcases r with r | ⟨o, r⟩
  . exact x a u r
  . obtain ⟨_, q⟩ := x a _ r
    exact q
def Mut : Option HO -> Prop
  | some (.lst _) => True
  | some (.dK _) => True
  | some (.dT _) => True
  | some (.set _ _) => True
  | some (.ins _ _ _) => True
  | some (.ext _) => True
  | _ => False
section
variable {P : Program} {w : World} {H : Hp} {h h' : Heap} {x e : Addr} {o' : HO}
theorem HOk.write (ok : HOk P w H h) (mu : Mut (H x)) (he : e = x \/ H e = some (.own x)) (k : ∀ b u, b ≠ e -> h.get? b = some u -> h'.get? b = some u) (heo : ∃ u, h'.get? e = some u)
    (new : ObjOk P w (upd H x o') h' x o') : HOk P w (upd H x o') h' := fun b u q => by
  have nown : ∀ c y, H c = some (.own y) -> c ≠ x := fun c y r z => by subst z; rw [r] at mu; exact mu
  have ntup : ∀ c xs, H c = some (.tup xs) -> c ≠ x := fun c xs r z => by subst z; rw [r] at mu; exact mu
  by_cases hb : b = x
  . subst hb; rw [zg] at q; cases q; exact new
  . rw [zx hb] at q
    by_cases hbe : b = e
    . have q' : H b = some (.own x) := by
        rcases he with z | z
        . exact absurd (hbe.trans z) hb
        . rw [hbe]; exact z
      rw [q] at q'; cases q';obtain ⟨v, hv⟩ := heo;exact ⟨v, by rw [hbe]; exact hv⟩
    . refine (ok b u q).stay (fun c v hc r => k c v ?_ r) (fun c r => by rw [zx (nown c b r)]; exact r) fun c xs r => by rw [zx (ntup c xs r)]; exact r
      rcases hc with rfl | hc
      . exact hbe
      . rintro rfl
        rcases he with z | z
        . exact nown c b hc z
        . rw [hc] at z; cases z; exact hb rfl
end
structure Un (fs ex : List Addr) (H H' : Hp) (h h' : Heap) : Prop where
  keep : ∀ b o, h.get? b = some o -> H b = none -> b ∉ fs -> b ∉ ex -> h'.get? b = some o
  slot : ∀ b o, h.get? b = some o -> H b = none -> b ∈ fs -> b ∉ ex -> ∃ sl, h'.get? b = some { o with slots := sl }
  free : ∀ b o, h.get? b = some o -> H b = none -> b ∉ ex -> H' b = none
  there : ∀ b o, h.get? b = some o -> b ∉ ex -> ∃ o', h'.get? b = some o'
  tups : ∀ b xs, H b = some (.tup xs) -> H' b = some (.tup xs)
  frzs : ∀ b o u, H b = some (.frz o u) -> H' b = some (.frz o u)
  tbls : ∀ b ps, H b = some (.tbl ps) -> ∃ more, H' b = some (.tbl (ps ++ more))
section
variable {fs fs' ex ex' : List Addr} {H H1 H2 : Hp} {h h1 h2 h' : Heap} {a x e : Addr} {o : HO}
theorem Un.any (u : Un fs ex H H1 h h1) {b : Addr} {ob : Obj} (q : h.get? b = some ob) (n : H b = none) (hx : b ∉ ex) : ∃ sl, h1.get? b = some { ob with slots := sl } := by
  by_cases hb : b ∈ fs
  . exact u.slot b ob q n hb hx
  . exact ⟨ob.slots, u.keep b ob q n hb hx⟩
theorem Un.trans (a : Un fs ex H H1 h h1) (b : Un fs ex H1 H2 h1 h2) : Un fs ex H H2 h h2 where
  keep := fun c ob q n hc hx => b.keep c ob (a.keep c ob q n hc hx) (a.free c ob q n hx) hc hx
  slot := fun c ob q n hc hx => by
    obtain ⟨sl, e1⟩ := a.slot c ob q n hc hx;obtain ⟨sl', e2⟩ := b.slot c _ e1 (a.free c ob q n hx) hc hx;exact ⟨sl', e2⟩
  free := fun c ob q n hx => by
    obtain ⟨o', e1⟩ := a.there c ob q hx;exact b.free c o' e1 (a.free c ob q n hx) hx
  there := fun c ob q hx => by
    obtain ⟨o', e1⟩ := a.there c ob q hx;exact b.there c o' e1 hx
  tups := fun c xs q => b.tups c xs (a.tups c xs q)
  frzs := fun c ob xs q => b.frzs c ob xs (a.frzs c ob xs q)
  tbls := fun c ps q => by
    obtain ⟨m1, e1⟩ := a.tbls c ps q;obtain ⟨m2, e2⟩ := b.tbls c _ e1;exact ⟨m1 ++ m2, by rw [e2, Array.append_assoc]⟩
theorem Un.kept (k : ∀ b u, h.get? b = some u -> h'.get? b = some u) : Un fs ex H H h h' :=
  ⟨fun b ob q _ _ _ => k b ob q, fun b ob q _ _ _ => ⟨ob.slots, k b ob q⟩, fun _ _ _ n _ => n, fun b ob q _ => ⟨ob, k b ob q⟩, fun _ _ q => q, fun _ _ _ q => q, fun _ ps q => ⟨#[], by rw [q]; simp⟩⟩
theorem Un.refl : Un fs ex H H h h := Un.kept fun _ _ q => q
theorem Un.laid (k : ∀ b u, h.get? b = some u -> h'.get? b = some u) (hp : h.objs.size <= a) (hn : H a = none) : Un fs ex H (upd H a o) h h' where
  keep := fun b u q _ _ _ => k b u q
  slot := fun b u q _ _ _ => ⟨u.slots, k b u q⟩
  free := fun b u q n _ => by rw [zx (Zs (Zh (Heap.lt_size q) hp))]; exact n
  there := fun b u q _ => ⟨u, k b u q⟩
  tups := fun b xs q => by rw [zx (y3 q hn)]; exact q
  frzs := fun b u xs q => by rw [zx (y3 q hn)]; exact q
  tbls := fun b ps q => ⟨#[], by rw [zx (y3 q hn), q]; simp⟩
theorem Un.write (mu : Mut (H x)) (he : e = x \/ H e = some (.own x)) (k : ∀ b u, b ≠ e -> h.get? b = some u -> h'.get? b = some u) (heo : ∃ u, h'.get? e = some u) : Un fs ex H (upd H x o) h h' := by
  have hx : ∀ b, H b = none -> b ≠ x := fun b n z => by subst z; rw [n] at mu; exact mu
  have hb : ∀ b, H b = none -> b ≠ e := fun b n z => by
    subst z
    rcases he with r | r
    . exact hx b n r
    . rw [n] at r; cases r
  have hm : ∀ b u, H b = some u -> ¬ Mut (some u) -> b ≠ x := fun b u q nm z => by subst z; rw [q] at mu; exact nm mu
  refine ⟨fun b u q n _ _ => k b u (hb b n) q, fun b u q n _ _ => ⟨u.slots, k b u (hb b n) q⟩, fun b u q n _ => by rw [zx (hx b n)]; exact n, fun b u q _ => ?_,
    fun b xs q => by rw [zx (hm b _ q fun z => z)]; exact q, fun b u xs q => by rw [zx (hm b _ q fun z => z)]; exact q, fun b ps q => ⟨#[], by rw [zx (hm b _ q fun z => z), q]; simp⟩⟩
  by_cases hbe : b = e
  . subst hbe; exact heo
  . exact ⟨u, k b u hbe q⟩
theorem Un.mono (u : Un fs ex H H1 h h1) (hs : ∀ b ∈ fs, b ∈ fs') (hx : ∀ b ∈ ex, b ∈ ex') : Un fs' ex' H H1 h h1 :=
  ⟨fun b ob q n hb he => u.keep b ob q n (fun z => hb (hs b z)) fun z => he (hx b z), fun _ _ q n _ he => u.any q n fun z => he (hx _ z), fun b ob q n he => u.free b ob q n fun z => he (hx b z), fun b ob q he => u.there b ob q fun z => he (hx b z), u.tups, u.frzs, u.tbls⟩
end
def trk (h : Heap) (H : Hp) : List Addr := (List.range h.objs.size).filter fun a => (H a).isSome
def hidT (h : Heap) (H : Hp) : Heap := PySem.W.hideAll h (trk h H)
theorem zer (h : Heap) (H : Hp) : (hidT h H).objs.size = h.objs.size := PySem.W.hideAll_size _ _
theorem zgh {h : Heap} {H : Hp} {b : Addr} {o : Obj} (e : h.get? b = some o) (n : H b = none) : (hidT h H).get? b = some o :=
  PySem.W.hideAll_get _ e fun hm => by
    have q : (H b).isSome = true := (List.mem_filter.mp hm).2;rw [n] at q; simp at q
theorem zhv {h : Heap} {H : Hp} {b : Addr} {o : Obj} (e : (hidT h H).get? b = some o) : h.get? b = some o /\ H b = none := by
  have e' : h.get? b = some o := PySem.W.of_hideAll (trk h H) e;refine ⟨e', ?_⟩
  cases q : H b with
  | none => rfl
  | some x =>
    have hm : b ∈ trk h H := List.mem_filter.mpr ⟨ZU.mpr (Heap.lt_size e'), by simp [q]⟩;have z : (hidT h H).get? b = none := PySem.W.hideAll_none (trk h H) hm;rw [z] at e; cases e
def zh1 (g h : Heap) (L : Addr) : List (Addr × Obj) := (List.range h.objs.size).filterMap fun a => if a = L \/ (g.get? a).isSome = true then none else (h.get? a).map fun o => (a, o)
def rest (g h : Heap) (L d : Addr) : List (Addr × Obj) := (zh1 g h L).filter fun p => decide (p.1 ≠ d)
end L2
namespace L2
open PySem PySem.Spec PyProof.Rows
structure Mod (K : Fg) (mg : Str -> Option Value) (base : Heap) : Prop where
  kin : K.In base
  glob : base.Ns mainGlobals mg
  blt : ∃ mb, base.Ns builtinsNs mb /\ ∀ x : Str, x ≠ "__name__" -> mb x = bootBuiltins x
  nolimit : base.NoLimit
structure Cx where
  prog : Program
  w : World
  K : Fg
  mg : Str -> Option Value
  base : Heap
  A : Around
  N : List Str
  s₀ : Shared
  H₀ : Hp
  env : Env
  outer : List Env
  stack : List Env
  ex : List Addr
  fn : Str -> Bool
  calm : Bool
  pn : List (Addr × Obj)
  xe : Value -> Shared -> Prop
def frs (l : List Env) : List Addr := l.filterMap (·.frame)
abbrev Cx.fs (X : Cx) : List Addr := frs X.outer
def Vis (sc : Scope) (x : Str) : Prop := sc.names.lookup x = some .local \/ sc.names.lookup x = some .cell \/ sc.names.lookup x = some .free
def Loc (sc : Scope) (x : Str) : Prop := sc.names.lookup x = some .local \/ sc.names.lookup x = some .cell
def Look (env : Env) (h : Heap) (m : Str -> Option Value) (x : Str) (u : Value) : Prop :=
  (env.kindOf x = some .local /\ m x = some u) \/ ((env.kindOf x = some .cell \/ env.kindOf x = some .free) /\ ∃ c, env.cells.lookup x = some c /\ h.IsCell c (some u))
structure Cx.Ok (X : Cx) : Prop where
  mod : Mod X.K X.mg X.base
  kind : X.env.scope.kind = .function
  glob : X.env.globals = mainGlobals
  blt : X.env.builtins = builtinsNs
  above : X.s₀.heap.objs.size <= X.env.locals
  inj : ∀ x y c, X.env.cells.lookup x = some c -> X.env.cells.lookup y = some c -> x = y
  has : ∀ x, (X.env.kindOf x = some .cell \/ X.env.kindOf x = some .free) -> ∃ c, X.env.cells.lookup x = some c
  cab : ∀ x c, X.fn x = true -> X.env.cells.lookup x = some c -> X.s₀.heap.objs.size <= c
  hd : X.calm = true -> X.A.handled = none
  frames : X.A.frames = some X.stack
  stk : X.stack = X.outer \/ (X.stack = X.env :: X.outer /\ X.env.frame = some X.env.locals)
  exf : ∀ b ∈ X.ex, b ≠ X.env.locals /\ ∀ x c, X.env.cells.lookup x = some c -> c ≠ b
  bs : ∀ b o, X.base.get? b = some o -> X.s₀.heap.get? b = some o /\ X.H₀ b = none
  bsz : X.base.objs.size <= X.s₀.heap.objs.size
  noex : ∀ b o, X.base.get? b = some o -> b ∉ X.ex
  exfs : ∀ b ∈ X.ex, b ∉ X.fs
  funs : X.s₀.heap.FunFrames X.base X.outer
  frf : ∀ b ∈ X.fs, X.H₀ b = none
structure Inv (X : Cx) (pins : List (Addr × Obj)) (σ : List (Option V)) (H : Hp) (s : Shared) : Prop where
  ok : X.Ok
  os : s.os = X.s₀.os
  bare : AllBare s.gens
  base : Un X.fs X.ex X.H₀ H X.s₀.heap s.heap
  loc : ∃ m, s.heap.Ns X.env.locals m /\ ∀ (i : Nat) (x : Str) (v : V), X.N[i]? = some x -> σ[i]? = some (some v) -> Vis X.env.scope x -> ∃ u, RelV v u /\ Look X.env s.heap m x u
  cell : ∀ x c, X.env.cells.lookup x = some c -> ∃ v, s.heap.IsCell c v
  free : H X.env.locals = none
  freeC : ∀ x c, X.env.cells.lookup x = some c -> H c = none
  pin : ∀ p ∈ X.pn ++ pins, s.heap.get? p.1 = some p.2 /\ H p.1 = none /\ p.1 ≠ X.env.locals /\ p.1 ∉ X.fs /\ ∀ v, p.2.data ≠ .cell v
  hok : HOk X.prog X.w H s.heap
  len : σ.length = X.N.length
section
variable {X : Cx} {pins : List (Addr × Obj)} {σ : List (Option V)} {H H' : Hp} {s : Shared} {h' : Heap}
theorem Cx.Ok.nofr (ok : X.Ok) {b : Addr} {o : Obj} (e : X.base.get? b = some o) : b ∉ X.fs := fun hb => by
  have := (ok.funs.mem hb).1;rw [e] at this; cases this
theorem Inv.bs (I : Inv X pins σ H s) : ∀ b o, X.base.get? b = some o -> s.heap.get? b = some o /\ H b = none := fun b o e =>
  ⟨I.base.keep b o (I.ok.bs b o e).1 (I.ok.bs b o e).2 (I.ok.nofr e) (I.ok.noex b o e), I.base.free b o (I.ok.bs b o e).1 (I.ok.bs b o e).2 (I.ok.noex b o e)⟩
theorem Inv.bk (I : Inv X pins σ H s) : ∀ b o, X.base.get? b = some o -> s.heap.get? b = some o := fun b o e => (I.bs b o e).1
theorem Inv.mod (I : Inv X pins σ H s) : Mod X.K X.mg X.base := I.ok.mod
theorem Inv.kIn (I : Inv X pins σ H s) : X.K.In s.heap := I.ok.mod.kin.keeps I.bk
theorem Inv.nolimit (I : Inv X pins σ H s) : s.heap.NoLimit := I.ok.mod.nolimit.keeps I.bk
theorem Inv.lt (I : Inv X pins σ H s) : X.env.locals < s.heap.objs.size := let ⟨_, hn, _⟩ := I.loc; hn.lt
theorem Inv.sz (I : Inv X pins σ H s) : X.s₀.heap.objs.size <= s.heap.objs.size := Zd I.ok.above (YO I.lt)
theorem Inv.nofs (I : Inv X pins σ H s) {a : Addr} (h : s.heap.objs.size <= a) : a ∉ X.fs := fun hb => by
  obtain ⟨_, o, ho, _⟩ := I.ok.funs.mem hb;exact absurd (Zh (Heap.lt_size ho) (Zd I.sz h)) (ZJ _)
theorem Inv.cne (I : Inv X pins σ H s) : ∀ x c, X.env.cells.lookup x = some c -> c ≠ X.env.locals := fun x c e z => by
  obtain ⟨v, o, ho, hd⟩ := I.cell x c e;obtain ⟨m, ⟨o', es, ep, ho', hd', _⟩, _⟩ := I.loc;rw [z, ho'] at ho; cases ho; rw [hd'] at hd; cases hd
theorem Inv.funs (I : Inv X pins σ H s) : s.heap.FunFrames X.base X.outer := by
  have all : ∀ (l : List Env), (∀ b ∈ frs l, b ∈ X.fs) -> X.s₀.heap.FunFrames X.base l -> s.heap.FunFrames X.base l := by
    intro l
    induction l with
    | nil => intro _ _; trivial
    | cons env r ih =>
      intro hs hl;obtain ⟨hk, ⟨L, o, hf, hn, ho, hd⟩, hr⟩ := hl;have hL : L ∈ X.fs := hs L (by unfold frs; rw [Yr, hf]; exact ZA);obtain ⟨sl, e⟩ := I.base.slot L o ho (I.ok.frf L hL) hL fun z => I.ok.exfs L z hL
      exact ⟨hk, ⟨L, _, hf, hn, e, hd⟩, ih (fun b hb => hs b (by unfold frs; rw [Yr, hf]; exact Zv _ hb)) hr⟩
  exact all X.outer (fun _ hb => hb) I.ok.funs
theorem Inv.stack (I : Inv X pins σ H s) : s.heap.FunFrames X.base X.stack := by
  rcases I.ok.stk with e | ⟨e, hf⟩
  . rw [e]; exact I.funs
  . rw [e]
    obtain ⟨m, hn, _⟩ := I.loc;refine .cons (by rw [I.ok.kind]; decide) hf hn ?_ I.funs;exact Heap.get?_none_of_le (Zd I.ok.bsz I.ok.above)
theorem Inv.stkSub (I : Inv X pins σ H s) : ∀ b ∈ frs X.stack, b ∈ X.env.locals :: X.fs := fun b hb => by
  rcases I.ok.stk with e | ⟨e, hf⟩
  . rw [e] at hb; exact Zv _ hb
  . rw [e] at hb
    unfold frs at hb;rw [Yr, hf] at hb;exact hb
theorem Inv.stkFree (I : Inv X pins σ H s) : ∀ b ∈ frs X.stack, H b = none := fun b hb => by
  rcases ZK.mp (I.stkSub b hb) with e | hb
  . rw [e]; exact I.free
  . obtain ⟨_, o, ho, _⟩ := I.ok.funs.mem hb
    exact I.base.free b o ho (I.ok.frf b hb) fun z => I.ok.exfs b z hb
theorem Inv.step {g' : Array GenState} {t' : Nat} {d' : Drawn} {ch : List Addr} (I : Inv X pins σ H s)
    (hch : ∀ b ∈ ch, (b ∈ X.ex \/ X.s₀.heap.objs.size <= b) /\ b ≠ X.env.locals /\ (∀ x c, X.env.cells.lookup x = some c -> c ≠ b) /\ ∀ p ∈ X.pn ++ pins, p.1 ≠ b)
    (keep : ∀ b o, b ≠ X.env.locals -> b ∉ X.fs -> b ∉ ch -> s.heap.get? b = some o -> H b = none -> h'.get? b = some o)
    (slot : ∀ b o, b ≠ X.env.locals -> b ∈ X.fs -> b ∉ ch -> s.heap.get? b = some o -> H b = none -> ∃ sl, h'.get? b = some { o with slots := sl }) (free : ∀ b o, b ∉ ch -> s.heap.get? b = some o -> H b = none -> H' b = none)
    (there : ∀ b o, b ∉ ch -> s.heap.get? b = some o -> ∃ o', h'.get? b = some o')
    (tups : ∀ b xs, H b = some (.tup xs) -> H' b = some (.tup xs)) (frzs : ∀ b o u, H b = some (.frz o u) -> H' b = some (.frz o u)) (tbls : ∀ b ps, H b = some (.tbl ps) -> ∃ more, H' b = some (.tbl (ps ++ more)))
    (ns : ∀ m, s.heap.Ns X.env.locals m -> h'.Ns X.env.locals m) (hok : HOk X.prog X.w H' h') (hg : AllBare g') :
    Inv X pins σ H' { s with heap := h', gens := g', drawn := d', toks := t' } := by
  have neL : ∀ b o, X.s₀.heap.get? b = some o -> b ≠ X.env.locals := fun b o e => Zs (Zh (Heap.lt_size e) I.ok.above)
  have neC : ∀ b o, X.s₀.heap.get? b = some o -> b ∉ X.ex -> b ∉ ch := fun b o e hx hb => by
    rcases (hch b hb).1 with z | z
    . exact hx z
    . exact absurd (Zh (Heap.lt_size e) z) (ZJ _)
  have cellK : ∀ x c, X.env.cells.lookup x = some c -> ∀ v, s.heap.IsCell c v -> h'.IsCell c v := fun x c e v ⟨o, ho, hd⟩ => by
    have nch : c ∉ ch := fun z => (hch c z).2.2.1 x c e rfl
    by_cases hc : c ∈ X.fs
    . obtain ⟨sl, q⟩ := slot c o (I.cne x c e) hc nch ho (I.freeC x c e)
      exact ⟨_, q, hd⟩
    . exact ⟨o, keep c o (I.cne x c e) hc nch ho (I.freeC x c e), hd⟩
  refine ⟨I.ok, I.os, hg, ⟨fun b o e n hb hx => ?_, fun b o e n hb hx => ?_, fun b o e n hx => ?_, fun b o e hx => ?_, fun b xs e => tups b xs (I.base.tups b xs e), fun b o xs e => frzs b o xs (I.base.frzs b o xs e), fun b ps e => ?_⟩, ?_, fun x c e => ?_, ?_, fun x c e => ?_, fun p hp => ?_, hok, I.len⟩
  . exact keep b o (neL b o e) hb (neC b o e hx) (I.base.keep b o e n hb hx) (I.base.free b o e n hx)
  . obtain ⟨sl, e1⟩ := I.base.slot b o e n hb hx
    obtain ⟨sl', e2⟩ := slot b _ (neL b o e) hb (neC b o e hx) e1 (I.base.free b o e n hx);exact ⟨sl', e2⟩
  . obtain ⟨o', e1⟩ := I.base.there b o e hx
    exact free b o' (neC b o e hx) e1 (I.base.free b o e n hx)
  . obtain ⟨o', e1⟩ := I.base.there b o e hx
    exact there b o' (neC b o e hx) e1
  . obtain ⟨m1, e1⟩ := I.base.tbls b ps e
    obtain ⟨m2, e2⟩ := tbls b _ e1;exact ⟨m1 ++ m2, by rw [e2, Array.append_assoc]⟩
  . obtain ⟨m, hn, hl⟩ := I.loc
    refine ⟨m, ns m hn, fun i x v e1 e2 e3 => ?_⟩;obtain ⟨u, r, l⟩ := hl i x v e1 e2 e3;refine ⟨u, r, ?_⟩
    rcases l with l | ⟨k, c, e, z⟩
    . exact .inl l
    . exact .inr ⟨k, c, e, cellK x c e _ z⟩
  . obtain ⟨v, z⟩ := I.cell x c e
    exact ⟨v, cellK x c e v z⟩
  . obtain ⟨m, ⟨o, _, _, ho, _⟩, _⟩ := I.loc
    exact free _ o (fun z => (hch _ z).2.1 rfl) ho I.free
  . obtain ⟨v, o, ho, hd⟩ := I.cell x c e
    exact free c o (fun z => (hch c z).2.2.1 x c e rfl) ho (I.freeC x c e)
  . obtain ⟨e, n, ne, nf, d⟩ := I.pin p hp
    have nch : p.1 ∉ ch := fun z => (hch p.1 z).2.2.2 p hp rfl
    exact ⟨keep p.1 p.2 ne nf nch e n, free p.1 p.2 nch e n, ne, nf, d⟩
theorem Inv.un {t' : Nat} (I : Inv X pins σ H s) (u : Un X.fs [] H H' s.heap h') (hok : HOk X.prog X.w H' h') : Inv X pins σ H' { s with heap := h', toks := t' } := by
  obtain ⟨m, ⟨o, es, ep, ho, r⟩, _⟩ := id I.loc;obtain ⟨sl, hL⟩ := u.any ho I.free (by simp)
  exact I.step (g' := s.gens) (d' := s.drawn) (ch := []) (fun _ z => nomatch z) (fun b o _ hb _ e n => u.keep b o e n hb (by simp)) (fun b o _ hb _ e n => u.slot b o e n hb (by simp)) (fun b o _ e n => u.free b o e n (by simp)) (fun b o _ e => u.there b o e (by simp)) u.tups u.frzs u.tbls (fun m' hm => by
    obtain ⟨o', es', ep', ho', r'⟩ := hm;rw [ho] at ho'; cases ho'
    exact ⟨_, es', ep', hL, r'⟩) hok I.bare
theorem Inv.call {g' : Array GenState} {t' : Nat} {d' : Drawn} {ch : List Addr} (I : Inv X pins σ H s) (u : Un (frs X.stack) ch H H' s.heap h') (hok : HOk X.prog X.w H' h') (hg : AllBare g')
    (hch : ∀ b ∈ ch, (b ∈ X.ex \/ X.s₀.heap.objs.size <= b) /\ b ≠ X.env.locals /\ (∀ x c, X.env.cells.lookup x = some c -> c ≠ b) /\ ∀ p ∈ X.pn ++ pins, p.1 ≠ b) :
    Inv X pins σ H' { s with heap := h', gens := g', drawn := d', toks := t' } := by
  obtain ⟨m, ⟨o, es, ep, ho, r⟩, _⟩ := id I.loc;obtain ⟨sl, hL⟩ := u.any ho I.free fun z => (hch _ z).2.1 rfl
  exact I.step (ch := ch) hch (fun b o hL hb hc e n => u.keep b o e n (fun z => (ZK.mp (I.stkSub b z)).elim hL hb) hc) (fun b o _ _ hc e n => u.any e n hc) (fun b o hc e n => u.free b o e n hc) (fun b o hc e => u.there b o e hc) u.tups u.frzs u.tbls (fun m' hm => by
    obtain ⟨o', es', ep', ho', r'⟩ := hm;rw [ho] at ho'; cases ho'
    exact ⟨_, es', ep', hL, r'⟩) hok hg
theorem Inv.turned {t' : Nat} {it : Addr} (I : Inv X pins σ H s) (k : ∀ b o, b ≠ it -> s.heap.get? b = some o -> h'.get? b = some o) (hn : H it = none) (hL : it ≠ X.env.locals)
    (h1 : it ∈ X.ex \/ X.s₀.heap.objs.size <= it) (h2 : ∀ x c, X.env.cells.lookup x = some c -> c ≠ it) (h3 : ∀ p ∈ X.pn ++ pins, p.1 ≠ it) : Inv X pins σ H { s with heap := h', toks := t' } := by
  have nit : ∀ b u, H b = some u -> b ≠ it := fun b u e z => by rw [z, hn] at e; cases e
  refine I.step (g' := s.gens) (d' := s.drawn) (ch := [it]) (fun b hb => ?_) (fun b o _ _ hc e _ => k b o (fun z => hc (by simp [z])) e) (fun b o _ _ hc e _ => ⟨o.slots, k b o (fun z => hc (by simp [z])) e⟩) (fun _ _ _ _ n => n)
    (fun b o hc e => ⟨o, k b o (fun z => hc (by simp [z])) e⟩) (fun _ _ e => e) (fun _ _ _ e => e) (fun b ps e => ⟨#[], by rw [e]; simp⟩) (fun m hm => ?_) (fun b u e => ?_) I.bare
  . have e : b = it := by simpa using hb
    subst e;exact ⟨h1, hL, h2, h3⟩
  . obtain ⟨o, es, ep, ho, r⟩ := hm
    exact ⟨o, es, ep, k _ o (Ne.symm hL) ho, r⟩
  . refine (I.hok b u e).stay (fun c v hc q => k c v ?_ q) (fun _ q => q) fun _ _ q => q
    rcases hc with z | z
    . rw [z]; exact nit b u e
    . exact nit c _ z
theorem Inv.tok (I : Inv X pins σ H s) (t : Nat) : Inv X pins σ H { s with toks := t } := I.un (h' := s.heap) (t' := t) Un.refl I.hok
theorem Inv.kept {t' : Nat} (I : Inv X pins σ H s) (k : ∀ b u, s.heap.get? b = some u -> h'.get? b = some u) : Inv X pins σ H { s with heap := h', toks := t' } := I.un (Un.kept k) (I.hok.kept k)
theorem Inv.laid {a : Addr} {o : HO} {t' : Nat} (I : Inv X pins σ H s) (k : ∀ b u, s.heap.get? b = some u -> h'.get? b = some u) (hp : s.heap.objs.size <= a) (new : ObjOk X.prog X.w (upd H a o) h' a o) :
    Inv X pins σ (upd H a o) { s with heap := h', toks := t' } := I.un (Un.laid k hp (I.hok.fresh hp)) (I.hok.laid k hp new)
theorem Inv.write {x e : Addr} {o : HO} {t' : Nat} (I : Inv X pins σ H s) (mu : Mut (H x)) (he : e = x \/ H e = some (.own x)) (k : ∀ b u, b ≠ e -> s.heap.get? b = some u -> h'.get? b = some u) (heo : ∃ u, h'.get? e = some u)
    (new : ObjOk X.prog X.w (upd H x o) h' x o) : Inv X pins σ (upd H x o) { s with heap := h', toks := t' } := I.un (Un.write mu he k heo) (I.hok.write mu he k heo new)
theorem Inv.weak {σ' : List (Option V)} (I : Inv X pins σ H s) (hl : σ'.length = σ.length) (w : ∀ (i : Nat) v, σ'[i]? = some (some v) -> σ[i]? = some (some v)) : Inv X pins σ' H s :=
  ⟨I.ok, I.os, I.bare, I.base, let ⟨m, hn, hl'⟩ := I.loc; ⟨m, hn, fun i x v e1 e2 e3 => hl' i x v e1 (w i v e2) e3⟩, I.cell, I.free, I.freeC, I.pin, I.hok, hl.trans I.len⟩
theorem Inv.pins_of {pins' : List (Addr × Obj)} (I : Inv X pins σ H s) (h : ∀ p ∈ pins', s.heap.get? p.1 = some p.2 /\ H p.1 = none /\ p.1 ≠ X.env.locals /\ p.1 ∉ X.fs /\ ∀ v, p.2.data ≠ .cell v) : Inv X pins' σ H s :=
  ⟨I.ok, I.os, I.bare, I.base, I.loc, I.cell, I.free, I.freeC, fun p hp => (ZH.mp hp).elim (fun z => I.pin p (ZZ _ z)) (h p), I.hok, I.len⟩
theorem zaz {N : List Str} (hN : N.Nodup) {i j : Nat} {x : Str} (a : N[i]? = some x) (b : N[j]? = some x) : i = j := by
  obtain ⟨h1, e1⟩ := Zc.mp a;obtain ⟨h2, e2⟩ := Zc.mp b;exact (YQ hN).mp (e1.trans e2.symm)
theorem d6 {M : Model} {A : Around} {E : Value -> Shared -> Prop} {i : Nat} {x : Str} {v : V} {u : Value} {Q : Unit -> Shared -> Prop} (I : Inv X pins σ H s) (hN : X.N.Nodup) (hi : X.N[i]? = some x) (hx : Loc X.env.scope x) (r : RelV v u)
    (h : ∀ s', Inv X pins (σ.set i (some v)) H s' -> (∃ a, Heap.SameBut a s.heap s'.heap /\ (a = X.env.locals \/ X.env.cells.lookup x = some a)) -> Q () s') (hf : X.fn x = true \/ X.env.scope.names.lookup x = some .local := by first | exact .inl rfl | exact .inr rfl | assumption) : wpAny M A (storeName X.env x u) Q E s := by
  obtain ⟨m, hn, hl⟩ := id I.loc;have hcls : (X.env.scope.kind == .class || (X.env.scope.kind == .module && X.env.locals != X.env.globals)) = false := by rw [I.ok.kind]; rfl
  have hiσ : i < σ.length := by rw [I.len]; exact (Zc.mp hi).1
  have cne := I.cne
  have tracked : ∀ {a : Addr} {h' : Heap}, (∃ o, s.heap.get? a = some o /\ H a = none) -> Heap.SameBut a s.heap h' -> HOk X.prog X.w H h' := fun {a h'} ha hs b ob e => by
    obtain ⟨_, _, hfree⟩ := ha;refine (I.hok b ob e).stay (fun c w' hc q => (hs.2 c ?_).trans q) (fun _ q => q) fun _ _ q => q
    rintro rfl
    rcases hc with rfl | hc
    . rw [hfree] at e; cases e
    . rw [hfree] at hc; cases hc
  rcases hx with hk | hk
  . refine wpAny_storeName_local hk hn (fun h' hn' hs => ?_) hcls
    obtain ⟨oL, _, _, hoL, _⟩ := id hn;refine h _ ⟨I.ok, I.os, I.bare, ⟨fun b o e n hb hx => ?_, fun b o e n hb hx => ?_, I.base.free, fun b o e hx => ?_, I.base.tups, I.base.frzs, I.base.tbls⟩, ⟨_, hn', fun j y v' e1 e2 e3 => ?_⟩, fun y c e => ?_, I.free, I.freeC, fun p hp => ?_, tracked ⟨oL, hoL, I.free⟩ hs, by simpa using I.len⟩ ⟨_, hs, .inl rfl⟩
    . exact (hs.2 b (Zs (Zh (Heap.lt_size e) I.ok.above))).trans (I.base.keep b o e n hb hx)
    . obtain ⟨sl, e1⟩ := I.base.slot b o e n hb hx
      exact ⟨sl, (hs.2 b (Zs (Zh (Heap.lt_size e) I.ok.above))).trans e1⟩
    . obtain ⟨o', e1⟩ := I.base.there b o e hx
      exact ⟨o', (hs.2 b (Zs (Zh (Heap.lt_size e) I.ok.above))).trans e1⟩
    . by_cases hj : j = i
      . subst hj
        rw [hi] at e1; cases e1;rw [Yz hiσ] at e2;cases e2;exact ⟨u, r, .inl ⟨hk, by simp⟩⟩
      . rw [YF (Ne.symm hj)] at e2
        obtain ⟨u', r', q⟩ := hl j y v' e1 e2 e3;refine ⟨u', r', ?_⟩
        rcases q with ⟨k, e⟩ | ⟨k, c, e, z⟩
        . refine .inl ⟨k, ?_⟩
          have : y ≠ x := fun e => hj (zaz hN e1 (e ▸ hi))
          simp [this, e]
        . exact .inr ⟨k, c, e, z.sameBut hs (cne y c e)⟩
    . obtain ⟨w', z⟩ := I.cell y c e
      exact ⟨w', z.sameBut hs (cne y c e)⟩
    . obtain ⟨e, n, ne, nf, d⟩ := I.pin p hp
      exact ⟨(hs.2 p.1 ne).trans e, n, ne, nf, d⟩
  . have hfn : X.fn x = true := by
      rcases hf with z | z
      . exact z
      . rw [z] at hk; cases hk
    obtain ⟨c, hc⟩ := I.ok.has x (.inl hk);obtain ⟨w', z⟩ := I.cell x c hc;refine wpAny_storeName_cell I.ok.kind hk hc z (fun h' hc' hs => ?_);obtain ⟨oc, hoc, hocd⟩ := id z;refine h { s with heap := h' } ⟨I.ok, I.os, I.bare, ⟨fun b o e n hb hx => ?_, fun b o e n hb hx => ?_, I.base.free, fun b o e hx => ?_, I.base.tups, I.base.frzs, I.base.tbls⟩, ⟨m, hn.sameBut hs (Ne.symm (cne x c hc)), fun j y v' e1 e2 e3 => ?_⟩, fun y c' e => ?_, I.free, I.freeC, fun p hp => ?_, tracked ⟨oc, hoc, I.freeC x c hc⟩ hs, by simpa using I.len⟩ ⟨c, hs, .inr hc⟩
    . exact (hs.2 b (Zs (Zh (Heap.lt_size e) (I.ok.cab x c hfn hc)))).trans (I.base.keep b o e n hb hx)
    . obtain ⟨sl, e1⟩ := I.base.slot b o e n hb hx
      exact ⟨sl, (hs.2 b (Zs (Zh (Heap.lt_size e) (I.ok.cab x c hfn hc)))).trans e1⟩
    . obtain ⟨o', e1⟩ := I.base.there b o e hx
      exact ⟨o', (hs.2 b (Zs (Zh (Heap.lt_size e) (I.ok.cab x c hfn hc)))).trans e1⟩
    . by_cases hj : j = i
      . subst hj
        rw [hi] at e1; cases e1;rw [Yz hiσ] at e2;cases e2;exact ⟨u, r, .inr ⟨.inl hk, c, hc, hc'⟩⟩
      . rw [YF (Ne.symm hj)] at e2
        obtain ⟨u', r', q⟩ := hl j y v' e1 e2 e3;refine ⟨u', r', ?_⟩
        rcases q with q | ⟨k, c', e, z'⟩
        . exact .inl q
        . refine .inr ⟨k, c', e, z'.sameBut hs ?_⟩
          rintro rfl
          exact hj (zaz hN e1 (I.ok.inj _ _ _ e hc ▸ hi))
    . by_cases hcc : c' = c
      . subst hcc; exact ⟨_, hc'⟩
      . obtain ⟨w2, z2⟩ := I.cell y c' e
        exact ⟨w2, z2.sameBut hs hcc⟩
    . obtain ⟨e, n, ne, nf, d⟩ := I.pin p hp
      refine ⟨(hs.2 p.1 ?_).trans e, n, ne, nf, d⟩;intro q;rw [q, hoc] at e;have q' : oc = p.2 := Option.some.inj e;exact d w' (by rw [<- q']; exact hocd)
theorem zal {M : Model} {A : Around} {E : Value -> Shared -> Prop} {i : Nat} {x : Str} {v : V} {u : Value} {Q : Unit -> Shared -> Prop} (I : Inv X pins σ H s) (hN : X.N.Nodup) (hi : X.N[i]? = some x) (hx : Loc X.env.scope x) (r : RelV v u)
    (h : ∀ s', Inv X pins (σ.set i (some v)) H s' -> Q () s') (hf : X.fn x = true \/ X.env.scope.names.lookup x = some .local := by first | exact .inl rfl | exact .inr rfl | assumption) : wpAny M A (storeName X.env x u) Q E s :=
  d6 I hN hi hx r (fun s' I' _ => h s' I') hf
theorem Inv.call' {s' : Shared} {ch : List Addr} (I : Inv X pins σ H s) (ho : s'.os = s.os) (u : Un (frs X.stack) ch H H' s.heap s'.heap) (hok : HOk X.prog X.w H' s'.heap) (hg : AllBare s'.gens)
    (hch : ∀ b ∈ ch, (b ∈ X.ex \/ X.s₀.heap.objs.size <= b) /\ b ≠ X.env.locals /\ (∀ x c, X.env.cells.lookup x = some c -> c ≠ b) /\ ∀ p ∈ X.pn ++ pins, p.1 ≠ b) : Inv X pins σ H' s' := by
  obtain ⟨h', g', d', t', o'⟩ := s';have e : o' = s.os := ho;subst e;exact I.call (g' := g') (t' := t') (d' := d') u hok hg hch
end
abbrev XK := Value -> Option Addr -> Hp -> Prop
abbrev St := List (Option V)
abbrev VK := V -> Hp -> Prop
abbrev TE := St -> Hp -> VK -> Prop
abbrev TT := St -> Hp -> (Bool -> Hp -> Prop) -> Prop
abbrev TA := St -> Hp -> (List V -> Hp -> Prop) -> Prop
structure Ends where
  nx : St -> Hp -> Prop
  rt : VK
  bk : St -> Hp -> Prop := fun _ _ => False
  ct : St -> Hp -> Prop := fun _ _ => False
abbrev TS := Ends -> St -> Hp -> Prop
def EP (X : Cx) (pins : List (Addr × Obj)) (σ : St) (Q : VK) (u : Value) (s' : Shared) : Prop := ∃ v H', Inv X pins σ H' s' /\ RelV v u /\ Q v H'
def TP (X : Cx) (pins : List (Addr × Obj)) (σ : St) (Q : Bool -> Hp -> Prop) (b : Bool) (s' : Shared) : Prop := ∃ H', Inv X pins σ H' s' /\ Q b H'
def AP (X : Cx) (pins : List (Addr × Obj)) (σ : St) (Q : List V -> Hp -> Prop) (us : List Value) (s' : Shared) : Prop := ∃ vs H', Inv X pins σ H' s' /\ Vals vs us /\ Q vs H'
def SP (X : Cx) (pins : List (Addr × Obj)) (D : Ends) (f : Flow) (s' : Shared) : Prop :=
  match f with
  | .next => ∃ σ' H', Inv X pins σ' H' s' /\ D.nx σ' H'
  | .brk => ∃ σ' H', Inv X pins σ' H' s' /\ D.bk σ' H'
  | .cont => ∃ σ' H', Inv X pins σ' H' s' /\ D.ct σ' H'
  | .ret u => ∃ v σ' H', Inv X pins σ' H' s' /\ RelV v u /\ D.rt v H'
def PE (X : Cx) (e : Expr) (t : TE) : Prop :=
  ∀ (pins : List (Addr × Obj)) (s : Shared) (σ : St) (H : Hp) (Q : VK), Inv X pins σ H s -> t σ H Q -> wpAny (model X.prog X.w) X.A (eval e X.env) (EP X pins σ Q) X.xe s
def PT (X : Cx) (e : Expr) (t : TT) : Prop :=
  ∀ (pins : List (Addr × Obj)) (s : Shared) (σ : St) (H : Hp) (Q : Bool -> Hp -> Prop), Inv X pins σ H s -> t σ H Q -> wpAny (model X.prog X.w) X.A (isTrue e X.env (eval e X.env)) (TP X pins σ Q) X.xe s
def PW (X : Cx) (e : Expr) (t : TT) : Prop :=
  ∀ (whole : Sem Value) (pins : List (Addr × Obj)) (s : Shared) (σ : St) (H : Hp) (Q : Bool -> Hp -> Prop), Inv X pins σ H s -> t σ H Q -> wpAny (model X.prog X.w) X.A (isTrue e X.env whole) (TP X pins σ Q) X.xe s
theorem PW.pt {X : Cx} {e : Expr} {t : TT} (h : PW X e t) : PT X e t := h _
def PA (X : Cx) (es : List Expr) (t : TA) : Prop :=
  ∀ (pos : Pos) (pins : List (Addr × Obj)) (s : Shared) (σ : St) (H : Hp) (Q : List V -> Hp -> Prop), Inv X pins σ H s -> t σ H Q -> wpAny (model X.prog X.w) X.A (spliced (backTo pos (starEach es X.env))) (AP X pins σ Q) X.xe s
def PS (X : Cx) (st : Stmt) (t : TS) : Prop :=
  ∀ (pins : List (Addr × Obj)) (s : Shared) (σ : St) (H : Hp) (D : Ends), Inv X pins σ H s -> t D σ H -> wpAny (model X.prog X.w) X.A (exec st X.env) (SP X pins D) X.xe s
def PSs (X : Cx) (st : List Stmt) (t : TS) : Prop :=
  ∀ (pins : List (Addr × Obj)) (s : Shared) (σ : St) (H : Hp) (D : Ends), Inv X pins σ H s -> t D σ H -> wpAny (model X.prog X.w) X.A (execs st X.env) (SP X pins D) X.xe s
theorem thn {α : Type} {t : Sem α} {Q Q' : α -> Shared -> Prop} {M : Model} {A : Around} {E : Value -> Shared -> Prop} {s : Shared} (h : wpAny M A t Q E s) (hQ : ∀ a s, Q a s -> Q' a s) : wpAny M A t Q' E s := wpAny_mono h hQ fun _ _ x => x
end L2
namespace L2
open PySem PySem.Spec PyProof.Rows
section
variable {X : Cx}
def tVar (i : Nat) : TE := fun σ H Q => ∃ v, σ[i]? = some (some v) /\ Q v H
def tC (v : V) : TE := fun _ H Q => Q v H
theorem pe_var {i : Nat} {x : Str} {pos : Pos} (hN : X.N[i]? = some x) (hv : Vis X.env.scope x) (hd : (x == ("__debug__" : Str)) = false := by decide) (hcd : (x == ("__classdict__" : Str)) = false := by decide) : PE X (.Name x pos) (tVar i) := by
  intro pins s σ H Q I h;obtain ⟨v, e, h⟩ := h;obtain ⟨m, hn, hl⟩ := I.loc;obtain ⟨u, r, l⟩ := hl i x v hN e hv;have fin : EP X pins σ Q u s := ⟨v, H, I, r, h⟩
  rcases l with ⟨hk, hm⟩ | ⟨hk, c, hc, hcell⟩
  . exact wpAny_Name (wpAny_loadName_local I.ok.kind hk hn hm fin) hd
  . rcases hk with hk | hk
    . exact wpAny_Name (wpAny_loadName_cell I.ok.kind hk hc hcell fin) hd
    . exact wpAny_Name (wpAny_loadName_free I.ok.kind hk hc hcell fin hcd) hd
theorem ze {i j pos} : PE X (.Constant (.int i) j pos) (tC (.int i)) := fun _ _ _ H _ I h => wpAny_Constant_int ⟨.int i, H, I.tok _, ⟨_, rfl⟩, h⟩
theorem xb {b j pos} : PE X (.Constant (.bool b) j pos) (tC (.bl b)) := fun _ _ _ H _ I h => Constant_bool ⟨.bl b, H, I, rfl, h⟩
theorem qq {j pos} : PE X (.Constant .none j pos) (tC .non) := fun _ _ _ H _ I h => Constant_none ⟨.non, H, I, rfl, h⟩
theorem u7 {x j pos} : PE X (.Constant (.str x) j pos) (tC (.str x)) := fun _ _ _ H _ I h => Calls.Constant_str ⟨.str x, H, I.tok _, ⟨_, rfl⟩, h⟩
def Gl (X : Cx) (x : Str) : Prop := X.env.kindOf x = some .globalImplicit
theorem j1 {E : Value -> Shared -> Prop} {pins : List (Addr × Obj)} {s : Shared} {σ : St} {H : Hp} {x : Str} {u : Value} {pos : Pos} {Q : Value -> Shared -> Prop} (I : Inv X pins σ H s) (hg : Gl X x) (hm : X.mg x = some u) (h : Q u s)
    (hd : (x == ("__debug__" : Str)) = false := by decide) : wpAny (model X.prog X.w) X.A (eval (.Name x pos) X.env) Q E s :=
  Calls.Name_function_global I.ok.kind hg (Calls.loadGlobal_global (by rw [I.ok.glob]; exact I.mod.glob.keeps I.bk) hm h) hd
theorem ul {E : Value -> Shared -> Prop} {pins : List (Addr × Obj)} {s : Shared} {σ : St} {H : Hp} {x : Str} {u : Value} {pos : Pos} {Q : Value -> Shared -> Prop} (I : Inv X pins σ H s) (hg : Gl X x) (hm : X.mg x = none) (hv : bootBuiltins x = some u) (h : Q u s)
    (hn : x ≠ "__name__" := by decide) (hd : (x == ("__debug__" : Str)) = false := by decide) : wpAny (model X.prog X.w) X.A (eval (.Name x pos) X.env) Q E s := by
  obtain ⟨mb, h1, h2⟩ := I.mod.blt;exact Calls.Name_function_global I.ok.kind hg (Calls.loadGlobal_builtin (by rw [I.ok.glob]; exact I.mod.glob.keeps I.bk) hm (by rw [I.ok.blt]; exact h1.keeps I.bk) ((h2 x hn).trans hv) h) hd
theorem zcg {x : Str} {v : V} {u : Value} {pos : Pos} (hg : Gl X x) (hm : X.mg x = some u) (r : RelV v u) (hd : (x == ("__debug__" : Str)) = false := by decide) : PE X (.Name x pos) (tC v) :=
  fun _ _ _ H _ I h => j1 I hg hm ⟨v, H, I, r, h⟩ hd
theorem zhi {x : Str} {v : V} {u : Value} {pos : Pos} (hg : Gl X x) (hm : X.mg x = none) (hv : bootBuiltins x = some u) (r : RelV v u) (hn : x ≠ "__name__" := by decide) (hd : (x == ("__debug__" : Str)) = false := by decide) : PE X (.Name x pos) (tC v) :=
  fun _ _ _ H _ I h => ul I hg hm hv ⟨v, H, I, r, h⟩ hn hd
variable {a b : Expr} {ta tb : TE} {pos : Pos}
def tB (t : TE) : TT := fun σ H Q => t σ H fun x H1 => ∃ c, x = .bl c /\ Q c H1
theorem yz {e : Expr} {t : TE} (h : PE X e t) (he : ∀ whole, isTrue e X.env whole = (do let v <- whole; standAt e.pos; holding [v] (truthy v)) := by intro _; rfl) : PT X e (tB t) := by
  intro pins s σ H Q I hw;refine isTrue_plain (thn (h pins s σ H _ I hw) fun v s1 ⟨x, H1, I1, r1, q1⟩ => ?_) (he _);obtain ⟨d, rfl, q⟩ := q1;cases r1;exact wpAny_truthy_bool ⟨H1, I1, q⟩
variable {tA tB' : TT} {rest : List Expr}
def tAnd (t u : TT) : TT := fun σ H Q => t σ H fun c H1 => if c = true then u σ H1 Q else Q false H1
def tOr (t u : TT) : TT := fun σ H Q => t σ H fun c H1 => if c = true then Q true H1 else u σ H1 Q
def tNot (t : TT) : TT := fun σ H Q => t σ H fun c H1 => Q (!c) H1
theorem zh6 (ha : PT X a tA) : PW X (.BoolOp .And [a] pos) tA := by
  intro wh pins s σ H Q I h;refine isTrue_and (thn (ha pins s σ H Q I h) fun c s1 e => ?_)
  cases c with
  | true => exact isTrue_and_nil e
  | false => exact e
theorem vg (ha : PT X a tA) : PW X (.BoolOp .Or [a] pos) tA := by
  intro wh pins s σ H Q I h;refine isTrue_or (thn (ha pins s σ H Q I h) fun c s1 e => ?_)
  cases c with
  | false => exact isTrue_or_nil e
  | true => exact e
theorem pw_and (ha : PT X a tA) (hb : PW X (.BoolOp .And (b :: rest) pos) tB') : PW X (.BoolOp .And (a :: b :: rest) pos) (tAnd tA tB') := by
  intro wh pins s σ H Q I h;refine isTrue_and (thn (ha pins s σ H _ I h) fun c s1 ⟨H1, I1, q1⟩ => ?_)
  cases c with
  | true => exact hb wh pins s1 σ H1 Q I1 q1
  | false => exact ⟨H1, I1, q1⟩
theorem wm (ha : PT X a tA) (hb : PW X (.BoolOp .Or (b :: rest) pos) tB') : PW X (.BoolOp .Or (a :: b :: rest) pos) (tOr tA tB') := by
  intro wh pins s σ H Q I h;refine isTrue_or (thn (ha pins s σ H _ I h) fun c s1 ⟨H1, I1, q1⟩ => ?_)
  cases c with
  | true => exact ⟨H1, I1, q1⟩
  | false => exact hb wh pins s1 σ H1 Q I1 q1
theorem y0 (ha : PT X a tA) : PT X (.UnaryOp .Not a pos) (tNot tA) := by
  intro pins s σ H Q I h;exact isTrue_not (ha pins s σ H (fun c H1 => Q (!c) H1) I h)
def tAndV (ta tb : TE) : TE := fun σ H Q => ta σ H fun x H1 => ∃ c, x = .bl c /\ if c = true then tb σ H1 Q else Q (.bl false) H1
def tOrV (ta tb : TE) : TE := fun σ H Q => ta σ H fun x H1 => ∃ c, x = .bl c /\ if c = true then Q (.bl true) H1 else tb σ H1 Q
def tNotV (ta : TE) : TE := fun σ H Q => ta σ H fun x H1 => ∃ c, x = .bl c /\ Q (.bl (!c)) H1
theorem nj {op} {t : TE} (h : PE X a t) : PE X (.BoolOp op [a] pos) t := fun pins s σ H Q I hw => BoolOp_one (h pins s σ H Q I hw)
theorem oz (ha : PE X a ta) (hb : PE X (.BoolOp .And (b :: rest) pos) tb) : PE X (.BoolOp .And (a :: b :: rest) pos) (tAndV ta tb) := by
  intro pins s σ H Q I h;refine BoolOp_and (thn (ha pins s σ H _ I h) fun v s1 ⟨x, H1, I1, r1, q1⟩ => ?_);obtain ⟨c, rfl, q1⟩ := q1;cases r1;refine wpAny_truthy_bool ?_
  cases c with
  | true => exact hb pins s1 σ H1 Q I1 q1
  | false => exact ⟨.bl false, H1, I1, rfl, q1⟩
theorem pe_or (ha : PE X a ta) (hb : PE X (.BoolOp .Or (b :: rest) pos) tb) : PE X (.BoolOp .Or (a :: b :: rest) pos) (tOrV ta tb) := by
  intro pins s σ H Q I h;refine BoolOp_or (thn (ha pins s σ H _ I h) fun v s1 ⟨x, H1, I1, r1, q1⟩ => ?_);obtain ⟨c, rfl, q1⟩ := q1;cases r1;refine wpAny_truthy_bool ?_
  cases c with
  | false => exact hb pins s1 σ H1 Q I1 q1
  | true => exact ⟨.bl true, H1, I1, rfl, q1⟩
theorem zed (ha : PE X a ta) : PE X (.UnaryOp .Not a pos) (tNotV ta) := by
  intro pins s σ H Q I h;refine UnaryOp_ (thn (ha pins s σ H _ I h) fun v s1 ⟨x, H1, I1, r1, q1⟩ => ?_);obtain ⟨c, rfl, q1⟩ := q1;cases r1;exact not_of (wpAny_truthy_bool ⟨.bl (!c), H1, I1, rfl, q1⟩)
def tIf (t : TT) (ta tb : TE) : TE := fun σ H Q => t σ H fun c H1 => if c = true then ta σ H1 Q else tb σ H1 Q
theorem zgs {c : Expr} (hc : PT X c tA) (ha : PE X a ta) (hb : PE X b tb) : PE X (.IfExp c a b pos) (tIf tA ta tb) := by
  intro pins s σ H Q I h;refine wpAny_IfExp (thn (hc pins s σ H _ I h) fun d s1 ⟨H1, I1, q1⟩ => ?_)
  cases d with
  | true => exact ha pins s1 σ H1 Q I1 q1
  | false => exact hb pins s1 σ H1 Q I1 q1
end
end L2
namespace L2
open PySem PySem.Spec PyProof.Rows
def SqL (K : Fg) (H : Hp) (a : Addr) (xs : List V) : Prop :=
  Rd H a (.lst xs) \/
    ∃ (o : Obj) (its : Array Value) (n : Nat), K.lookup a = some o /\ o.cls = .type "list" /\ o.dict = none /\ o.data = .seq its n /\ its.size <= sizeLine /\ Vals xs its.toList
def SqT (K : Fg) (H : Hp) (a : Addr) (xs : List V) : Prop :=
  Rd H a (.tup xs) \/
    ∃ (o : Obj) (its : Array Value) (n : Nat), K.lookup a = some o /\ o.cls = .type "tuple" /\ o.data = .seq its n /\ its.size <= sizeLine /\ Vals xs its.toList
def absV : Value -> Option V
  | .none => some .non
  | .bool b => some (.bl b)
  | .int i _ => some (.int i)
  | .str x _ => some (.str x)
  | .bytes b _ => some (.byt b)
  | .float b _ => some (.flt b)
  | .ref a => some (.ref a)
  | .type n => some (.ty n)
  | _ => none
theorem RelV.abs {x : V} {u : Value} (r : RelV x u) : absV u = some x := by
  cases x with
  | non => cases r; rfl
  | bl _ => cases r; rfl
  | int _ => obtain ⟨t, rfl⟩ := r; rfl
  | str _ => obtain ⟨t, rfl⟩ := r; rfl
  | byt _ => obtain ⟨t, rfl⟩ := r; rfl
  | flt _ => obtain ⟨t, rfl⟩ := r; rfl
  | ref _ => cases r; rfl
  | ty _ => cases r; rfl
theorem RelV.inj {x y : V} {u : Value} (r : RelV x u) (q : RelV y u) : x = y := Option.some.inj (r.abs.symm.trans q.abs)
theorem Vals.inj : ∀ {xs ys : List V} {us : List Value}, Vals xs us -> Vals ys us -> xs = ys
  | _, _, _, .nil, .nil => rfl
  | _, _, _, .cons r t, .cons r' t' => by rw [r.inj r', Vals.inj t t']
section
variable {X : Cx} {pins : List (Addr × Obj)} {σ : St} {H : Hp} {s : Shared} {a : Addr} {xs ys : List V}
theorem SqL.of {K : Fg} (h : H a = some (.lst xs)) : SqL K H a xs := .inl (.inl h)
theorem SqT.of {K : Fg} (h : H a = some (.tup xs)) : SqT K H a xs := .inl (.inl h)
theorem Inv.list (I : Inv X pins σ H s) (h : SqL X.K H a xs) : ∃ its : List Value, Vals xs its /\ PlainL s.heap a its.toArray /\ xs.length <= sizeLine := by
  rcases h with h | ⟨o, its, n, hk, hc, hd, hs, hz, r⟩
  . obtain ⟨z, its, n, r, e⟩ := h.ok I.hok
    exact ⟨its, r, ⟨_, n, e, rfl, rfl, rfl⟩, z⟩
  . refine ⟨its.toList, r, ⟨o, n, I.kIn a o hk, hc, hd, by simpa using hs⟩, ?_⟩
    have e := r.length;simp only [ZP] at e;omega
theorem Inv.tuple (I : Inv X pins σ H s) (h : SqT X.K H a xs) : ∃ its : List Value, Vals xs its /\ IsTup s.heap a its.toArray /\ xs.length <= sizeLine := by
  rcases h with h | ⟨o, its, n, hk, hc, hs, hz, r⟩
  . obtain ⟨z, its, r, p⟩ := h.ok I.hok
    exact ⟨its, r, p.tup, z⟩
  . refine ⟨its.toList, r, ⟨o, I.kIn a o hk, hc, n, by simpa using hs⟩, ?_⟩
    have e := r.length;simp only [ZP] at e;omega
theorem Inv.list_inj (I : Inv X pins σ H s) (h : SqL X.K H a xs) (h' : SqL X.K H a ys) : xs = ys := by
  obtain ⟨its, r, ⟨o, n, e, _, _, d⟩, _⟩ := I.list h;obtain ⟨its', r', ⟨o', n', e', _, _, d'⟩, _⟩ := I.list h';rw [e] at e'; cases e';rw [d] at d'
  injection d' with d1 _
  have : its = its' := by simpa using congrArg Array.toList d1
  subst this;exact r.inj r'
theorem Inv.tuple_inj (I : Inv X pins σ H s) (h : SqT X.K H a xs) (h' : SqT X.K H a ys) : xs = ys := by
  obtain ⟨its, r, ⟨o, e, _, n, d⟩, _⟩ := I.tuple h;obtain ⟨its', r', ⟨o', e', _, n', d'⟩, _⟩ := I.tuple h';rw [e] at e'; cases e';rw [d] at d'
  injection d' with d1 _
  have : its = its' := by simpa using congrArg Array.toList d1
  subst this;exact r.inj r'
end
abbrev Cx.wish (X : Cx) (E : Value -> Shared -> Prop) : Cx := { X with xe := E }
abbrev Cx.nox (X : Cx) : Cx := X.wish fun _ _ => False
theorem Cx.Ok.wish {X : Cx} (ok : X.Ok) (E : Value -> Shared -> Prop) : (X.wish E).Ok :=
  ⟨ok.mod, ok.kind, ok.glob, ok.blt, ok.above, ok.inj, ok.has, ok.cab, ok.hd, ok.frames, ok.stk, ok.exf, ok.bs, ok.bsz, ok.noex, ok.exfs, ok.funs, ok.frf⟩
theorem Cx.Ok.unwish {X : Cx} {E : Value -> Shared -> Prop} (ok : (X.wish E).Ok) : X.Ok :=
  ⟨ok.mod, ok.kind, ok.glob, ok.blt, ok.above, ok.inj, ok.has, ok.cab, ok.hd, ok.frames, ok.stk, ok.exf, ok.bs, ok.bsz, ok.noex, ok.exfs, ok.funs, ok.frf⟩
section
variable {X : Cx} {pins : List (Addr × Obj)} {σ : St} {H : Hp} {s : Shared} {E : Value -> Shared -> Prop}
theorem Inv.wish (I : Inv X pins σ H s) (E : Value -> Shared -> Prop) : Inv (X.wish E) pins σ H s := ⟨I.ok.wish E, I.os, I.bare, I.base, I.loc, I.cell, I.free, I.freeC, I.pin, I.hok, I.len⟩
theorem Inv.unwish (I : Inv (X.wish E) pins σ H s) : Inv X pins σ H s := ⟨I.ok.unwish, I.os, I.bare, I.base, I.loc, I.cell, I.free, I.freeC, I.pin, I.hok, I.len⟩
theorem SP.unwish {D : Ends} {f : Flow} {s' : Shared} (h : SP (X.wish E) pins D f s') : SP X pins D f s' := by
  cases f with
  | next => obtain ⟨σ', H', I, q⟩ := h; exact ⟨σ', H', I.unwish, q⟩
  | brk => obtain ⟨σ', H', I, q⟩ := h; exact ⟨σ', H', I.unwish, q⟩
  | cont => obtain ⟨σ', H', I, q⟩ := h; exact ⟨σ', H', I.unwish, q⟩
  | ret u => obtain ⟨v, σ', H', I, r, q⟩ := h; exact ⟨v, σ', H', I.unwish, r, q⟩
theorem PE.nox {e : Expr} {t : TE} (h : PE X.nox e t) : PE X e t := fun pins s σ H Q I hw =>
  wpAny_mono (h pins s σ H Q (I.wish _) hw) (fun _ _ ⟨v, H', I', r, q⟩ => ⟨v, H', I'.unwish, r, q⟩) fun _ _ z => False.elim z
theorem PT.nox {e : Expr} {t : TT} (h : PT X.nox e t) : PT X e t := fun pins s σ H Q I hw =>
  wpAny_mono (h pins s σ H Q (I.wish _) hw) (fun _ _ ⟨H', I', q⟩ => ⟨H', I'.unwish, q⟩) fun _ _ z => False.elim z
theorem PSs.nox {st : List Stmt} {t : TS} (h : PSs X.nox st t) : PSs X st t := fun pins s σ H D I hw =>
  wpAny_mono (h pins s σ H D (I.wish _) hw) (fun _ _ q => q.unwish) fun _ _ z => False.elim z
end
section
variable {X : Cx} {st : Stmt} {rest : List Stmt} {t u : TS} {e : Expr} {te : TE} {pos : Pos}
def tNext : TS := fun D σ H => D.nx σ H
def tSeq (t u : TS) : TS := fun D σ H => t { D with nx := u D } σ H
theorem yb : PSs X [] tNext := fun _ _ σ H _ I h => wpAny_execs_nil ⟨σ, H, I, h⟩
theorem zj (h1 : PS X st t) (h2 : PSs X rest u) : PSs X (st :: rest) (tSeq t u) := by
  intro pins s σ H D I h;refine wpAny_execs_cons (thn (h1 pins s σ H { D with nx := u D } I h) fun f s1 q => ?_)
  cases f with
  | next =>
    obtain ⟨σ', H', I', q⟩ := q;exact h2 pins s1 σ' H' D I' q
  | ret v => exact q
  | brk => exact q
  | cont => exact q
theorem zh (h1 : PS X st t) : PSs X [st] t := by
  intro pins s σ H D I h;refine wpAny_execs_cons (thn (h1 pins s σ H D I h) fun f s1 q => ?_)
  cases f with
  | next => exact wpAny_execs_nil q
  | ret v => exact q
  | brk => exact q
  | cont => exact q
def tBreak : TS := fun D σ H => D.bk σ H
def tCont : TS := fun D σ H => D.ct σ H
theorem Inv.quiet {pins : List (Addr × Obj)} {σ : St} {H : Hp} {s : Shared} (I : Inv X pins σ H s) : interactive X.env = false := by simp [interactive, I.ok.kind]
def tDrop (te : TE) : TS := fun D σ H => te σ H fun _ H1 => D.nx σ H1
theorem wx (he : PE X e te) (hs : swapsWith e none pos.line X.env = pure false := by rfl) : PS X (.Expr e pos) (tDrop te) := by
  intro pins s σ H D I h;exact wpAny_Expr_any (thn (he pins s σ H _ I h) fun v s1 ⟨x, H1, I1, r1, q1⟩ => ⟨σ, H1, I1, q1⟩) I.quiet hs
def tRet (te : TE) : TS := fun D σ H => te σ H D.rt
theorem zn (he : PE X e te) : PS X (.Return (some e) pos) (tRet te) := by
  intro pins s σ H D I h;exact wpAny_Return_some (thn (he pins s σ H _ I h) fun v s1 ⟨x, H1, I1, r1, q1⟩ => ⟨x, σ, H1, I1, r1, q1⟩)
def tRetN : TS := fun D _ H => D.rt .non H
def tIfS (c : TT) (t u : TS) : TS := fun D σ H => c σ H fun b H1 => if b = true then t D σ H1 else u D σ H1
theorem yj {c : Expr} {a b : List Stmt} {tc : TT} (hc : PT X c tc) (ha : PSs X a t) (hb : PSs X b u) : PS X (.If c a b pos) (tIfS tc t u) := by
  intro pins s σ H D I h;refine wpAny_If (thn (hc pins s σ H _ I h) fun d s1 ⟨H1, I1, q1⟩ => ?_)
  cases d with
  | true => exact ha pins s1 σ H1 D I1 q1
  | false => exact hb pins s1 σ H1 D I1 q1
end
abbrev TG := V -> St -> Hp -> (St -> Hp -> Prop) -> Prop
abbrev TGs := List V -> St -> Hp -> (St -> Hp -> Prop) -> Prop
def PG (X : Cx) (target : Expr) (t : TG) : Prop :=
  ∀ (pins : List (Addr × Obj)) (s : Shared) (σ : St) (H : Hp) (v : V) (u : Value) (Q : St -> Hp -> Prop), Inv X pins σ H s -> RelV v u -> t v σ H Q ->
    wpAny (model X.prog X.w) X.A (assign target X.env u) (fun _ s' => ∃ σ' H', Inv X pins σ' H' s' /\ Q σ' H') X.xe s
def PGs (X : Cx) (ts : List Expr) (t : TGs) : Prop :=
  ∀ (pins : List (Addr × Obj)) (s : Shared) (σ : St) (H : Hp) (vs : List V) (us : List Value) (Q : St -> Hp -> Prop), Inv X pins σ H s -> Vals vs us -> t vs σ H Q ->
    wpAny (model X.prog X.w) X.A (assignInOrder ((assignEach ts X.env).map (·.2)) us) (fun _ s' => ∃ σ' H', Inv X pins σ' H' s' /\ Q σ' H') X.xe s
abbrev TSet := V -> V -> V -> Hp -> (Hp -> Prop) -> Prop
def PSet (X : Cx) (t : TSet) : Prop :=
  ∀ (pins : List (Addr × Obj)) (s : Shared) (σ : St) (H : Hp) (o i v : V) (ov iv u : Value) (Q : Hp -> Prop), Inv X pins σ H s -> RelV o ov -> RelV i iv -> RelV v u -> t o i v H Q ->
    wpAny (model X.prog X.w) X.A (setItem ov iv u) (fun _ s' => ∃ H', Inv X pins σ H' s' /\ Q H') X.xe s
abbrev TIp := V -> V -> Hp -> VK -> Prop
section
variable {X : Cx} {pos : Pos}
def zdn (i : Nat) : TG := fun v σ H Q => Q (σ.set i (some v)) H
theorem zp {i : Nat} {x : Str} (hN : X.N.Nodup) (hi : X.N[i]? = some x) (hx : Loc X.env.scope x) (hf : X.fn x = true \/ X.env.scope.names.lookup x = some .local := by first | exact .inl rfl | exact .inr rfl | assumption) : PG X (.Name x pos) (zdn i) := by
  intro pins s σ H v u Q I r h;exact wpAny_assign_Name (zal I hN hi hx r (fun s' I' => ⟨_, H, I', h⟩) hf)
def gNil : TGs := fun vs σ H Q => vs = [] /\ Q σ H
def gCons (t : TG) (u : TGs) : TGs := fun vs σ H Q => ∃ v r, vs = v :: r /\ t v σ H fun σ' H' => u r σ' H' Q
theorem u5 : PGs X [] gNil := by
  intro pins s σ H vs us Q I r h;obtain ⟨e, h⟩ := h;subst e;cases r;exact assignInOrder_nil ⟨σ, H, I, h⟩
theorem y2 {e : Expr} {es : List Expr} {t : TG} {u : TGs} (h1 : PG X e t) (h2 : PGs X es u)
    (hs : (assignEach (e :: es) X.env).map (·.2) = assign e X.env :: (assignEach es X.env).map (·.2) := by rfl) : PGs X (e :: es) (gCons t u) := by
  intro pins s σ H vs us Q I r h;obtain ⟨v, vr, e1, h⟩ := h;subst e1
  cases r with
  | cons r rr =>
    rw [hs];refine assignInOrder_cons (thn (h1 pins s σ H _ _ _ I r h) fun _ s1 ⟨σ1, H1, I1, q1⟩ => ?_);exact h2 pins s1 σ1 H1 _ _ Q I1 rr q1
def gTup (K : Fg) (n : Nat) (t : TGs) : TG := fun v σ H Q => ∃ a xs, v = .ref a /\ SqT K H a xs /\ xs.length = n /\ t xs σ H Q
theorem qt {es : List Expr} {k : Nat} {t : TGs} {n : Nat} (hc : X.calm = true) (h : PGs X es t)
    (hn : (assignEach es X.env).length = n := by rfl) (hst : (assignEach es X.env).findIdx? (·.1) = none := by rfl) : PG X (.Tuple es k pos) (gTup X.K n t) := by
  intro pins s σ H v u Q I r hw;obtain ⟨a, xs, e1, hq, hl, hw⟩ := hw;subst e1;cases r;obtain ⟨its, rv, ht, hz⟩ := I.tuple hq;refine assign_Tuple_tuple (I.ok.hd hc) ht (by simp [hn, <- hl, rv.length]) hst fun h' hx => ?_
  have I1 : Inv X pins σ H { s with heap := h' } := I.kept (t' := s.toks) fun b o e => hx b o (Zs (Heap.lt_size e)) e
  exact h pins _ σ H xs _ Q I1 (by simpa using rv) hw
def gSub (to ti : TE) (t : TSet) : TG := fun v σ H Q => to σ H fun o H1 => ti σ H1 fun i H2 => t o i v H2 fun H3 => Q σ H3
theorem ax {o i : Expr} {to ti : TE} {t : TSet} (ho : PE X o to) (hi : PE X i ti) (hs : PSet X t)
    (ha : ∀ v, assign (.Subscript o i pos) X.env v = (do
      let ov <- holding [v] (eval o X.env)
      let iv <- holding [v, ov] (eval i X.env)
      standAt pos
      holding [v, ov, iv] (setItem ov iv v)
      release [v, ov, iv] []) := by intro _; rfl) : PG X (.Subscript o i pos) (gSub to ti t) := by
  intro pins s σ H v u Q I r h;rw [ha];refine wpAny_bind (wpAny_holding (thn (ho pins s σ H _ I h) fun ov s1 ⟨x, H1, I1, r1, q1⟩ => ?_));refine wpAny_bind (wpAny_holding (thn (hi pins s1 σ H1 _ I1 q1) fun iv s2 ⟨y, H2, I2, r2, q2⟩ => ?_));refine wpAny_bind (wpAny_standAt (wpAny_bind (wpAny_holding (thn (hs pins s2 σ H2 x y v ov iv u _ I2 r1 r2 r q2) fun _ s3 ⟨H3, I3, q3⟩ => ?_))));exact wpAny_release ⟨σ, H3, I3, q3⟩
def tAsg (te : TE) (g : TG) : TS := fun D σ H => te σ H fun x H1 => g x σ H1 D.nx
theorem jf {tg e : Expr} {te : TE} {g : TG} (he : PE X e te) (hg : PG X tg g) (hs : swapsWithSole [tg] e pos.line X.env = pure false := by rfl) (hw : swappedStores [tg] e X.env = pure none := by rfl)
    (h1 : (assignEach [tg] X.env).map (·.2) = [assign tg X.env] := by rfl) : PS X (.Assign [tg] e pos) (tAsg te g) := by
  intro pins s σ H D I h;refine wpAny_Assign_stores (thn (he pins s σ H _ I h) fun v s1 ⟨x, H1, I1, r1, q1⟩ => ?_) hs hw;rw [h1];exact thn (hg pins s1 σ H1 x v _ I1 r1 q1) fun _ s2 q => q
theorem zz {i : Nat} {x : Str} {e : Expr} {te : TE} {pos' : Pos} (hN : X.N.Nodup) (hi : X.N[i]? = some x) (hx : Loc X.env.scope x) (he : PE X e te) (hs : swapsWith e (some (.Name x pos')) pos.line X.env = pure false := by rfl) (hf : X.fn x = true \/ X.env.scope.names.lookup x = some .local := by first | exact .inl rfl | exact .inr rfl | assumption) :
    PS X (.Assign [.Name x pos'] e pos) (tAsg te (zdn i)) := by
  intro pins s σ H D I h;refine wpAny_Assign_Name (thn (he pins s σ H _ I h) fun v s1 ⟨y, H1, I1, r1, q1⟩ => ?_) hs;exact zal I1 hN hi hx r1 (fun s2 I2 => ⟨_, H1, I2, q1⟩) hf
def tAugS (to ti te : TE) (tget : V -> V -> Hp -> VK -> Prop) (tip : TIp) (tset : TSet) : TS := fun D σ H => to σ H fun o H1 => ti σ H1 fun i H2 => tget o i H2 fun x H3 => te σ H3 fun y H4 => tip x y H4 fun z H5 => tset o i z H5 fun H6 => D.nx σ H6
def ipI (f : Int -> Int -> Int) : TIp := fun x y H Q => ∃ i j, x = .int i /\ y = .int j /\ Q (.int (f i j)) H
end
section
variable {X : Cx} {pos : Pos}
end
structure It where
  go : Nat -> Hp -> Prop
  yld : Nat -> Hp -> V -> Hp -> Prop
  stop : Nat -> Hp -> Prop
def FpOk (X : Cx) (pins : List (Addr × Obj)) (H : Hp) (b : Addr) : Prop :=
  H b = none /\ b ≠ X.env.locals /\ b ∉ X.fs /\ (b ∈ X.ex \/ X.s₀.heap.objs.size <= b) /\ (∀ x c, X.env.cells.lookup x = some c -> c ≠ b) /\ ∀ p ∈ X.pn ++ pins, p.1 ≠ b
theorem Inv.fpOk {X : Cx} {pins : List (Addr × Obj)} {σ : St} {H H' : Hp} {s : Shared} {b : Addr} (I : Inv X pins σ H s) (hb : s.heap.objs.size <= b) (hn : H' b = none) : FpOk X pins H' b := by
  refine ⟨hn, YG (Zh I.lt hb), I.nofs hb, .inr (Zd I.sz hb), fun x c e z => ?_, fun p hp z => ?_⟩
  . obtain ⟨v, q⟩ := I.cell x c e
    exact absurd (Zh q.lt (by rw [z]; exact hb)) (ZJ _)
  . exact absurd (Zh (Heap.lt_size (I.pin p hp).1) (by rw [z]; exact hb)) (ZJ _)
structure Turn (P : Program) (w : World) (K : Fg) (tg : Expr) (J : It) (fp : List Addr) (it : Addr) (tn : Nat -> Heap -> Prop) : Prop where
  mem : it ∈ fp
  obj : ∀ i h, tn i h -> ∀ b ∈ fp, ∃ o, h.get? b = some o /\ ∀ v, o.data ≠ .cell v
  keep : ∀ i h h', tn i h -> (∀ b ∈ fp, ∀ o, h.get? b = some o -> h'.get? b = some o) -> tn i h'
  item : ∀ (X : Cx), X.prog = P -> X.w = w -> X.K = K -> X.calm = true -> ∀ (i : Nat) (pins : List (Addr × Obj)) (s : Shared) (σ : St) (H : Hp) (E : Value -> Shared -> Prop), Inv X pins σ H s -> (∀ b ∈ fp, FpOk X pins H b) -> tn i s.heap -> J.go i H ->
    wpAny (model P w) X.A (pyNext (.ref it)) (fun r s1 => ∃ u, r = some u /\
      wpAny (model P w) X.A (letOwnedTupleGo tg (.ref it) u) (fun _ s2 => ∃ x H', Inv X pins σ H' s2 /\ RelV x u /\ J.yld i H x H' /\ tn (i + 1) s2.heap /\ ∀ b ∈ fp, H' b = none) E s1) E s
  done : ∀ (X : Cx), X.prog = P -> X.w = w -> X.K = K -> X.calm = true -> ∀ (i : Nat) (pins : List (Addr × Obj)) (s : Shared) (σ : St) (H : Hp) (E : Value -> Shared -> Prop), Inv X pins σ H s -> (∀ b ∈ fp, FpOk X pins H b) -> tn i s.heap -> J.stop i H ->
    wpAny (model P w) X.A (pyNext (.ref it)) (fun r s1 => r = none /\ Inv X pins σ H s1) E s
  self : ∀ (A : Around) (i : Nat) (s : Shared) (Q : Value -> Shared -> Prop) (E : Value -> Shared -> Prop), tn i s.heap -> Q (.ref it) s -> wpAny (model P w) A (pyIter (.ref it)) Q E s
abbrev TI := St -> Hp -> (It -> Hp -> Prop) -> Prop
def PIE (X : Cx) (pins : List (Addr × Obj)) (σ : St) (tg : Expr) (R : It -> Hp -> Prop) (itv : Value) (s2 : Shared) : Prop :=
  ∃ (it : Addr) (fp : List Addr) (tn : Nat -> Heap -> Prop) (J : It) (H' : Hp), itv = .ref it /\ Inv X pins σ H' s2 /\ Turn X.prog X.w X.K tg J fp it tn /\ tn 0 s2.heap /\ (∀ b ∈ fp, FpOk X pins H' b) /\ R J H'
def PI (X : Cx) (tg iter : Expr) (wi : TI) : Prop :=
  ∀ (pins : List (Addr × Obj)) (s : Shared) (σ : St) (H : Hp) (R : It -> Hp -> Prop), Inv X pins σ H s -> wi σ H R ->
    wpAny (model X.prog X.w) X.A (eval iter X.env) (fun v s1 => wpAny (model X.prog X.w) X.A (pyIter v) (PIE X pins σ tg R) X.xe s1) X.xe s
theorem gh {M : Model} {A : Around} {E : Value -> Shared -> Prop} {s : Shared} {tg : Expr} {it : Addr} {u : Value} {o : Obj} {n : String} {vs : Array Value} {Q : Unit -> Shared -> Prop} (ho : s.heap.get? it = some o) (hc : o.cls = .type n) (hd : o.data = .fields vs)
    (hn : ["enumerate", "zip", "dict_itemiterator", "dict_reverseitemiterator", "odict_iterator", "itertools.zip_longest", "itertools.pairwise"].contains n = false) (hQ : Q () s) : wpAny M A (letOwnedTupleGo tg (.ref it) u) Q E s := by
  unfold letOwnedTupleGo
  cases tg <;> first
    | exact wpAny_pure hQ
    | (cases u <;> first
        | exact wpAny_pure hQ
        | (refine wpAny_bind (wpAny_load ho ?_)
           rw [hc, hd]
           show wpAny M A (if (["enumerate", "zip", "dict_itemiterator", "dict_reverseitemiterator", "odict_iterator", "itertools.zip_longest", "itertools.pairwise"].contains n && vs[0]? == some (rawInt _)) = true then _ else _) Q E s
           rw [if_neg (by intro h; rw [hn, Bool.false_and] at h; cases h)]
           exact wpAny_pure hQ))
def Itl (K : Fg) (a : Addr) : It :=
  ⟨fun i H => ∃ xs x, SqL K H a xs /\ xs[i]? = some x, fun i H x H' => H' = H /\ ∀ xs, SqL K H a xs -> xs[i]? = some x, fun i H => ∃ xs, SqL K H a xs /\ xs.length <= i⟩
def Itt (K : Fg) (a : Addr) : It :=
  ⟨fun i H => ∃ xs x, SqT K H a xs /\ xs[i]? = some x, fun i H x H' => H' = H /\ ∀ xs, SqT K H a xs -> xs[i]? = some x, fun i H => ∃ xs, SqT K H a xs /\ xs.length <= i⟩
def Itr (lo : Int) (n : Nat) : It := ⟨fun i _ => i < n, fun i H x H' => H' = H /\ x = .int (lo + i), fun i _ => n <= i⟩
theorem zf5 {P : Program} {w : World} {K : Fg} {tg : Expr} (a it : Addr) : Turn P w K tg (Itl K a) [it] it (fun i h => h.IsListIter it a i) where
  mem := by simp
  obj := fun i h st b hb => by
    have e : b = it := by simpa using hb
    subst e;obtain ⟨o, e, c, d⟩ := st;exact ⟨o, e, fun v z => by rw [d] at z; cases z⟩
  keep := fun i h h' st k => st.at fun o e => k it (by simp) o e
  item := by
    intro X hP hw hK hc i pins s σ H E I hf st hg;subst hP hw hK;obtain ⟨xs, x, hq, hx⟩ := hg;obtain ⟨its, rv, p, hz⟩ := I.list hq;obtain ⟨u, hu, ru⟩ := rv.get hx;obtain ⟨f0, f1, f2, f3, f4, f5⟩ := hf it (by simp);refine wpAny_pyNext_list_item st p.isList (x := u) (by simpa using hu) fun h' st' sb => ?_
    have I1 : Inv X pins σ H { s with heap := h' } := I.turned (t' := s.toks) (fun b o hb e => (sb.2 b hb).trans e) f0 f1 f3 f4 f5;obtain ⟨o, e, c, d⟩ := id st';exact ⟨u, rfl, gh (s := { s with heap := h' }) e c d (by decide) ⟨x, H, I1, ru, ⟨rfl, fun ys hy => by rw [I.list_inj hy hq]; exact hx⟩, st', fun b hb => (hf b hb).1⟩⟩
  done := by
    intro X hP hw hK hc i pins s σ H E I hf st hg;subst hP hw hK;obtain ⟨xs, hq, hx⟩ := hg;obtain ⟨its, rv, p, hz⟩ := I.list hq;obtain ⟨f0, f1, f2, f3, f4, f5⟩ := hf it (by simp);have hl := rv.length;exact wpAny_pyNext_list_end (I.ok.hd hc) st p.isList (by simp; omega) fun h' eb => ⟨rfl, I.turned (t' := s.toks) (fun b o hb e => eb b o hb e) f0 f1 f3 f4 f5⟩
  self := fun _ _ _ _ _ st h => wpAny_pyIter_listiter st h
theorem zc7 {P : Program} {w : World} {K : Fg} {tg : Expr} (a it : Addr) : Turn P w K tg (Itt K a) [it] it (fun i h => h.IsTupleIter it a i) where
  mem := by simp
  obj := fun i h st b hb => by
    have e : b = it := by simpa using hb
    subst e;obtain ⟨o, e, c, d⟩ := st;exact ⟨o, e, fun v z => by rw [d] at z; cases z⟩
  keep := fun i h h' st k => st.at fun o e => k it (by simp) o e
  item := by
    intro X hP hw hK hc i pins s σ H E I hf st hg;subst hP hw hK;obtain ⟨xs, x, hq, hx⟩ := hg;obtain ⟨its, rv, p, hz⟩ := I.tuple hq;obtain ⟨u, hu, ru⟩ := rv.get hx;obtain ⟨f0, f1, f2, f3, f4, f5⟩ := hf it (by simp);refine wpAny_pyNext_tuple_item st (show s.heap.IsTuple a its.toArray from p) (x := u) (by simpa using hu) fun h' st' sb => ?_
    have I1 : Inv X pins σ H { s with heap := h' } := I.turned (t' := s.toks) (fun b o hb e => (sb.2 b hb).trans e) f0 f1 f3 f4 f5;obtain ⟨o, e, c, d⟩ := id st';exact ⟨u, rfl, gh (s := { s with heap := h' }) e c d (by decide) ⟨x, H, I1, ru, ⟨rfl, fun ys hy => by rw [I.tuple_inj hy hq]; exact hx⟩, st', fun b hb => (hf b hb).1⟩⟩
  done := by
    intro X hP hw hK hc i pins s σ H E I hf st hg;subst hP hw hK;obtain ⟨xs, hq, hx⟩ := hg;obtain ⟨its, rv, p, hz⟩ := I.tuple hq;obtain ⟨f0, f1, f2, f3, f4, f5⟩ := hf it (by simp);have hl := rv.length;exact wpAny_pyNext_tuple_end (I.ok.hd hc) st (show s.heap.IsTuple a its.toArray from p) (by simp; omega) fun h' eb => ⟨rfl, I.turned (t' := s.toks) (fun b o hb e => eb b o hb e) f0 f1 f3 f4 f5⟩
  self := fun _ _ _ _ _ st h => wpAny_pyIter_tupleiter st h
theorem zdt {P : Program} {w : World} {K : Fg} {tg : Expr} (it : Addr) (lo : Int) (n : Nat) : Turn P w K tg (Itr lo n) [it] it (fun i h => IsRangeIter h it (lo + (i : Nat) * 1) ((n : Int) - (i : Nat)) 1) where
  mem := by simp
  obj := fun i h st b hb => by
    have e : b = it := by simpa using hb
    subst e
    exact ⟨_, st, fun v z => by
      have z' : Data.fields _ = Data.cell v := z
      cases z'⟩
  keep := fun i h h' st k => k it (by simp) _ st
  item := by
    intro X hP hw hK hc i pins s σ H E I hf st hg;subst hP hw hK;obtain ⟨f0, f1, f2, f3, f4, f5⟩ := hf it (by simp);have W := Walks.range (prog := X.prog) (w := X.w) (I.ok.hd hc) it lo 1 n;refine W.item i s _ _ hg st fun v h' tk hv st' kk => ?_
    obtain ⟨t, rfl⟩ := hv;have I1 : Inv X pins σ H { s with heap := h', toks := tk } := I.turned (fun b o hb e => kk b o (by simpa using hb) e) f0 f1 f3 f4 f5;refine ⟨_, rfl, gh (s := { s with heap := h', toks := tk }) (n := "range_iterator") st' rfl rfl (by decide) ⟨.int (lo + i), H, I1, ⟨t, ?_⟩, ⟨rfl, rfl⟩, st', fun b hb => (hf b hb).1⟩⟩;rw [Int.mul_one]
  done := by
    intro X hP hw hK hc i pins s σ H E I hf st hg;subst hP hw hK;obtain ⟨f0, f1, f2, f3, f4, f5⟩ := hf it (by simp);exact wpAny_pyNext_range_end (I.ok.hd hc) st (by have : n <= i := hg; omega) fun h' eb => ⟨rfl, I.turned (t' := s.toks) (fun b o hb e => eb b o hb e) f0 f1 f3 f4 f5⟩
  self := fun _ _ _ _ _ st h => wpAny_pyIter_rangeiter st h
end L2
namespace L2
open PySem PySem.Spec PyProof.Rows
section
variable {X : Cx} {tg : Expr}
def iList (K : Fg) (tl : TE) : TI := fun σ H R => tl σ H fun x H1 => ∃ a, x = .ref a /\ (∃ xs, SqL K H1 a xs) /\ R (Itl K a) H1
def iTup (K : Fg) (tl : TE) : TI := fun σ H R => tl σ H fun x H1 => ∃ a, x = .ref a /\ (∃ xs, SqT K H1 a xs) /\ R (Itt K a) H1
theorem yg {l : Expr} {tl : TE} (hl : PE X l tl) : PI X tg l (iList X.K tl) := by
  intro pins s σ H R I h;refine thn (hl pins s σ H _ I h) fun v s1 ⟨x, H1, I1, r1, q1⟩ => ?_
  obtain ⟨a, e, ⟨xs, hq⟩, q⟩ := q1;subst e;cases r1;obtain ⟨its, rv, p, hz⟩ := I1.list hq;refine wpAny_pyIter_list p.isList ?_;refine ⟨s1.heap.objs.size, [s1.heap.objs.size], _, _, H1, rfl, I1.kept (t' := s1.toks) fun b o e => Heap.get?_push_of_some _ e, zf5 a _, ⟨_, Heap.get?_push_size _ rfl, rfl, rfl⟩, fun b hb => ?_, q⟩;have e : b = s1.heap.objs.size := by simpa using hb
  subst e;exact I1.fpOk (Zm _) (I1.hok.fresh (Zm _))
theorem gv {l : Expr} {tl : TE} (hl : PE X l tl) : PI X tg l (iTup X.K tl) := by
  intro pins s σ H R I h;refine thn (hl pins s σ H _ I h) fun v s1 ⟨x, H1, I1, r1, q1⟩ => ?_
  obtain ⟨a, e, ⟨xs, hq⟩, q⟩ := q1;subst e;cases r1;obtain ⟨its, rv, p, hz⟩ := I1.tuple hq;refine wpAny_pyIter_tuple (show s1.heap.IsTuple a its.toArray from p) ?_;refine ⟨s1.heap.objs.size, [s1.heap.objs.size], _, _, H1, rfl, I1.kept (t' := s1.toks) fun b o e => Heap.get?_push_of_some _ e, zc7 a _, ⟨_, Heap.get?_push_size _ rfl, rfl, rfl⟩, fun b hb => ?_, q⟩;have e : b = s1.heap.objs.size := by simpa using hb
  subst e;exact I1.fpOk (Zm _) (I1.hok.fresh (Zm _))
theorem zab {pins : List (Addr × Obj)} {σ : St} {H : Hp} {s : Shared} {R : It -> Hp -> Prop} {E : Value -> Shared -> Prop} {lo hi : Int} {t u v : Tok} {tk : Nat} (I : Inv X pins σ H s) (h1 : -(2 ^ 62) <= lo) (h2 : lo < 2 ^ 62) (h3 : -(2 ^ 62) <= hi) (h4 : hi < 2 ^ 62)
    (q : R (Itr lo (hi - lo).toNat) H) : wpAny (model X.prog X.w) X.A (pyIter (.ref s.heap.objs.size)) (PIE X pins σ tg R) E { s with heap := s.heap.push { cls := .type "range", data := .fields #[.int lo t, .int hi u, .int 1 v] }, toks := tk } := by
  refine wpAny_pyIter_range (IsRange.new ..) (small_one h1 h2 h3 h4) ?_;have I1 : Inv X pins σ H { s with heap := s.heap.push { cls := .type "range", data := .fields #[.int lo t, .int hi u, .int 1 v] }, toks := tk } := I.kept fun b o e => Heap.get?_push_of_some _ e
  refine ⟨(s.heap.push { cls := .type "range", data := .fields #[.int lo t, .int hi u, .int 1 v] }).objs.size, [(s.heap.push { cls := .type "range", data := .fields #[.int lo t, .int hi u, .int 1 v] }).objs.size], _, _, H, rfl,
    I1.kept (t' := tk) fun b o e => Heap.get?_push_of_some _ e, zdt _ lo (hi - lo).toNat, ?_, fun b hb => ?_, q⟩
  . have e1 : lo + ((0 : Nat) : Int) * 1 = lo := by simp
    have e2 : (((hi - lo).toNat : Nat) : Int) - ((0 : Nat) : Int) = Builtin.Range.rangeSize lo hi 1 := by rw [rangeSize_one]; split <;> omega
    show IsRangeIter _ _ (lo + ((0 : Nat) : Int) * 1) ((((hi - lo).toNat : Nat) : Int) - ((0 : Nat) : Int)) 1
    rw [e1, e2];exact Heap.get?_push_size _ rfl
  . have e : b = (s.heap.push { cls := .type "range", data := .fields #[.int lo t, .int hi u, .int 1 v] }).objs.size := by simpa using hb
    subst e;exact I1.fpOk (Zm _) (I1.hok.fresh (Zm _))
def iRng1 (ta : TA) : TI := fun σ H R => ta σ H fun vs H1 => ∃ j : Int, vs = [.int j] /\ -(2 ^ 62) <= j /\ j < 2 ^ 62 /\ R (Itr 0 j.toNat) H1
def iRng2 (ta : TA) : TI := fun σ H R => ta σ H fun vs H1 => ∃ i j : Int, vs = [.int i, .int j] /\ (-(2 ^ 62) <= i /\ i < 2 ^ 62 /\ -(2 ^ 62) <= j /\ j < 2 ^ 62) /\ R (Itr i (j - i).toNat) H1
theorem yl {a : Expr} {ta : TA} {p pos : Pos} (hg : Gl X "range") (hm : X.mg "range" = none) (ha : PA X [a] ta) (hs : starEach [a] X.env = [(false, eval a X.env)] := by rfl) : PI X tg (.Call (.Name "range" p) [a] [] pos) (iRng1 ta) := by
  intro pins s σ H R I h;refine Call_ (ul I hg hm boot_range (PyProof.Rows.callWith_type1 (thn (ha pos pins s σ H _ I h) fun us s1 ⟨vs, H1, I1, r1, q1⟩ => ?_) hs rfl));obtain ⟨j, e, q1, q2, q⟩ := q1;subst e
  cases r1 with
  | cons r rr =>
    cases rr;obtain ⟨t, rfl⟩ := r;exact call_range_1 (zab I1 (by omega) (by omega) q1 q2 (by simpa using q))
theorem qx {a b : Expr} {ta : TA} {p pos : Pos} (hg : Gl X "range") (hm : X.mg "range" = none) (ha : PA X [a, b] ta) (hs : starEach [a, b] X.env = [(false, eval a X.env), (false, eval b X.env)] := by rfl) (hs2 : starEach [b] X.env = [(false, eval b X.env)] := by rfl) :
    PI X tg (.Call (.Name "range" p) [a, b] [] pos) (iRng2 ta) := by
  intro pins s σ H R I h;refine Call_ (ul I hg hm boot_range (PyProof.Rows.callWith_type1 (thn (ha pos pins s σ H _ I h) fun us s1 ⟨vs, H1, I1, r1, q1⟩ => ?_) (by rw [hs, hs2]) (by rw [hs2]; rfl)));obtain ⟨i, j, e, ⟨q1, q2, q3, q4⟩, q⟩ := q1;subst e
  cases r1 with
  | cons r rr =>
    cases rr with
    | cons r' rr =>
      cases rr;obtain ⟨t, rfl⟩ := r;obtain ⟨t', rfl⟩ := r';exact call_range_2 (zab I1 q1 q2 q3 q4 q)
def tFor (wi : TI) (g : TG) (tb : TS) : TS := fun D σ H => wi σ H fun J H1 => ∃ W : Nat -> Nat -> St -> Hp -> Prop, (∃ m, W 0 m σ H1) /\ ∀ i m σ H, W i m σ H ->
  (J.stop i H /\ D.nx σ H) \/ (J.go i H /\ ∃ N : St -> Hp -> Prop, (∀ σ' H', N σ' H' -> ∃ m', m' < m /\ W (i + 1) m' σ' H') /\ ∀ x H', J.yld i H x H' -> g x σ H' fun σ2 H2 => tb { D with nx := N, ct := N, bk := D.nx } σ2 H2)
def jn (fp : List Addr) (h : Heap) : List (Addr × Obj) := fp.filterMap fun b => (h.get? b).map fun o => (b, o)
theorem sy {fp : List Addr} {h : Heap} {b : Addr} {o : Obj} (hb : b ∈ fp) (e : h.get? b = some o) : (b, o) ∈ jn fp h := ZY.mpr ⟨b, hb, by rw [e]; rfl⟩
theorem zf1 {fp : List Addr} {h : Heap} {p : Addr × Obj} (hp : p ∈ jn fp h) : p.1 ∈ fp /\ h.get? p.1 = some p.2 := by
  obtain ⟨b, hb, e⟩ := ZY.mp hp
  cases q : h.get? b with
  | none => rw [q] at e; cases e
  | some o =>
    rw [q] at e;have e' : (b, o) = p := Option.some.inj e;subst e';exact ⟨hb, q⟩
theorem Inv.pinned {pins : List (Addr × Obj)} {σ : St} {H : Hp} {s : Shared} {fp : List Addr} (I : Inv X pins σ H s) (hf : ∀ b ∈ fp, FpOk X pins H b) (ho : ∀ b ∈ fp, ∃ o, s.heap.get? b = some o /\ ∀ v, o.data ≠ .cell v) : Inv X (pins ++ jn fp s.heap) σ H s :=
  I.pins_of fun p hp => (ZH.mp hp).elim (fun z => I.pin p (Zu _ z)) fun z => by
    obtain ⟨hb, e⟩ := zf1 z;obtain ⟨f0, f1, f2, _⟩ := hf p.1 hb;obtain ⟨o, e', d⟩ := ho p.1 hb;rw [e] at e'; cases e';exact ⟨e, f0, f1, f2, d⟩
theorem Inv.unpinned {pins pl : List (Addr × Obj)} {σ : St} {H : Hp} {s : Shared} (I : Inv X (pins ++ pl) σ H s) : Inv X pins σ H s := I.pins_of fun p hp => I.pin p (Zu _ (ZZ _ hp))
theorem yx {iter : Expr} {body : List Stmt} {wi : TI} {g : TG} {tb : TS} {pos : Pos} (hp : PassesOwn (model X.prog X.w) X.A X.env X.xe) (hc : X.calm = true) (hi : PI X tg iter wi) (hg : PG X tg g) (hb : PSs X body tb)
    (hs : ∀ x, foldedSetIterable iter X.env x = pure x := by intro _; rfl) : PS X (.For tg iter body [] pos) (tFor wi g tb) := by
  intro pins s σ H D I h;refine wpAny_For (thn (hi pins s σ H _ I h) fun v s1 h1 => thn h1 fun itv s2 h2 => ?_) hs;obtain ⟨it, fp, tn, J, H2, e, I2, T, st2, f2, W, ⟨m0, w0⟩, turn⟩ := h2;subst e
  -- what stays true of the iterator's objects through the loop
  have stat : ∀ {H' : Hp}, (∀ b ∈ fp, H' b = none) -> ∀ b ∈ fp, FpOk X pins H' b := fun hn b hb => ⟨hn b hb, (f2 b hb).2⟩
  refine codeAny_forLoop_any (fun n s' => ∃ i σ' H', Inv X pins σ' H' s' /\ tn i s'.heap /\ (∀ b ∈ fp, H' b = none) /\ W i n σ' H') ?_ m0 ⟨0, σ, H2, I2, st2, fun b hb => (f2 b hb).1, w0⟩
  rintro n s3 ⟨i, σ3, H3, I3, st3, fr3, w3⟩
  rcases turn i n σ3 H3 w3 with ⟨stop, qn⟩ | ⟨go, N, hN, step⟩
  . refine wpAny_passesOwn hp (thn (T.done X rfl rfl rfl hc i pins s3 σ3 H3 X.xe I3 (stat fr3) st3 stop) fun r s4 ⟨hr, I4⟩ => ?_)
    subst hr;exact wpAny_execs_nil ⟨σ3, H3, I4, qn⟩
  . refine wpAny_passesOwn hp (thn (T.item X rfl rfl rfl hc i pins s3 σ3 H3 X.xe I3 (stat fr3) st3 go) fun r s4 ⟨u, hr, h4⟩ => ?_)
    subst hr;refine wpAny_passesOwn hp (thn h4 fun _ s5 ⟨x, H5, I5, r5, y5, st5, fr5⟩ => ?_);have I5' := I5.pinned (stat fr5) (T.obj _ _ st5);refine wpAny_passesOwn hp (thn (hg _ s5 σ3 H5 x u _ I5' r5 (step x H5 y5)) fun _ s6 ⟨σ6, H6, I6, q6⟩ => ?_);refine wpAny_passesOwn hp (thn (hb _ s6 σ6 H6 _ I6 q6) fun f s7 q7 => ?_)
    have again : ∀ {σ7 : St} {H7 : Hp}, Inv X (pins ++ jn fp s5.heap) σ7 H7 s7 -> N σ7 H7 -> ∃ m, m < n /\ ∃ i σ' H', Inv X pins σ' H' s7 /\ tn i s7.heap /\ (∀ b ∈ fp, H' b = none) /\ W i m σ' H' := fun {σ7 H7} I7 n7 => by
      obtain ⟨m', hm, w7⟩ := hN σ7 H7 n7;refine ⟨m', hm, i + 1, σ7, H7, I7.unpinned, T.keep _ _ _ st5 fun b hb o e => (I7.pin (b, o) (Zu _ (Zu _ (sy hb e)))).1, fun b hb => ?_, w7⟩;obtain ⟨o, e, d⟩ := T.obj _ _ st5 b hb;exact (I7.pin (b, o) (Zu _ (Zu _ (sy hb e)))).2.1
    cases f with
    | next => obtain ⟨σ7, H7, I7, n7⟩ := q7; exact again I7 n7
    | cont => obtain ⟨σ7, H7, I7, n7⟩ := q7; exact again I7 n7
    | brk => obtain ⟨σ7, H7, I7, q7⟩ := q7; exact ⟨σ7, H7, I7.unpinned, q7⟩
    | ret v => obtain ⟨x7, σ7, H7, I7, r7, q7⟩ := q7; exact ⟨x7, σ7, H7, I7.unpinned, r7, q7⟩
end
theorem x9 {K : Fg} {a : Addr} {xs : List V} {g : TG} {tb : TS} {D : Ends} {σ : St} {H : Hp} (Pv : Nat -> St -> Hp -> Prop) (h0 : Pv 0 σ H) (hl : ∀ i σ H, i <= xs.length -> Pv i σ H -> SqL K H a xs)
    (hs : ∀ i x σ H, xs[i]? = some x -> Pv i σ H -> g x σ H fun σ2 H2 => tb { D with nx := Pv (i + 1), ct := Pv (i + 1), bk := D.nx } σ2 H2) (hd : ∀ σ H, Pv xs.length σ H -> D.nx σ H) :
    ∃ W : Nat -> Nat -> St -> Hp -> Prop, (∃ m, W 0 m σ H) /\ ∀ i m σ H, W i m σ H ->
      ((Itl K a).stop i H /\ D.nx σ H) \/ ((Itl K a).go i H /\ ∃ N : St -> Hp -> Prop, (∀ σ' H', N σ' H' -> ∃ m', m' < m /\ W (i + 1) m' σ' H') /\ ∀ x H', (Itl K a).yld i H x H' -> g x σ H' fun σ2 H2 => tb { D with nx := N, ct := N, bk := D.nx } σ2 H2) := by
  refine ⟨fun i m σ H => m = xs.length - i /\ i <= xs.length /\ Pv i σ H, ⟨xs.length, by simp, ZE _, h0⟩, ?_⟩
  rintro i m σ H ⟨rfl, hi, p⟩
  have q := hl i σ H hi p
  by_cases hlt : i < xs.length
  . refine .inr ⟨⟨xs, xs[i], q, by simp [hlt]⟩, Pv (i + 1), fun σ' H' p' => ⟨xs.length - (i + 1), by omega, rfl, hlt, p'⟩, fun x H' y => ?_⟩
    obtain ⟨e, y⟩ := y;subst e;exact hs i x σ _ (y xs q) p
  . have e : i = xs.length := by omega
    subst e;exact .inl ⟨⟨xs, q, Zm _⟩, hd σ H p⟩
theorem zh4 {K : Fg} {a : Addr} {xs : List V} {g : TG} {tb : TS} {D : Ends} {σ : St} {H : Hp} (Pv : Nat -> St -> Hp -> Prop) (h0 : Pv 0 σ H) (hl : ∀ i σ H, i <= xs.length -> Pv i σ H -> SqT K H a xs)
    (hs : ∀ i x σ H, xs[i]? = some x -> Pv i σ H -> g x σ H fun σ2 H2 => tb { D with nx := Pv (i + 1), ct := Pv (i + 1), bk := D.nx } σ2 H2) (hd : ∀ σ H, Pv xs.length σ H -> D.nx σ H) :
    ∃ W : Nat -> Nat -> St -> Hp -> Prop, (∃ m, W 0 m σ H) /\ ∀ i m σ H, W i m σ H ->
      ((Itt K a).stop i H /\ D.nx σ H) \/ ((Itt K a).go i H /\ ∃ N : St -> Hp -> Prop, (∀ σ' H', N σ' H' -> ∃ m', m' < m /\ W (i + 1) m' σ' H') /\ ∀ x H', (Itt K a).yld i H x H' -> g x σ H' fun σ2 H2 => tb { D with nx := N, ct := N, bk := D.nx } σ2 H2) := by
  refine ⟨fun i m σ H => m = xs.length - i /\ i <= xs.length /\ Pv i σ H, ⟨xs.length, by simp, ZE _, h0⟩, ?_⟩
  rintro i m σ H ⟨rfl, hi, p⟩
  have q := hl i σ H hi p
  by_cases hlt : i < xs.length
  . refine .inr ⟨⟨xs, xs[i], q, by simp [hlt]⟩, Pv (i + 1), fun σ' H' p' => ⟨xs.length - (i + 1), by omega, rfl, hlt, p'⟩, fun x H' y => ?_⟩
    obtain ⟨e, y⟩ := y;subst e;exact hs i x σ _ (y xs q) p
  . have e : i = xs.length := by omega
    subst e;exact .inl ⟨⟨xs, q, Zm _⟩, hd σ H p⟩
theorem xa {lo : Int} {n : Nat} {g : TG} {tb : TS} {D : Ends} {σ : St} {H : Hp} (Pv : Nat -> St -> Hp -> Prop) (h0 : Pv 0 σ H)
    (hs : ∀ i σ H, i < n -> Pv i σ H -> g (.int (lo + i)) σ H fun σ2 H2 => tb { D with nx := Pv (i + 1), ct := Pv (i + 1), bk := D.nx } σ2 H2) (hd : ∀ σ H, Pv n σ H -> D.nx σ H) :
    ∃ W : Nat -> Nat -> St -> Hp -> Prop, (∃ m, W 0 m σ H) /\ ∀ i m σ H, W i m σ H ->
      ((Itr lo n).stop i H /\ D.nx σ H) \/ ((Itr lo n).go i H /\ ∃ N : St -> Hp -> Prop, (∀ σ' H', N σ' H' -> ∃ m', m' < m /\ W (i + 1) m' σ' H') /\ ∀ x H', (Itr lo n).yld i H x H' -> g x σ H' fun σ2 H2 => tb { D with nx := N, ct := N, bk := D.nx } σ2 H2) := by
  refine ⟨fun i m σ H => m = n - i /\ i <= n /\ Pv i σ H, ⟨n, by simp, ZE _, h0⟩, ?_⟩
  rintro i m σ H ⟨rfl, hi, p⟩
  by_cases hlt : i < n
  . refine .inr ⟨hlt, Pv (i + 1), fun σ' H' p' => ⟨n - (i + 1), by omega, rfl, hlt, p'⟩, fun x H' y => ?_⟩
    obtain ⟨e, y⟩ := y;subst e y;exact hs i σ _ hlt p
  . have e : i = n := by omega
    subst e;exact .inl ⟨Zm _, hd σ H p⟩
end L2
namespace L2
open PySem PySem.Spec PyProof.Rows
abbrev R2 := V -> V -> Hp -> VK -> Prop
def OpR (X : Cx) (f : Value -> Value -> Sem Value) (r : R2) : Prop :=
  ∀ (pins : List (Addr × Obj)) (s : Shared) (σ : St) (H : Hp) (x y : V) (v u : Value) (Q : VK), Inv X pins σ H s -> RelV x v -> RelV y u -> r x y H Q ->
    wpAny (model X.prog X.w) X.A (f v u) (EP X pins σ Q) X.xe s
def UnR (X : Cx) (f : Value -> Sem Value) (r : V -> Hp -> VK -> Prop) : Prop :=
  ∀ (pins : List (Addr × Obj)) (s : Shared) (σ : St) (H : Hp) (x : V) (v : Value) (Q : VK), Inv X pins σ H s -> RelV x v -> r x H Q ->
    wpAny (model X.prog X.w) X.A (f v) (EP X pins σ Q) X.xe s
def CallR (X : Cx) (f : Value) (r : List V -> Hp -> VK -> Prop) : Prop :=
  ∀ (pins : List (Addr × Obj)) (s : Shared) (σ : St) (H : Hp) (xs : List V) (us : List Value) (Q : VK), Inv X pins σ H s -> Vals xs us -> r xs H Q ->
    wpAny (model X.prog X.w) X.A (call f us) (EP X pins σ Q) X.xe s
def tOp (r : R2) (ta tb : TE) : TE := fun σ H Q => ta σ H fun x H1 => tb σ H1 fun y H2 => r x y H2 Q
def tUn (r : V -> Hp -> VK -> Prop) (ta : TE) : TE := fun σ H Q => ta σ H fun x H1 => r x H1 Q
def rI (C : Int -> Int -> Prop) (g : Int -> Int -> V) : R2 := fun x y H Q => ∃ i j, x = .int i /\ y = .int j /\ C i j /\ Q (g i j) H
def rI0 (g : Int -> Int -> V) : R2 := fun x y H Q => ∃ i j, x = .int i /\ y = .int j /\ Q (g i j) H
def rU (g : Int -> V) : V -> Hp -> VK -> Prop := fun x H Q => ∃ i, x = .int i /\ Q (g i) H
section
variable {X : Cx} {a b c : Expr} {ta tb tc : TE} {pos : Pos}
theorem binT (ha : PE X a ta) (hb : PE X b tb) {pins : List (Addr × Obj)} {s : Shared} {σ : St} {H : Hp} {R : V -> V -> Hp -> Prop} (I : Inv X pins σ H s)
    (h : ta σ H fun x H1 => tb σ H1 fun y H2 => R x y H2) {Q : Value -> Shared -> Prop} {f : Value -> Value -> Sem Value}
    (hf : ∀ v u s2 x y H2, Inv X pins σ H2 s2 -> RelV x v -> RelV y u -> R x y H2 -> wpAny (model X.prog X.w) X.A (f v u) Q X.xe s2) :
    wpAny (model X.prog X.w) X.A (eval a X.env) (fun v s₁ => wpAny (model X.prog X.w) X.A (eval b X.env) (fun u s₂ => wpAny (model X.prog X.w) X.A (f v u) Q X.xe s₂) X.xe s₁) X.xe s := by
  refine thn (ha pins s σ H _ I h) fun v s1 ⟨x, H1, I1, r1, q1⟩ => ?_
  refine thn (hb pins s1 σ H1 _ I1 q1) fun u s2 ⟨y, H2, I2, r2, q2⟩ => ?_
  exact hf v u s2 x y H2 I2 r1 r2 q2
theorem zm {op : Operator} {r : R2} (ho : OpR X (binaryOp op) r) (ha : PE X a ta) (hb : PE X b tb) : PE X (.BinOp a op b pos) (tOp r ta tb) := by
  intro pins s σ H Q I h;exact wpAny_BinOp (binT ha hb I h fun v u s2 x y H2 I2 rx ry q => ho pins s2 σ H2 x y v u Q I2 rx ry q)
theorem fc {op : UnaryOp} {r : V -> Hp -> VK -> Prop} (ho : UnR X (unaryOp op) r) (ha : PE X a ta) : PE X (.UnaryOp op a pos) (tUn r ta) := by
  intro pins s σ H Q I h;exact UnaryOp_ (thn (ha pins s σ H _ I h) fun v s1 ⟨x, H1, I1, r1, q1⟩ => ho pins s1 σ H1 x v Q I1 r1 q1)
theorem opI {f : Value -> Value -> Sem Value} {C : Int -> Int -> Prop} {g : Int -> Int -> Int}
    (rule : ∀ (i j : Int) (t u : Tok) (s : Shared) (Q : Value -> Shared -> Prop) (E : Value -> Shared -> Prop), C i j -> Q (.int (g i j) s.toks) { s with toks := s.toks + 1 } -> wpAny (model X.prog X.w) X.A (f (.int i t) (.int j u)) Q E s) :
    OpR X f (rI C fun i j => .int (g i j)) := by
  intro pins s σ H x y v u Q I rx ry h;obtain ⟨i, j, rfl, rfl, hc, q⟩ := h;obtain ⟨t, rfl⟩ := rx;obtain ⟨t', rfl⟩ := ry;exact rule i j t t' s _ _ hc ⟨.int (g i j), H, I.tok _, ⟨_, rfl⟩, q⟩
theorem opI0 {f : Value -> Value -> Sem Value} {g : Int -> Int -> Int}
    (rule : ∀ (i j : Int) (t u : Tok) (s : Shared) (Q : Value -> Shared -> Prop) (E : Value -> Shared -> Prop), Q (.int (g i j) s.toks) { s with toks := s.toks + 1 } -> wpAny (model X.prog X.w) X.A (f (.int i t) (.int j u)) Q E s) :
    OpR X f (rI0 fun i j => .int (g i j)) := by
  intro pins s σ H x y v u Q I rx ry h;obtain ⟨i, j, rfl, rfl, q⟩ := h;obtain ⟨t, rfl⟩ := rx;obtain ⟨t', rfl⟩ := ry;exact rule i j t t' s _ _ ⟨.int (g i j), H, I.tok _, ⟨_, rfl⟩, q⟩
theorem opB0 {f : Value -> Value -> Sem Value} {g : Int -> Int -> Bool}
    (rule : ∀ (i j : Int) (t u : Tok) (s : Shared) (Q : Value -> Shared -> Prop) (E : Value -> Shared -> Prop), Q (.bool (g i j)) s -> wpAny (model X.prog X.w) X.A (f (.int i t) (.int j u)) Q E s) :
    OpR X f (rI0 fun i j => .bl (g i j)) := by
  intro pins s σ H x y v u Q I rx ry h;obtain ⟨i, j, rfl, rfl, q⟩ := h;obtain ⟨t, rfl⟩ := rx;obtain ⟨t', rfl⟩ := ry;exact rule i j t t' s _ _ ⟨.bl (g i j), H, I, rfl, q⟩
def CDiv (i j : Int) : Prop := 0 < j /\ j < 1073741824
def CPow (i j : Int) : Prop := 0 <= j /\ j <= 1000000 /\ i.natAbs < 2 ^ 64
def CMul (i j : Int) : Prop := (-(2 ^ 64) < i /\ i < 2 ^ 64) \/ (-(2 ^ 64) < j /\ j < 2 ^ 64)
theorem CMul.ok {i j : Int} (h : CMul i j) : IntMulOk i j := by
  rcases h with ⟨h1, h2⟩ | ⟨h1, h2⟩
  . exact .of_left (intBits_le_64 h1 h2)
  . exact .of_right (intBits_le_64 h1 h2)
theorem yp : OpR X (binaryOp .Add) (rI0 fun i j => .int (i + j)) := opI0 fun _ _ _ _ _ _ _ q => add_int q
theorem w6 : OpR X (binaryOp .Sub) (rI0 fun i j => .int (i - j)) := opI0 fun _ _ _ _ _ _ _ q => sub_int q
theorem tq : OpR X (binaryOp .Mult) (rI CMul fun i j => .int (i * j)) := opI fun _ _ _ _ _ _ _ hc q => mul_int q hc.ok
theorem xc : OpR X (binaryOp .FloorDiv) (rI CDiv fun i j => .int (i / j)) := opI fun i j _ _ _ _ _ hc q => by
  have h1 : (0 : Int) < j := hc.1;have h2 : j < 1073741824 := hc.2;exact floordiv_int (by omega) (by rw [Int.fdiv_eq_ediv_of_nonneg i (by omega)]; exact q) (.inl (PyProof.noPylong_small (by omega)))
theorem ym : OpR X (binaryOp .Mod) (rI (fun _ j => 0 < j) fun i j => .int (i % j)) := opI fun i j _ _ _ _ _ hc q => by
  have h1 : (0 : Int) < j := hc;exact mod_int' (by omega) (by rw [Int.fmod_eq_emod_of_nonneg i (by omega)]; exact q)
theorem ld : OpR X (binaryOp .Pow) (rI CPow fun i j => .int (i ^ j.toNat)) := opI fun _ _ _ _ _ _ _ hc q => pow_int_small hc.1 hc.2.1 hc.2.2 q
theorem unI {f : Value -> Sem Value} {g : Int -> Int}
    (rule : ∀ (i : Int) (t : Tok) (s : Shared) (Q : Value -> Shared -> Prop) (E : Value -> Shared -> Prop), Q (.int (g i) s.toks) { s with toks := s.toks + 1 } -> wpAny (model X.prog X.w) X.A (f (.int i t)) Q E s) :
    UnR X f (rU fun i => .int (g i)) := by
  intro pins s σ H x v Q I rx h;obtain ⟨i, rfl, q⟩ := h;obtain ⟨t, rfl⟩ := rx;exact rule i t s _ _ ⟨.int (g i), H, I.tok _, ⟨_, rfl⟩, q⟩
theorem jg : UnR X (unaryOp .USub) (rU fun i => .int (-i)) := unI fun _ _ _ _ _ q => neg_int q
end
def scal : V -> V -> Bool
  | .non, .non => true | .non, .int _ => true | .int _, .non => true | .non, .bl _ => true | .bl _, .non => true | .non, .str _ => true | .str _, .non => true
  | .int _, .int _ => true | .bl _, .bl _ => true | .str _, .str _ => true | .byt _, .byt _ => true
  | .int _, .str _ => true | .str _, .int _ => true | .bl _, .str _ => true | .str _, .bl _ => true
  | _, _ => false
def rEq : R2 := fun x y H Q => scal x y = true /\ Q (.bl (decide (x = y))) H
def rNe : R2 := fun x y H Q => scal x y = true /\ Q (.bl (!decide (x = y))) H
theorem zbp {i j : Int} : decide (V.int i = V.int j) = (i == j) := by
  rw [Bool.eq_iff_iff];simp
theorem zem {i j : Bool} : decide (V.bl i = V.bl j) = (i == j) := by
  rw [Bool.eq_iff_iff];simp
theorem zbu {i j : Str} : decide (V.str i = V.str j) = (i == j) := by
  rw [Bool.eq_iff_iff];simp
theorem zcd {i j : Array UInt8} : decide (V.byt i = V.byt j) = (i.toList == j.toList) := by
  rw [Bool.eq_iff_iff];cases i;cases j;simp
section
variable {X : Cx} {a b c : Expr} {ta tb tc : TE} {pos : Pos}
theorem yn {pins : List (Addr × Obj)} {σ : St} {H : Hp} {s : Shared} {Q : VK} {k k' : Bool} (I : Inv X pins σ H s) (q : Q (.bl k) H) (e : k = k') : EP X pins σ Q (.bool k') s := by
  subst e;exact ⟨.bl k, H, I, rfl, q⟩
theorem vo : OpR X (compareOp .Eq) rEq := by
  intro pins s σ H x y v u Q I rx ry h;obtain ⟨hs, q⟩ := h
  cases x with
  | non =>
    cases rx
    cases y with
    | non => cases ry; exact PySem.EqNone.eq_none_none (yn I q (by simp))
    | bl j => cases ry; exact PySem.EqNone.eq_none_bool (yn I q (by simp))
    | int j => obtain ⟨t', rfl⟩ := ry; exact PySem.EqNone.eq_none_int (yn I q (by simp))
    | str j => obtain ⟨t', rfl⟩ := ry; exact PySem.EqNone.eq_none_str (yn I q (by simp))
    | _ => exact absurd (show false = true from hs) Bool.false_ne_true
  | bl i =>
    cases rx
    cases y with
    | non => cases ry; exact PySem.EqNone.eq_bool_none (yn I q (by simp))
    | bl j => cases ry; exact eq_bool (yn I q zem)
    | str j => obtain ⟨t', rfl⟩ := ry; exact PySem.EqMixed.eq_bool_str (yn I q (by simp))
    | _ => exact absurd (show false = true from hs) Bool.false_ne_true
  | int i =>
    obtain ⟨t, rfl⟩ := rx
    cases y with
    | non => cases ry; exact PySem.EqNone.eq_int_none (yn I q (by simp))
    | int j => obtain ⟨t', rfl⟩ := ry; exact eq_int (yn I q zbp)
    | str j => obtain ⟨t', rfl⟩ := ry; exact PySem.EqMixed.eq_int_str (yn I q (by simp))
    | _ => exact absurd (show false = true from hs) Bool.false_ne_true
  | str i =>
    obtain ⟨t, rfl⟩ := rx
    cases y with
    | non => cases ry; exact PySem.EqNone.eq_str_none (yn I q (by simp))
    | bl j => cases ry; exact PySem.EqMixed.eq_str_bool (yn I q (by simp))
    | int j => obtain ⟨t', rfl⟩ := ry; exact PySem.EqMixed.eq_str_int (yn I q (by simp))
    | str j => obtain ⟨t', rfl⟩ := ry; exact eq_str (yn I q zbu)
    | _ => exact absurd (show false = true from hs) Bool.false_ne_true
  | byt i =>
    obtain ⟨t, rfl⟩ := rx
    cases y with
    | byt j => obtain ⟨t', rfl⟩ := ry; exact PySem.W.eq_bytes (yn I q zcd)
    | _ => exact absurd (show false = true from hs) Bool.false_ne_true
  | _ => cases y <;> exact absurd (show false = true from hs) Bool.false_ne_true
theorem mm : OpR X (compareOp .NotEq) rNe := by
  intro pins s σ H x y v u Q I rx ry h;obtain ⟨hs, q⟩ := h
  cases x with
  | non =>
    cases rx
    cases y with
    | non => cases ry; exact PySem.EqNone.ne_none_none (yn I q (by simp))
    | bl j => cases ry; exact PySem.EqNone.ne_none_bool (yn I q (by simp))
    | int j => obtain ⟨t', rfl⟩ := ry; exact PySem.EqNone.ne_none_int (yn I q (by simp))
    | str j => obtain ⟨t', rfl⟩ := ry; exact PySem.EqNone.ne_none_str (yn I q (by simp))
    | _ => exact absurd (show false = true from hs) Bool.false_ne_true
  | bl i =>
    cases rx
    cases y with
    | non => cases ry; exact PySem.EqNone.ne_bool_none (yn I q (by simp))
    | bl j => cases ry; exact ne_bool (yn I q (congrArg not zem))
    | str j => obtain ⟨t', rfl⟩ := ry; exact PySem.EqMixed.ne_bool_str (yn I q (by simp))
    | _ => exact absurd (show false = true from hs) Bool.false_ne_true
  | int i =>
    obtain ⟨t, rfl⟩ := rx
    cases y with
    | non => cases ry; exact PySem.EqNone.ne_int_none (yn I q (by simp))
    | int j => obtain ⟨t', rfl⟩ := ry; exact ne_int (yn I q (congrArg not zbp))
    | str j => obtain ⟨t', rfl⟩ := ry; exact PySem.EqMixed.ne_int_str (yn I q (by simp))
    | _ => exact absurd (show false = true from hs) Bool.false_ne_true
  | str i =>
    obtain ⟨t, rfl⟩ := rx
    cases y with
    | non => cases ry; exact PySem.EqNone.ne_str_none (yn I q (by simp))
    | bl j => cases ry; exact PySem.EqMixed.ne_str_bool (yn I q (by simp))
    | int j => obtain ⟨t', rfl⟩ := ry; exact PySem.EqMixed.ne_str_int (yn I q (by simp))
    | str j => obtain ⟨t', rfl⟩ := ry; exact ne_str (yn I q (congrArg not zbu))
    | _ => exact absurd (show false = true from hs) Bool.false_ne_true
  | byt i =>
    obtain ⟨t, rfl⟩ := rx
    cases y with
    | byt j => obtain ⟨t', rfl⟩ := ry; exact PySem.W.ne_bytes (yn I q (congrArg not zcd))
    | _ => exact absurd (show false = true from hs) Bool.false_ne_true
  | _ => cases y <;> exact absurd (show false = true from hs) Bool.false_ne_true
theorem jy : OpR X (compareOp .Lt) (rI0 fun i j => .bl (decide (i < j))) := opB0 fun _ _ _ _ _ _ _ q => lt_int q
theorem fj : OpR X (compareOp .LtE) (rI0 fun i j => .bl (decide (i <= j))) := opB0 fun _ _ _ _ _ _ _ q => le_int q
theorem bg : OpR X (compareOp .Gt) (rI0 fun i j => .bl (decide (j < i))) := opB0 fun _ _ _ _ _ _ _ q => gt_int q
theorem zdm : OpR X (compareOp .GtE) (rI0 fun i j => .bl (decide (j <= i))) := opB0 fun _ _ _ _ _ _ _ q => ge_int q
theorem op_isN : OpR X (compareOp .Is) (fun x y H Q => y = .non /\ Q (.bl (decide (x = .non))) H) := by
  intro pins s σ H x y v u Q I rx ry h;obtain ⟨rfl, q⟩ := h;cases ry;refine is_none_gen (yn I q ?_)
  cases x <;> first
    | (cases rx; rfl)
    | (obtain ⟨t, rfl⟩ := rx; rfl)
theorem el : OpR X (compareOp .IsNot) (fun x y H Q => y = .non /\ Q (.bl (!decide (x = .non))) H) := by
  intro pins s σ H x y v u Q I rx ry h;obtain ⟨rfl, q⟩ := h;cases ry;refine isnot_none_gen (yn I q ?_)
  cases x <;> first
    | (cases rx; rfl)
    | (obtain ⟨t, rfl⟩ := rx; rfl)
theorem OpR.or {f : Value -> Value -> Sem Value} {r r' : R2} (h : OpR X f r) (h' : OpR X f r') : OpR X f (fun x y H Q => r x y H Q \/ r' x y H Q) := by
  intro pins s σ H x y v u Q I rx ry q
  rcases q with q | q
  . exact h pins s σ H x y v u Q I rx ry q
  . exact h' pins s σ H x y v u Q I rx ry q
theorem ye (b : Expr) {op : CmpOp} (h : op ≠ .In := by decide) (h2 : op ≠ .NotIn := by decide) : behindInMarks op b = false := by
  have e1 : (op == CmpOp.In) = false := by cases op <;> first | rfl | exact absurd rfl h
  have e2 : (op == CmpOp.NotIn) = false := by cases op <;> first | rfl | exact absurd rfl h2
  cases b <;> simp [behindInMarks, e1, e2]
theorem v9 {op : CmpOp} {r : R2} (ho : OpR X (compareOp op) r) (ha : PE X a ta) (hb : PE X b tb) (hm : behindInMarks op b = false) : PE X (.Compare a [op] [b] pos) (tOp r ta tb) := by
  intro pins s σ H Q I h;exact wpAny_Compare1 (binT ha hb I h fun v u s2 x y H2 I2 rx ry q => ho pins s2 σ H2 x y v u Q I2 rx ry q) hm
def zdq (t : TE) : TT := fun σ H Q => t σ H fun x H' => ∃ k, x = .bl k /\ Q k H'
theorem yf {op : CmpOp} {r : R2} (ho : OpR X (compareOp op) r) (ha : PE X a ta) (hb : PE X b tb) (hm : behindInMarks op b = false) : PT X (.Compare a [op] [b] pos) (zdq (tOp r ta tb)) := by
  intro pins s σ H Q I h
  refine wpAny_isTrue_Compare1 (thn (ha pins s σ H _ I h) fun v s1 ⟨x, H1, I1, r1, q1⟩ => thn (hb pins s1 σ H1 _ I1 q1) fun u s2 ⟨y, H2, I2, r2, q2⟩ =>
    thn (ho pins s2 σ H2 x y v u _ I2 r1 r2 q2) fun c s3 ⟨z, H3, I3, r3, k, e, q3⟩ => ?_) hm
  subst e;cases r3;exact wpAny_truthy_bool ⟨H3, I3, q3⟩
def aa (r r' : R2) (ta tb tc : TE) : TE := fun σ H Q => ta σ H fun x H1 => tb σ H1 fun y H2 => r x y H2 fun z H3 => ∃ k, z = .bl k /\
  (if k = true then tc σ H3 fun w' H4 => r' y w' H4 Q else Q (.bl false) H3)
theorem zgw {op op' : CmpOp} {r r' : R2} (ho : OpR X (compareOp op) r) (ho' : OpR X (compareOp op') r') (ha : PE X a ta) (hb : PE X b tb) (hc : PE X c tc)
    (hm : lastMarks [op, op'] [b, c] = false := by with_unfolding_all rfl) : PE X (.Compare a [op, op'] [b, c] pos) (aa r r' ta tb tc) := by
  intro pins s σ H Q I h
  refine Compare_chain (thn (ha pins s σ H _ I h) fun v s1 ⟨x, H1, I1, r1, q1⟩ => chain_link (thn (hb pins s1 σ H1 _ I1 q1) fun u s2 ⟨y, H2, I2, r2, q2⟩ =>
    thn (ho pins s2 σ H2 x y v u _ I2 r1 r2 q2) fun d s3 ⟨z, H3, I3, r3, k, e, q3⟩ => ?_)) hm
  subst e;cases r3;refine wpAny_truthy_bool ?_
  cases k with
  | false => exact ite_ff ⟨.bl false, H3, I3, rfl, q3⟩
  | true => exact ite_tt (chain_last (thn (hc pins s3 σ H3 _ I3 q3) fun w' s4 ⟨z', H4, I4, r4, q4⟩ => ho' pins s4 σ H4 y z' u w' Q I4 r2 r4 q4))
theorem za1 {op op' : CmpOp} {r r' : R2} (ho : OpR X (compareOp op) r) (ho' : OpR X (compareOp op') r') (ha : PE X a ta) (hb : PE X b tb) (hc : PE X c tc)
    (hm : lastMarks [op, op'] [b, c] = false := by with_unfolding_all rfl) : PT X (.Compare a [op, op'] [b, c] pos) (zdq (aa r r' ta tb tc)) := by
  intro pins s σ H Q I h
  refine isTrue_chain (thn (ha pins s σ H _ I h) fun v s1 ⟨x, H1, I1, r1, q1⟩ => test_link (thn (hb pins s1 σ H1 _ I1 q1) fun u s2 ⟨y, H2, I2, r2, q2⟩ =>
    thn (ho pins s2 σ H2 x y v u _ I2 r1 r2 q2) fun d s3 ⟨z, H3, I3, r3, k, e, q3⟩ => ?_)) hm
  subst e;cases r3;refine wpAny_truthy_bool ?_
  cases k with
  | false =>
    obtain ⟨k', e', q'⟩ := q3;cases e';exact ite_ff ⟨H3, I3, q'⟩
  | true =>
    refine ite_tt (test_last (thn (hc pins s3 σ H3 _ I3 q3) fun w' s4 ⟨z', H4, I4, r4, q4⟩ => thn (ho' pins s4 σ H4 y z' u w' _ I4 r2 r4 q4) fun d' s5 ⟨z2, H5, I5, r5, k2, e2, q5⟩ => ?_));subst e2;cases r5;exact wpAny_truthy_bool ⟨H5, I5, q5⟩
theorem o9 : (sizeLine : Nat) < 2 ^ 63 := by rw [sizeLine_eq]; decide
theorem gx : OpR X (binaryOp .Add) (fun x y H Q => ∃ i j, x = .str i /\ y = .str j /\ i.length + j.length <= sizeLine /\ Q (.str (i ++ j)) H) := by
  intro pins s σ H x y v u Q I rx ry h;obtain ⟨i, j, rfl, rfl, hz, q⟩ := h;obtain ⟨t, rfl⟩ := rx;obtain ⟨t', rfl⟩ := ry;exact add_str (fun t' tk => ⟨.str (i ++ j), H, I.tok _, ⟨_, rfl⟩, q⟩) hz
theorem sv {x : V} {us : List Value} (r : Vals [x] us) : ∃ u, us = [u] /\ RelV x u := by
  cases r with
  | cons r1 r2 => cases r2; exact ⟨_, rfl, r1⟩
theorem vals2 {x y : V} {us : List Value} (r : Vals [x, y] us) : ∃ u w', us = [u, w'] /\ RelV x u /\ RelV y w' := by
  cases r with
  | cons r1 r2 =>
    cases r2 with
    | cons r3 r4 => cases r4; exact ⟨_, _, rfl, r1, r3⟩
theorem zg0 : CallR X (.builtin "abs") (fun xs H Q => ∃ i, xs = [.int i] /\ Q (.int (if i < 0 then -i else i)) H) := by
  intro pins s σ H xs us Q I r h;obtain ⟨i, rfl, q⟩ := h;obtain ⟨u, rfl, t, rfl⟩ := sv r;exact call_abs_int fun u tk => ⟨.int (if i < 0 then -i else i), H, I.tok _, ⟨_, rfl⟩, q⟩
theorem zfd (hc : X.calm = true) : CallR X (.builtin "max") (fun xs H Q => ∃ i j, xs = [.int i, .int j] /\ Q (.int (if j > i then j else i)) H) := by
  intro pins s σ H xs us Q I r h;obtain ⟨i, j, rfl, q⟩ := h;obtain ⟨u, w', rfl, ⟨t, rfl⟩, ⟨t', rfl⟩⟩ := vals2 r;refine max_two_ints (I.ok.hd hc) fun h' tk k => ⟨_, H, I.kept k, ?_, q⟩
  by_cases hj : j > i
  . rw [if_pos hj, if_pos hj]; exact ⟨_, rfl⟩
  . rw [if_neg hj, if_neg hj]; exact ⟨_, rfl⟩
theorem zfo (hc : X.calm = true) : CallR X (.builtin "min") (fun xs H Q => ∃ i j, xs = [.int i, .int j] /\ Q (.int (if j < i then j else i)) H) := by
  intro pins s σ H xs us Q I r h;obtain ⟨i, j, rfl, q⟩ := h;obtain ⟨u, w', rfl, ⟨t, rfl⟩, ⟨t', rfl⟩⟩ := vals2 r;refine min_two_ints (I.ok.hd hc) fun h' tk k => ⟨_, H, I.kept k, ?_, q⟩
  by_cases hj : j < i
  . rw [if_pos hj, if_pos hj]; exact ⟨_, rfl⟩
  . rw [if_neg hj, if_neg hj]; exact ⟨_, rfl⟩
theorem zfc : CallR X (.type "int") (fun xs H Q => (∃ i, xs = [.int i] /\ Q (.int i) H) \/ ∃ k, xs = [.bl k] /\ Q (.int (if k then 1 else 0)) H) := by
  intro pins s σ H xs us Q I r h
  rcases h with ⟨i, rfl, q⟩ | ⟨k, rfl, q⟩
  . obtain ⟨u, rfl, t, rfl⟩ := sv r
    exact call_int_int ⟨.int i, H, I, ⟨_, rfl⟩, q⟩
  . obtain ⟨u, rfl, r1⟩ := sv r
    cases r1;exact call_int_bool ⟨.int (if k then 1 else 0), H, I.tok _, ⟨_, rfl⟩, q⟩
end
end L2
namespace L2
open PySem PySem.Spec PyProof.Rows
structure ObjM (h : Heap) (x dx C : Addr) (mA : Str -> Option Value) : Prop where
  obj : h.get? x = some (PySem.W.instObj C dx)
  ns : h.Ns1 dx mA
  ne : dx ≠ x
theorem zf6 {h : Heap} {dx : Addr} {mA : Str -> Option Value} (n : h.Ns1 dx mA) : ∃ od, h.get? dx = some od /\ ∀ name, PySem.W.lookIn name od = some (mA name) := by
  obtain ⟨o, es, ep, ho, hd, hk, _, hm⟩ := n;refine ⟨o, ho, fun name => ?_⟩;have e := hm name;unfold nsFind findBy at e;rw [<- Array.find?_toList] at e;unfold PySem.W.lookIn;rw [hd];dsimp only
  split
  . rename_i y q
    rw [q] at e;exact congrArg some e
  . rename_i q
    rw [q] at e
    have a : es.toList.any (·.refKey) = false := by
      rw [List.any_eq_false];intro y hy;obtain ⟨z, t, hkey⟩ := hk y (Array.mem_toList_iff.mp hy);simp [DictEntry.refKey, hkey]
    have a' : ¬ es.toList.any (·.refKey) = true := by rw [a]; exact Bool.false_ne_true
    rw [if_neg a'];exact congrArg some e
theorem ObjM.look {h : Heap} {x dx C : Addr} {mA : Str -> Option Value} (I : ObjM h x dx C mA) : ∃ od, PySem.W.InstAt h x (PySem.W.instObj C dx) C (some od) /\ ∀ name, PySem.W.lookIn name od = some (mA name) :=
  let ⟨od, ho, hl⟩ := zf6 I.ns
  ⟨od, ⟨I.obj, rfl, rfl, ho⟩, hl⟩
section
variable {prog : Program} {w : World} {A : Around} {E : Value -> Shared -> Prop} {s : Shared} {K : Fg} {x dx C f : Addr} {mA : Str -> Option Value} {name : Str} {v : Value}
end
theorem RelO.some_of {v : V} {o : Option Value} (r : RelO (some v) o) : ∃ u, o = some u /\ RelV v u := by
  cases o with
  | none => exact (show False from r).elim
  | some u => exact ⟨u, rfl, r⟩
section
variable {P : Program} {w : World} {H H' : Hp} {h h' : Heap} {a C dx : Addr} {fs fs' : List (Str × V)}
theorem zhq (hok : HOk P w H h) (e : H a = some (.ins C dx fs)) : ∃ mA, ObjM h a dx C mA /\ (∀ f, RelO (fs.lookup f) (mA f)) /\ PySem.Within mA (fs.map (·.1)) /\ fs.length <= 1000 /\ H dx = some (.own a) := by
  obtain ⟨d, z, ne, ob, mA, n, r, q⟩ := (show ObjOk P w H h a (.ins C dx fs) from hok a _ e);exact ⟨mA, ⟨ob, n, ne⟩, r, q, z, d⟩
end
structure Cls (K : Fg) (C : Addr) : Prop where
  pg : PySem.W.plainGet K C Str.empty = true
  hd : PySem.W.hasDictIn K C = true
  po : PySem.W.plainOver K C = true
  sa : PySem.W.findIn K (.ref C) "__setattr__" = some (some (.builtin "object.__setattr__"))
theorem Cls.get {K : Fg} {C : Addr} (c : Cls K C) (f : Str) : PySem.W.plainGet K C f = true := c.pg
section
variable {X : Cx} {pins : List (Addr × Obj)} {σ : St} {H : Hp} {s : Shared} {a C dx : Addr} {fs : List (Str × V)} {f : Str} {v : V} {A : Around} {E : Value -> Shared -> Prop}
theorem Inv.made (I : Inv X pins σ H s) : Inv X pins σ (upd (upd H s.heap.objs.size (.own (s.heap.objs.size + 1))) (s.heap.objs.size + 1) (.ins C s.heap.objs.size []))
    { s with heap := (s.heap.push PySem.W.emptyDict).push (PySem.W.instObj C s.heap.objs.size) } := by
  have e1 : (s.heap.push PySem.W.emptyDict).get? s.heap.objs.size = some PySem.W.emptyDict := Heap.get?_push_size s.heap rfl
  have e2 : ((s.heap.push PySem.W.emptyDict).push (PySem.W.instObj C s.heap.objs.size)).get? (s.heap.objs.size + 1) = some (PySem.W.instObj C s.heap.objs.size) := by
    have := Heap.get?_push_size (s.heap.push PySem.W.emptyDict) (o := PySem.W.instObj C s.heap.objs.size) rfl
    rwa [Heap.size_push] at this
  have e3 : (s.heap.push PySem.W.emptyDict).Ns s.heap.objs.size (fun _ => none) := ⟨PySem.W.emptyDict, #[], _, e1, rfl, (fun e he => absurd he (by simp)), fun _ => rfl⟩;have I1 := I.laid (a := s.heap.objs.size) (o := .own (s.heap.objs.size + 1)) (h' := s.heap.push PySem.W.emptyDict) (t' := s.toks) (fun b u q => Heap.get?_push_of_some _ q) (Zm _) ⟨_, e1⟩;refine I1.laid (a := s.heap.objs.size + 1) (o := .ins C s.heap.objs.size []) (t' := s.toks) (fun b u q => Heap.get?_push_of_some _ q) (Nat.le_of_eq (Heap.size_push _ _)) ?_;have ne : s.heap.objs.size ≠ s.heap.objs.size + 1 := Zs (YB _);refine ⟨by rw [zx ne, zg], ZE _, ne, e2, fun _ => none, (Heap.Ns1.of_empty e3).at fun o q => Heap.get?_push_of_some _ q, fun _ => True.intro, fun y hy => absurd rfl hy⟩
end
section
variable {X : Cx} {o e value : Expr} {f : Str} {pos pos' tpos : Pos} {ta tv : TE}
end
section
variable {X : Cx} {pins : List (Addr × Obj)} {σ : St} {H : Hp} {s : Shared} {A : Around} {E : Value -> Shared -> Prop} {Q : Value -> Shared -> Prop} {c : Value} {b : Bool}
inductive TyOf (K : Fg) (H : Hp) : V -> Value -> Prop where
  | non : TyOf K H .non (.type "NoneType")
  | bl (x : Bool) : TyOf K H (.bl x) (.type "bool")
  | int (i : Int) : TyOf K H (.int i) (.type "int")
  | str (x : Str) : TyOf K H (.str x) (.type "str")
  | flt (x : UInt64) : TyOf K H (.flt x) (.type "float")
  | lst {a : Addr} {xs : List V} (e : H a = some (.lst xs)) : TyOf K H (.ref a) (.type "list")
  | frz {a : Addr} {o : Obj} {xs : List V} (e : H a = some (.frz o (.lst xs))) : TyOf K H (.ref a) (.type "list")
  | tup {a : Addr} {xs : List V} (e : H a = some (.tup xs)) : TyOf K H (.ref a) (.type "tuple")
  | dK {a : Addr} {kvs : List (Key × V)} (e : H a = some (.dK kvs)) : TyOf K H (.ref a) (.type "dict")
  | dT {a : Addr} {kvs : List (List Key × V)} (e : H a = some (.dT kvs)) : TyOf K H (.ref a) (.type "dict")
  | ins {a C dx : Addr} {fs : List (Str × V)} (e : H a = some (.ins C dx fs)) (cl : Cls K C) (ha : PySem.W.findIn K (.ref C) "__class__" = some (some (.builtin "object.__class__")))
      (hn : PySem.W.specialIn K (.builtin "object.__class__") "__get__" = some (some (.builtin "getset_descriptor.__get__"))) (htk : PySem.W.takesIn K (.builtin "object.__class__") = some true)
      (hm : PySem.W.mroIn K C (.type "object") = some true) : TyOf K H (.ref a) (.ref C)
theorem zep {x : V} {u t : Value} (I : Inv X pins σ H s) (rx : RelV x u) (ty : TyOf X.K H x t) (e : PySem.W.kitOne X.K t c = some b) (h : ∀ tk, Q (.bool b) { s with toks := tk }) :
    wpAny (model X.prog X.w) A (call (.builtin "isinstance") [u, c]) Q E s := by
  cases ty with
  | non => cases (show u = Value.none from rx); exact PySem.W.kia_one PySem.W.kitx_none I.kIn True.intro e (fun z => nomatch z) h
  | bl y => cases (show u = Value.bool y from rx); exact PySem.W.kia_one PySem.W.kitx_bool I.kIn True.intro e (fun z => nomatch z) h
  | int i => obtain ⟨t, q⟩ := (show ∃ t, u = Value.int i t from rx); cases q; exact PySem.W.kia_one PySem.W.kitx_int I.kIn True.intro e (fun z => nomatch z) h
  | str y => obtain ⟨t, q⟩ := (show ∃ t, u = Value.str y t from rx); cases q; exact PySem.W.kia_one PySem.W.kitx_str I.kIn True.intro e (fun z => nomatch z) h
  | flt y => obtain ⟨t, q⟩ := (show ∃ t, u = Value.float y t from rx); cases q; exact PySem.W.kia_one PySem.W.kitx_float I.kIn True.intro e (fun z => nomatch z) h
  | @lst a xs ea =>
    cases (show u = Value.ref a from rx);obtain ⟨_, _, n, _, h1⟩ := (show ObjOk X.prog X.w H s.heap a (.lst xs) from I.hok a _ ea);exact PySem.W.kia_one PySem.W.kitx_list I.kIn ⟨_, h1, rfl⟩ e (fun z => nomatch z) h
  | @frz a ob xs ea =>
    cases (show u = Value.ref a from rx);obtain ⟨_, _, _, n, _, h1⟩ := (show ObjOk X.prog X.w H s.heap a (.frz ob (.lst xs)) from I.hok a _ ea);exact PySem.W.kia_one PySem.W.kitx_list I.kIn ⟨_, h1, rfl⟩ e (fun z => nomatch z) h
  | @tup a xs ea =>
    cases (show u = Value.ref a from rx);obtain ⟨_, _, _, p⟩ := (show ObjOk X.prog X.w H s.heap a (.tup xs) from I.hok a _ ea);obtain ⟨o, h1, h2, _⟩ := p;exact PySem.W.kia_one PySem.W.kitx_tuple I.kIn ⟨o, h1, h2⟩ e (fun z => nomatch z) h
  | @dK a kvs ea =>
    cases (show u = Value.ref a from rx);obtain ⟨_, _, vs, _, p⟩ := (show ObjOk X.prog X.w H s.heap a (.dK kvs) from I.hok a _ ea);obtain ⟨o, es, ep, h1, h2, _⟩ := p;exact PySem.W.kia_one PySem.W.kitx_dict I.kIn ⟨o, h1, h2.1⟩ e (fun z => nomatch z) h
  | @dT a kvs ea =>
    cases (show u = Value.ref a from rx);obtain ⟨_, _, xs, _, o, es, ep, h1, h2, _⟩ := (show ObjOk X.prog X.w H s.heap a (.dT kvs) from I.hok a _ ea);exact PySem.W.kia_one PySem.W.kitx_dict I.kIn ⟨o, h1, h2.1⟩ e (fun z => nomatch z) h
  | @ins a C dx fs ea cl ha hn htk hm =>
    cases (show u = Value.ref a from rx);obtain ⟨mA, O, _⟩ := zhq I.hok ea;obtain ⟨od, J, _⟩ := O.look;exact PySem.W.kia_one (PySem.W.kitx_own (cl.get _) cl.hd ha hn htk hm) I.kIn J e (fun z => nomatch z) h
end
end L2
namespace L2
open PySem PySem.Spec PyProof.Rows
structure Room (k : Nat) (A : Around) : Prop where
  hd : A.handled = none
  dp : A.depth + 3 * k + 5 < recursionLimit
  un : A.units + 16 * k + 200 < cLine
theorem Room.mono {j k : Nat} {A : Around} (r : Room k A) (h : j <= k) : Room j A := ⟨r.hd, by have := r.dp; omega, by have := r.un; omega⟩
theorem Room.deeper {k : Nat} {A : Around} (r : Room (k + 1) A) (env : Env) : Room k (A.deeper env) :=
  ⟨r.hd, by have := r.dp; show A.depth + 1 + 3 * k + 5 < _; omega, by have := r.un; show A.units + 3 + 16 * k + 200 < _; omega⟩
theorem Room.in1 {k : Nat} {A : Around} (r : Room (k + 1) A) : Room k A.in1 :=
  ⟨r.hd, by have := r.dp; show A.depth + 3 * k + 5 < _; omega, by have := r.un; show A.units + 1 + 16 * k + 200 < _; omega⟩
theorem Room.depth {k : Nat} {A : Around} (r : Room k A) : A.depth < recursionLimit := by have := r.dp; omega
theorem Room.units {k : Nat} {A : Around} (r : Room k A) : A.units + 64 < cLine := by have := r.un; omega
def tNil : TA := fun _ H Q => Q [] H
def zd7 (ta : TE) (tr : TA) : TA := fun σ H Q => ta σ H fun x H1 => tr σ H1 fun xs H2 => Q (x :: xs) H2
section
variable {X : Cx} {e : Expr} {es : List Expr} {te : TE} {t : TA} {pos : Pos}
theorem zb : PA X [] tNil := fun _ _ _ _ H Q I h => Calls.spliced_nil ⟨[], H, I, .nil, h⟩
theorem za (ha : PE X e te) (hr : PA X es t) (hs : starEach (e :: es) X.env = (false, eval e X.env) :: starEach es X.env := by rfl) : PA X (e :: es) (zd7 te t) := by
  intro pos pins s σ H Q I h;rw [hs]
  show wpAny _ _ (spliced ((false, eval e X.env) :: backTo pos (starEach es X.env))) _ _ s
  refine Calls.spliced_cons (thn (ha pins s σ H _ I h) fun u s1 ⟨x, H1, I1, r1, q1⟩ => ?_);exact thn (hr pos pins s1 σ H1 _ I1 q1) fun us s2 ⟨xs, H2, I2, r2, q2⟩ => ⟨x :: xs, H2, I2, .cons r1 r2, q2⟩
def tTup (t : TA) : TE := fun σ H Q => t σ H fun xs H1 => xs.length <= sizeLine /\ ∀ p, H1 p = none -> Q (.ref p) (upd H1 p (.tup xs))
def tLst (t : TA) : TE := fun σ H Q => t σ H fun xs H1 => xs.length <= sizeLine /\ ∀ p, H1 p = none -> Q (.ref p) (upd H1 p (.lst xs))
theorem y7 {x1} (h : PA X es t) : PE X (.Tuple es x1 pos) (tTup t) := by
  intro pins s σ H Q I hq;refine wpAny_Tuple_spliced (thn (h pos pins s σ H _ I hq) fun us s1 ⟨xs, H1, I1, r, z, q⟩ => ⟨by rw [<- r.length]; exact z, ?_⟩);have hf : H1 s1.heap.objs.size = none := I1.hok.fresh (Zm _);refine ⟨.ref s1.heap.objs.size, upd H1 s1.heap.objs.size (.tup xs), I1.laid (t' := s1.toks) (fun b u e => Heap.get?_push_of_some _ e) (Zm _) ?_, rfl, q _ hf⟩;exact ⟨z, us, r, ⟨_, Heap.get?_push_size _ rfl, rfl, _, rfl, rfl⟩⟩
theorem xm (h : PA X es t) : PE X (.List es pos) (tLst t) := by
  intro pins s σ H Q I hq;refine wpAny_List_spliced (thn (h pos pins s σ H _ I hq) fun us s1 ⟨xs, H1, I1, r, z, q⟩ => ⟨by rw [<- r.length]; exact z, ?_⟩);have hf : H1 s1.heap.objs.size = none := I1.hok.fresh (Zm _);refine ⟨.ref s1.heap.objs.size, upd H1 s1.heap.objs.size (.lst xs), I1.laid (t' := s1.toks) (fun b u e => Heap.get?_push_of_some _ e) (Zm _) ?_, rfl, q _ hf⟩;exact ⟨z, us, 0, r, Heap.get?_push_size _ rfl⟩
end
abbrev Sp := List V -> Hp -> VK -> XK -> Prop
abbrev CXT := List Env -> Hp -> Shared -> XK -> Value -> Shared -> Prop
structure Env0 (P : Program) (w : World) (K : Fg) (mg : Str -> Option Value) (base : Heap) (A : Around) (outer : List Env) (s : Shared) (H : Hp) : Prop where
  frames : A.frames = some outer
  mod : Mod K mg base
  bs : ∀ b o, base.get? b = some o -> s.heap.get? b = some o /\ H b = none
  bsz : base.objs.size <= s.heap.objs.size
  funs : s.heap.FunFrames base outer
  frf : ∀ b ∈ frs outer, H b = none
  hok : HOk P w H s.heap
  bare : AllBare s.gens
def CE (outer : List Env) (P : Program) (w : World) (H : Hp) (s : Shared) (Q : VK) (u : Value) (s' : Shared) : Prop :=
  ∃ v H', s'.os = s.os /\ AllBare s'.gens /\ Un (frs outer) [] H H' s.heap s'.heap /\ HOk P w H' s'.heap /\ RelV v u /\ Q v H'
def CR (CX : CXT) (outer : List Env) (P : Program) (w : World) (H : Hp) (s : Shared) (Q : VK) (E : XK) (r : Result) (s' : Shared) : Prop :=
  match r with
  | .ok (.ret u) => CE outer P w H s Q u s'
  | .ok _ => False
  | .error e => CX outer H s E e s'
structure FnOk (P : Program) (w : World) (K : Fg) (mg : Str -> Option Value) (base : Heap) (CX : CXT) (k : Nat) (f : Addr) (fd : FuncData) (ps : List Str) (sp : Sp) : Prop where
  len : ∀ vs H Q E, sp vs H Q E -> vs.length = ps.length
  run : ∀ (A : Around) (outer : List Env) (s : Shared) (H : Hp) (args : Args) (us : List Value) (vs : List V) (Q : VK) (E : XK), Room k A -> Env0 P w K mg base A outer s H -> BindsTo s fd args (ps.zip us) -> Vals vs us -> sp vs H Q E ->
    codeAny (model P w) A (.call (.ref f) args) (CR CX outer P w H s Q E) s
theorem FnOk.mono {P : Program} {w : World} {K : Fg} {mg : Str -> Option Value} {base : Heap} {CX : CXT} {j k : Nat} {f : Addr} {fd : FuncData} {ps : List Str} {sp : Sp} (F : FnOk P w K mg base CX j f fd ps sp) (h : j <= k) :
    FnOk P w K mg base CX k f fd ps sp := ⟨F.len, fun A outer s H args us vs Q E hr => F.run A outer s H args us vs Q E (hr.mono h)⟩
theorem FnOk.imp {P : Program} {w : World} {K : Fg} {mg : Str -> Option Value} {base : Heap} {CX : CXT} {k : Nat} {f : Addr} {fd : FuncData} {ps : List Str} {sp sp' : Sp} (F : FnOk P w K mg base CX k f fd ps sp)
    (h : ∀ vs H Q E, sp' vs H Q E -> sp vs H Q E) : FnOk P w K mg base CX k f fd ps sp' :=
  ⟨fun vs H Q E q => F.len vs H Q E (h _ _ _ _ q), fun A outer s H args us vs Q E hr he hb hv hs => F.run A outer s H args us vs Q E hr he hb hv (h _ _ _ _ hs)⟩
theorem Env0.in1 {P : Program} {w : World} {K : Fg} {mg : Str -> Option Value} {base : Heap} {A : Around} {outer : List Env} {s : Shared} {H : Hp} (e : Env0 P w K mg base A outer s H) :
    Env0 P w K mg base A.in1 outer s H := ⟨e.frames, e.mod, e.bs, e.bsz, e.funs, e.frf, e.hok, e.bare⟩
section
variable {X : Cx} {pins : List (Addr × Obj)} {σ : St} {H : Hp} {s s' : Shared}
theorem Inv.env0 (I : Inv X pins σ H s) : Env0 X.prog X.w X.K X.mg X.base X.A X.stack s H :=
  ⟨I.ok.frames, I.ok.mod, I.bs, Zd I.ok.bsz I.sz, I.stack, I.stkFree, I.hok, I.bare⟩
theorem Inv.after {Q : VK} {u : Value} (I : Inv X pins σ H s) (h : CE X.stack X.prog X.w H s Q u s') : EP X pins σ Q u s' := by
  obtain ⟨v, H', os, bare, un, hok, r, q⟩ := h;obtain ⟨hh, g, d, t, os'⟩ := s';obtain rfl : os' = s.os := os;exact ⟨v, H', I.call (h' := hh) (g' := g) (d' := d) (t' := t) (ch := []) un hok bare (fun b z => absurd z (by simp)), r, q⟩
end
def bd (sp : Sp) (dvs : List V) (E : XK) (t : TA) : TE := fun σ H Q => t σ H fun vs H1 => sp (vs ++ dvs) H1 Q E
def Binds (K : Fg) (fd : FuncData) (ps : List Str) (ds : List Value) : Prop :=
  ∀ (s : Shared) (us : List Value), K.In s.heap -> (us ++ ds).length = ps.length -> BindsTo s fd ⟨us, []⟩ (ps.zip (us ++ ds))
theorem Binds.all {K : Fg} {fd : FuncData} {ps : List Str} (h : ∀ us : List Value, us.length = ps.length -> bindArgs fd ⟨us, []⟩ = pure (ps.zip us)) : Binds K fd ps [] := fun s us _ hl => by
  rw [Ye] at hl ⊢;exact .of_eq (h us hl)
def jc (CX : CXT) (X : Cx) (E : XK) : Prop := ∀ (pins : List (Addr × Obj)) (σ : St) (H : Hp) (s : Shared) (e : Value) (s' : Shared), Inv X pins σ H s -> CX X.stack H s E e s' -> X.xe e s'
section
variable {X : Cx} {CX : CXT} {k : Nat} {f C : Addr} {fd : FuncData} {ps : List Str} {sp : Sp} {dvs : List V} {ds : List Value} {E : XK} {x m : Str} {p pos apos : Pos} {e o : Expr} {es : List Expr} {ta : TE} {t : TA}
theorem run_fn {pins : List (Addr × Obj)} {σ : St} {H : Hp} {s : Shared} {Q : VK} {us : List Value} {vs : List V} (F : FnOk X.prog X.w X.K X.mg X.base CX k f fd ps sp) (hr : Room k X.A) (hb : Binds X.K fd ps ds) (hd : Vals dvs ds) (hx : jc CX X E)
    (I : Inv X pins σ H s) (r : Vals vs us) (h : sp (vs ++ dvs) H Q E) : wpAny (model X.prog X.w) X.A (call (.ref f) us) (EP X pins σ Q) X.xe s := by
  have r2 : Vals (vs ++ dvs) (us ++ ds) := r.append hd;have hl : (us ++ ds).length = ps.length := by rw [<- r2.length]; exact F.len _ _ _ _ h
  refine wpAny_call (codeAny_mono (F.run X.A X.stack s H ⟨us, []⟩ (us ++ ds) (vs ++ dvs) Q E hr I.env0 (hb s us I.kIn hl) r2 h) fun r s' hq => ?_)
  cases r with
  | error e => exact hx pins σ H s e s' I hq
  | ok fl =>
    cases fl with
    | ret u => exact I.after hq
    | next => exact False.elim hq
    | brk => exact False.elim hq
    | cont => exact False.elim hq
theorem zcf (F : FnOk X.prog X.w X.K X.mg X.base CX k f fd ps sp) (hr : Room k X.A) (hg : Gl X x) (hm : X.mg x = some (.ref f)) (hk : PySem.W.keepIn X.K (.ref f) = true) (hb : Binds X.K fd ps ds) (hd : Vals dvs ds) (hx : jc CX X E)
    (ha : PA X (e :: es) t) (hdb : (x == ("__debug__" : Str)) = false := by decide) (he : starEach (e :: es) X.env = (false, eval e X.env) :: starEach es X.env := by rfl) (hpl : (backTo pos (starEach es X.env)).any (·.1) = false := by rfl) :
    PE X (.Call (.Name x p) (e :: es) [] pos) (bd sp dvs E t) := by
  intro pins s σ H Q I h;refine wpAny_Call_Name_kw (j1 I hg hm ?_ hdb);refine PySem.W.callWith_K (h₀ := X.base) I.ok.mod.kin hk (thn (ha pos pins s σ H _ I h) fun us s1 ⟨vs, H1, I1, r, q⟩ => ⟨I1.kIn, ?_⟩) he hpl;exact run_fn F hr hb hd hx I1 r q
end
def PK (X : Cx) (kws : List Keyword) (t : TA) : Prop :=
  ∀ (pos : Pos) (pins : List (Addr × Obj)) (s : Shared) (σ : St) (H : Hp) (Q : List V -> Hp -> Prop), Inv X pins σ H s -> t σ H Q -> wpAny (model X.prog X.w) X.A (evalAll ((backToKw pos (keywordEach kws X.env)).map (·.2))) (AP X pins σ Q) X.xe s
section
variable {X : Cx} {CX : CXT} {k : Nat} {f C : Addr} {fd : FuncData} {ps ks : List Str} {sp : Sp} {E : XK} {x m : Str} {p pos apos kpos : Pos} {e o : Expr} {es : List Expr} {kws : List Keyword} {te ta : TE} {t tk : TA} {nm : Option Str}
theorem pk_nil : PK X [] tNil := fun _ _ _ _ H Q I h => wpAny_evalAll_nil ⟨[], H, I, .nil, h⟩
theorem zh2 (ha : PE X e te) (hr : PK X kws t) : PK X (⟨nm, e, kpos⟩ :: kws) (zd7 te t) := by
  intro pos pins s σ H Q I h
  show wpAny _ _ (evalAll ((do let v <- eval e X.env; standAt pos; pure v) :: (backToKw pos (keywordEach kws X.env)).map (·.2))) _ _ s
  refine wpAny_evalAll_cons (wpAny_bind (thn (ha pins s σ H _ I h) fun u s1 ⟨x, H1, I1, r1, q1⟩ => wpAny_bind (wpAny_standAt (wpAny_pure ?_))));exact thn (hr pos pins s1 σ H1 _ I1 q1) fun us s2 ⟨xs, H2, I2, r2, q2⟩ => ⟨x :: xs, H2, I2, .cons r1 r2, q2⟩
variable {g : List Value -> List Value -> List Value} {gV : List V -> List V -> List V}
end
structure zr (N P : List Str) (sc : Scope) : Prop where
  kind : sc.kind = .function
  co : sc.isCoroutine = false
  gen : sc.isGenerator = false
  nd : N.Nodup
  pre : N.take P.length = P
  par : ∀ x ∈ P, sc.names.lookup x = some .local \/ sc.names.lookup x = some .cell
  nofree : ∀ y ∈ sc.names, y.2 ≠ .free
theorem dz {kindOf : Str -> Option NameKind} {x : Str} : ∀ {binds : List (Str × Value)} {m : Str -> Option Value}, (∀ v, (x, v) ∉ binds) -> bindL kindOf binds m x = m x
  | [], _, _ => rfl
  | (n, v) :: r, m, h => by
    unfold bindL;rw [dz fun w hw => h w (Zv _ hw)]
    split
    . have : x ≠ n := by rintro rfl; exact h v ZA
      simp [this]
    . rfl
theorem cg {kindOf : Str -> Option NameKind} {x : Str} : ∀ {binds : List (Str × Value)} {m : Str -> Option Value}, (∀ v, (x, v) ∉ binds) -> bindC kindOf binds m x = m x
  | [], _, _ => rfl
  | (n, v) :: r, m, h => by
    unfold bindC;rw [cg fun w hw => h w (Zv _ hw)]
    split
    . rfl
    . have : x ≠ n := by rintro rfl; exact h v ZA
      simp [this]
theorem dm {kindOf : Str -> Option NameKind} {x : Str} {v : Value} : ∀ {P : List Str} {vs : List Value} {i : Nat} {m : Str -> Option Value}, P.Nodup -> P[i]? = some x -> vs[i]? = some v -> kindOf x = some .local ->
    bindL kindOf (P.zip vs) m x = some v
  | [], _, _, _, _, h, _, _ => by simp at h
  | _ :: _, [], _, _, _, _, h, _ => by simp at h
  | p :: P, w :: vs, 0, m, nd, h1, h2, hk => by
    simp at h1 h2; subst h1; subst h2
    show bindL kindOf ((p, w) :: P.zip vs) m p = _
    unfold bindL;rw [dz fun v hv => (ZT.mp nd).1 (YU hv).1, if_pos hk];simp
  | p :: P, w :: vs, i + 1, m, nd, h1, h2, hk => by
    show bindL kindOf ((p, w) :: P.zip vs) m x = _
    unfold bindL;exact dm (i := i) (ZT.mp nd).2 (by simpa using h1) (by simpa using h2) hk
theorem dt {kindOf : Str -> Option NameKind} {x : Str} {v : Value} : ∀ {P : List Str} {vs : List Value} {i : Nat} {m : Str -> Option Value}, P.Nodup -> P[i]? = some x -> vs[i]? = some v -> kindOf x ≠ some .local ->
    bindC kindOf (P.zip vs) m x = some v
  | [], _, _, _, _, h, _, _ => by simp at h
  | _ :: _, [], _, _, _, _, h, _ => by simp at h
  | p :: P, w :: vs, 0, m, nd, h1, h2, hk => by
    simp at h1 h2; subst h1; subst h2
    show bindC kindOf ((p, w) :: P.zip vs) m p = _
    unfold bindC;rw [cg fun v hv => (ZT.mp nd).1 (YU hv).1, if_neg hk];simp
  | p :: P, w :: vs, i + 1, m, nd, h1, h2, hk => by
    show bindC kindOf ((p, w) :: P.zip vs) m x = _
    unfold bindC;exact dt (i := i) (ZT.mp nd).2 (by simpa using h1) (by simpa using h2) hk
def start (N : List Str) (vs : List V) : St := vs.map some ++ List.replicate (N.length - vs.length) none
def cxOf (CX : CXT) (P : Program) (w : World) (K : Fg) (mg : Str -> Option Value) (base : Heap) (N : List Str) (qual : Str) (scope : Scope) (f : Addr) (cd : Value) (A : Around) (outer : List Env) (s : Shared) (H : Hp) (E : XK) : Cx where
  prog := P
  w := w
  K := K
  mg := mg
  base := base
  A := A.deeper (envOfC qual scope s.heap.objs.size f cd)
  N := N
  s₀ := s
  H₀ := H
  env := envOfC qual scope s.heap.objs.size f cd
  outer := outer
  stack := envOfC qual scope s.heap.objs.size f cd :: outer
  ex := []
  calm := true
  fn := fun _ => true
  pn := []
  xe := fun e s' => wpAny (model P w) (A.deeper (envOfC qual scope s.heap.objs.size f cd)) (leaving (envOfC qual scope s.heap.objs.size f cd) e) (fun _ s'' => CX outer H s E e s'') (fun e' s'' => CX outer H s E e' s'') s'
theorem bu {sc : Scope} {n : Nat} {x : Str} (h : sc.names.lookup x = some .cell) : ∃ c, (cellsFrom n sc.names []).lookup x = some c := by
  have q := PySem.W.cellsFrom_some sc.names n [] (.inl h);exact Option.isSome_iff_exists.mp q
theorem zey {CX : CXT} {P : Program} {w : World} {K : Fg} {mg : Str -> Option Value} {base : Heap} {N ps : List Str} {qual : Str} {scope : Scope} {f : Addr} {cd : Value} {A : Around} {outer : List Env} {s s1 : Shared} {H : Hp} {E : XK} {us : List Value} {vs : List V}
    (S : zr N ps scope) (hd : A.handled = none) (e0 : Env0 P w K mg base A outer s H) (hl : vs.length = ps.length) (r : Vals vs us)
    (x : InCallC s s.heap.objs.size (bindL (envOfC qual scope s.heap.objs.size f cd).kindOf (ps.zip us) fun _ => none) (cellsFrom (s.heap.objs.size + 1) scope.names []) (bindC (envOfC qual scope s.heap.objs.size f cd).kindOf (ps.zip us) fun _ => none) s1) :
    Inv (cxOf CX P w K mg base N qual scope f cd A outer s H E) [] (start N vs) H s1 := by
  have hpl : ps.length <= N.length := by have := congrArg List.length S.pre; rw [Zj] at this; omega
  obtain ⟨h1, tk, rfl, hk⟩ := x.done;have noA : ∀ b : Addr, b ∉ (cxOf CX P w K mg base N qual scope f cd A outer s H E).ex := fun b z => absurd (show b ∈ ([] : List Addr) from z) (by simp)
  refine ⟨⟨e0.mod, S.kind, rfl, rfl, Zm _, fun y z c h1 h2 => ?_, fun y hy => ?_, fun y c _ h => ?_, fun _ => hd, Around.frames_deeper e0.frames, .inr ⟨rfl, rfl⟩, fun b z => absurd z (noA b), e0.bs, e0.bsz, fun b _ _ => noA b, fun b z => absurd z (noA b), e0.funs, e0.frf⟩,
    rfl, e0.bare, Un.kept hk, ⟨_, x.toInCall.ns, fun i y v h1 h2 h3 => ?_⟩, fun y c h => ⟨_, x.cell y c h⟩, e0.hok.fresh (Zm _), fun y c h => ?_, fun p hp => absurd (show p ∈ ([] : List (Addr × Obj)) from hp) (by simp), e0.hok.kept hk, ?_⟩
  . exact name_of_addr x.apart (PySem.mem_of_lookup h1) (PySem.mem_of_lookup h2)
  . have hy : scope.names.lookup y = some .cell \/ scope.names.lookup y = some .free := hy
    rcases hy with hy | hy
    . exact bu hy
    . exact absurd rfl (S.nofree _ (PySem.mem_of_lookup hy))
  . exact YO (x.above y c (PySem.mem_of_lookup h))
  . have hi : i < vs.length := by
      unfold start at h2
      by_cases hi : i < vs.length
      . exact hi
      . rw [Zf (by simpa using hi)] at h2
        rw [Yw] at h2
        split at h2 <;> cases h2
    have ha : vs[i]? = some v := by
      unfold start at h2;rw [Zg (by simpa using hi), Ze] at h2
      cases e : vs[i]? with
      | none => rw [e] at h2; cases h2
      | some a => rw [e] at h2; cases h2; rfl
    obtain ⟨u, hu, rv⟩ := r.get ha
    have hp : ps[i]? = some y := by
      rw [<- S.pre, Yt (by omega)]; exact h1
    have ndP : ps.Nodup := by rw [<- S.pre]; exact S.nd.sublist (List.take_sublist _ _)
    refine ⟨u, rv, ?_⟩
    rcases S.par y (Zi hp) with k | k
    . exact .inl ⟨k, dm ndP hp hu k⟩
    . obtain ⟨c, e⟩ := bu (n := s.heap.objs.size + 1) k
      refine .inr ⟨.inl k, c, e, ?_⟩;have q := x.cell y c e;rw [dt ndP hp hu (by show scope.names.lookup y ≠ _; rw [k]; decide)] at q;exact q
  . exact e0.hok.fresh (YO (x.above y c (PySem.mem_of_lookup h)))
  . unfold start
    show _ = N.length
    rw [Zo, Za, ZI];omega
theorem fn_of {CX : CXT} {P : Program} {w : World} {K : Fg} {mg : Str -> Option Value} {base : Heap} {k : Nat} {f : Addr} {name qual : Str} {params : Arguments} {body : List Stmt} {scope : Scope} {dV kV doc pm cdv ct oc : Value} {an od : Option Addr}
    {osl : Array (Option Value)} {N ps : List Str} {sp : Sp} (lk : K.lookup f = some ⟨oc, od, .func (PySem.W.fnOf name qual params body scope dV kV doc pm an cdv ct), osl⟩) (hcd : PySem.W.codeIn K cdv qual = true) (S : zr N ps scope)
    (len : ∀ vs H Q E, sp vs H Q E -> vs.length = ps.length)
    (hbody : ∀ (A : Around) (outer : List Env) (s : Shared) (H : Hp) (vs : List V) (Q : VK) (E : XK), Room k (A.deeper (envOfC qual scope s.heap.objs.size f cdv)) -> sp vs H Q E ->
      ∃ t, PSs (cxOf CX P w K mg base N qual scope f cdv A outer s H E) body t /\ t { nx := fun _ H' => Q .non H', rt := Q } (start N vs) H) :
    FnOk P w K mg base CX (k + 1) f (PySem.W.fnOf name qual params body scope dV kV doc pm an cdv ct) ps sp := by
  refine ⟨len, fun A outer s H args us vs Q E hr e0 hb r hsp => ?_⟩;have hl := len _ _ _ _ hsp;have KX : K.In s.heap := e0.mod.kin.keeps fun b o e => (e0.bs b o e).1
  have lim : s.heap.NoLimit := e0.mod.nolimit.keeps fun b o e => (e0.bs b o e).1
  have hkind : ∀ y ∈ ps.zip us, scope.names.lookup y.1 = some .local \/ (scope.names.lookup y.1 = some .cell /\ ((cellsFrom (s.heap.objs.size + 1) scope.names []).lookup y.1).isSome = true) := fun ⟨n, v⟩ hy => by
    rcases S.par n (YU hy).1 with q | q
    . exact .inl q
    . exact .inr ⟨q, PySem.W.cellsFrom_some _ _ _ (.inl q)⟩
  refine codeAny_call_function hr.depth (KX _ _ lk) rfl S.co S.gen rfl (PySem.W.codeRec_of KX hcd) (hb _ _ _ _ ?_);refine wpAny_newFunctionEnv_cells S.kind hkind fun env he s1 x => ?_
  subst he;refine ⟨lim.keeps x.toInCall.keep, codeAny_func ?_⟩;obtain ⟨t, ht, hq⟩ := hbody A outer s H vs Q E (hr.deeper _) hsp;have I : Inv (cxOf CX P w K mg base N qual scope f cdv A outer s H E) [] (start N vs) H s1 := zey S hr.hd e0 hl r x;refine wpAny_mono (ht [] s1 (start N vs) H _ I hq) (fun fl s' hs => ?_) fun e s' hs => hs
  have fin : ∀ {σ' : St} {H' : Hp} {v : V} {u : Value}, Inv (cxOf CX P w K mg base N qual scope f cdv A outer s H E) [] σ' H' s' -> RelV v u -> Q v H' -> CE outer P w H s Q u s' :=
    fun {σ' H' v u} J rv q => ⟨v, H', J.os, J.bare, J.base, J.hok, rv, q⟩
  cases fl with
  | ret u =>
    obtain ⟨v, σ', H', J, rv, q⟩ := hs;exact fin J rv q
  | next =>
    obtain ⟨σ', H', J, q⟩ := hs;exact fin (v := V.non) (u := Value.none) J rfl q
  | brk =>
    obtain ⟨_, _, _, q⟩ := hs;exact False.elim q
  | cont =>
    obtain ⟨_, _, _, q⟩ := hs;exact False.elim q
end L2
namespace L2
open PySem PySem.Spec PyProof.Rows
section
variable {X : Cx} {x : Str} {p pos : Pos} {e : Expr} {es : List Expr} {t : TA} {id T : String} {r : List V -> Hp -> VK -> Prop}
def tCB (r : List V -> Hp -> VK -> Prop) (t : TA) : TE := fun σ H Q => t σ H fun vs H1 => r vs H1 Q
theorem zo (hc : CallR X (.builtin id) r) (hg : Gl X x) (hm : X.mg x = none) (hv : bootBuiltins x = some (.builtin id)) (ha : PA X (e :: es) t) (hn : x ≠ "__name__" := by decide) (hdb : (x == ("__debug__" : Str)) = false := by decide)
    (he : starEach (e :: es) X.env = (false, eval e X.env) :: starEach es X.env := by rfl) (hpl : (backTo pos (starEach es X.env)).any (·.1) = false := by rfl) : PE X (.Call (.Name x p) (e :: es) [] pos) (tCB r t) := by
  intro pins s σ H Q I h;refine wpAny_Call_Name_kw (ul I hg hm hv ?_ hn hdb);exact PyProof.Rows.callWith_builtin1 (thn (ha pos pins s σ H _ I h) fun us s1 ⟨vs, H1, I1, r1, q1⟩ => hc pins s1 σ H1 vs us Q I1 r1 q1) he hpl
theorem xi (hc : CallR X (.type T) r) (hg : Gl X x) (hm : X.mg x = none) (hv : bootBuiltins x = some (.type T)) (ha : PA X (e :: es) t) (hn : x ≠ "__name__" := by decide) (hdb : (x == ("__debug__" : Str)) = false := by decide)
    (he : starEach (e :: es) X.env = (false, eval e X.env) :: starEach es X.env := by rfl) (hpl : (backTo pos (starEach es X.env)).any (·.1) = false := by rfl) : PE X (.Call (.Name x p) (e :: es) [] pos) (tCB r t) := by
  intro pins s σ H Q I h;refine wpAny_Call_Name_kw (ul I hg hm hv ?_ hn hdb);exact PyProof.Rows.callWith_type1 (thn (ha pos pins s σ H _ I h) fun us s1 ⟨vs, H1, I1, r1, q1⟩ => hc pins s1 σ H1 vs us Q I1 r1 q1) he hpl
end
end L2
namespace HT
open PySem PyProof.Rows
section
open PySem.SeqAt
open PySem.AutoSeq1 (wpAny_loadPart')
open PySem.MeetsSeq PySem.MeetsSeq2 PySem.MeetsSeq3
end
section
variable {prog : Program} {w : World} {A : Around} {E : Value -> Shared -> Prop} {s : Shared}
theorem cat_tup {t b : Addr} {vs ws : List Value} {Q : Value -> Shared -> Prop} (ht : IsTup s.heap t vs.toArray) (hb : IsTup s.heap b ws.toArray) (hv : vs ≠ [])
    (h1 : ws = [] -> Q (.ref t) s) (h2 : ws ≠ [] -> Q (.ref s.heap.objs.size) { s with heap := s.heap.push { cls := .type "tuple", data := .seq (vs ++ ws).toArray } })
    (hsz : vs.length + ws.length <= sizeLine) : wpAny (model prog w) A (binaryOp .Add (.ref t) (.ref b)) Q E s := by
  obtain ⟨⟨cls, dd, data, sl⟩, ho, hc, n, hd⟩ := id ht;obtain ⟨⟨cls2, dd2, data2, sl2⟩, ho2, hc2, n2, hd2⟩ := id hb;simp only at hc hd hc2 hd2;subst hc hd hc2 hd2;have e : vs.toArray ++ ws.toArray = (vs ++ ws).toArray := by simp
  by_cases hw : ws = []
  . exact concat_meets ⟨_, ho, rfl⟩ ⟨_, ho2, rfl⟩ noFill_tuple_add seq_tuple_add PySem.F.slot_tuple_add PySem.F.entry_tuple_add (PySem.F.args_tuple_add_2 _ _)
      (tuple_addW1 t b vs.toArray ws.toArray n n2 dd dd2 sl sl2 (by simpa using hv) (by simp [hw])) ⟨ho, ho2, h1 hw⟩
  . refine concat_meets ⟨_, ho, rfl⟩ ⟨_, ho2, rfl⟩ noFill_tuple_add seq_tuple_add PySem.F.slot_tuple_add PySem.F.entry_tuple_add (PySem.F.args_tuple_add_2 _ _)
      (tuple_addW2 t b vs.toArray ws.toArray n n2 dd dd2 sl sl2 (by simpa using hv) (by simpa using hw) (by rw [Zr, Zr]; exact hsz)) ⟨ho, ho2, ?_⟩
    rw [e];exact h2 hw
def sIx (n d : Nat) : Option Int -> Nat
  | none => d
  | some v => if v < 0 then (v + (n : Int)).toNat else min v.toNat n
theorem sIx_none (n d : Nat) : sIx n d none = d := rfl
theorem sIx_nat (n d k : Nat) : sIx n d (some (k : Int)) = min k n := by
  show (if (k : Int) < 0 then ((k : Int) + (n : Int)).toNat else min (k : Int).toNat n) = min k n
  rw [if_neg (by omega), Zw]
theorem sIx_le (n d : Nat) (hd : d <= n) (o : Option Int) : sIx n d o <= n := by
  cases o with
  | none => exact hd
  | some v =>
    show (if v < 0 then (v + (n : Int)).toNat else min v.toNat n) <= n
    by_cases hv : v < 0
    . rw [if_pos hv]; omega
    . rw [if_neg hv]; exact ZB _ _
theorem zcp (v : Int) (n d : Nat) : (if v < 0 then max (v + (n : Int)) 0 else min v (n : Int)) = ((sIx n d (some v) : Nat) : Int) := by
  show (if v < 0 then max (v + (n : Int)) 0 else min v (n : Int)) = (((if v < 0 then (v + (n : Int)).toNat else min v.toNat n) : Nat) : Int)
  by_cases hv : v < 0
  . simp only [if_pos hv]; omega
  . simp only [if_neg hv]; omega
theorem zda (lo hi : Option Int) (n : Nat) : Builtin.Slice.sliceAdjust lo hi 1 (n : Int) = (((sIx n 0 lo : Nat) : Int), ((sIx n n hi : Nat) : Int)) := by
  have h1 : ¬ ((1 : Int) < 0) := by omega
  unfold Builtin.Slice.sliceAdjust;simp only [h1, if_false];refine Prod.ext ?_ ?_
  . cases lo with
    | none => rfl
    | some v => exact zcp v n 0
  . cases hi with
    | none => rfl
    | some v => exact zcp v n n
theorem zdp (i j : Nat) : Builtin.Slice.slicePlaces (i : Int) (j : Int) 1 = j - i := by
  unfold Builtin.Slice.slicePlaces;have h1 : (1 : Int) > 0 := by omega
  simp only [h1, if_true, Int.ediv_one]
  split <;> omega
theorem gj {v : Value} {o : Option Int} {Q : Option Int -> Shared -> Prop} (p : IsPart v o) (h : Q o s) : wpAny (model prog w) A (Builtin.Slice.slicePartIndex v) Q E s := by
  cases p with
  | none => exact slicePart_none h
  | int i t => exact slicePart_int h
theorem nq {sl : Addr} {vl vu : Value} {lo hi : Option Int} {n : Nat} {Q : Int × Int × Nat -> Shared -> Prop} (hs : s.heap.IsSliceOf sl vl vu .none) (pl : IsPart vl lo) (pu : IsPart vu hi)
    (h : Q (((sIx n 0 lo : Nat) : Int), 1, sIx n n hi - sIx n 0 lo) s) : wpAny (model prog w) A (Builtin.Slice.sliceApplied (.ref sl) (pure (n : Int))) Q E s := by
  obtain ⟨os, hos, hcs, hds⟩ := id hs;unfold Builtin.Slice.sliceApplied Builtin.Slice.sliceFields;refine wpAny_bind (wpAny_bind (wpAny_field hos hds (x := vl) rfl (wpAny_bind (wpAny_field hos hds (x := vu) rfl (wpAny_bind (wpAny_field hos hds (x := .none) rfl (wpAny_pure ?_)))))));refine wpAny_bind (slicePart_none ?_)
  show wpAny _ _ (if ((1 : Int) == 0) = true then _ else _) _ _ s
  rw [if_neg (by decide)];refine wpAny_bind (gj pl (wpAny_bind (gj pu (wpAny_bind (wpAny_pure ?_)))))
  show wpAny _ _ (match Builtin.Slice.sliceAdjust lo hi 1 (n : Int) with | (lo, hi) => pure (lo, (1 : Int), Builtin.Slice.slicePlaces lo hi 1)) _ _ s
  rw [zda lo hi n]
  show wpAny _ _ (pure (((sIx n 0 lo : Nat) : Int), (1 : Int), Builtin.Slice.slicePlaces ((sIx n 0 lo : Nat) : Int) ((sIx n n hi : Nat) : Int) 1)) _ _ s
  rw [zdp];exact wpAny_pure h
theorem zg8 (xs : Array Value) (i k : Nat) : ((List.range k).filterMap fun (m : Nat) => xs[((i : Int) + (m : Int) * 1).toNat]?).toArray = ((xs.toList.drop i).take k).toArray := by
  have e : (fun (m : Nat) => xs[((i : Int) + (m : Int) * 1).toNat]?) = fun m => xs[i + m]? := by
    funext m
    have : ((i : Int) + (m : Int) * 1).toNat = i + m := by omega
    rw [this]
  rw [e];have := pick_run xs i k;rw [List.filterMap_map] at this;have e2 : ((fun x => xs[x]?) ∘ fun x => i + x) = fun m => xs[i + m]? := rfl
  rw [e2] at this;rw [this]
theorem getItem_tuple_cut {t sl : Addr} {items : Array Value} {vl vu : Value} {lo hi : Option Int} {Q : Value -> Shared -> Prop} (ht : IsTup s.heap t items) (hs : s.heap.IsSliceOf sl vl vu .none) (pl : IsPart vl lo) (pu : IsPart vu hi)
    (hw : ¬ (sIx items.size 0 lo = 0 /\ sIx items.size items.size hi = items.size))
    (h : Q (.ref s.heap.objs.size) { s with heap := s.heap.push { cls := .type "tuple", data := .seq ((items.toList.drop (sIx items.size 0 lo)).take (sIx items.size items.size hi - sIx items.size 0 lo)).toArray } })
    (hsz : items.size <= sizeLine) : wpAny (model prog w) A (getItem (.ref t) (.ref sl)) Q E s := by
  have htake : sizeOk (.seq ((items.toList.drop (sIx items.size 0 lo)).take (sIx items.size items.size hi - sIx items.size 0 lo)).toArray) := by
    show ((items.toList.drop (sIx items.size 0 lo)).take (sIx items.size items.size hi - sIx items.size 0 lo)).toArray.size <= sizeLine
    rw [Zr, Zj, Yh, ZP];omega
  have hj : sIx items.size items.size hi <= items.size := sIx_le _ _ (Zm _) hi;obtain ⟨os, hos, hcs, hds⟩ := id hs;have hTs : s.TypeIs (.ref sl) "slice" := ⟨os, hos, hcs⟩;unfold getItem
  try with_reducible refine wpAny_holding ?_
  first | refine wpAny_bind (wpAny_pure ?_) | skip
  refine wpAny_bind (wpAny_sequenceKey ht.typeIs (by decide) ?_)
  refine wpAny_bind (wpAny_callSpecial?_slot (name := Str.ofString "__getitem__") ht.typeIs PyProof.Rows.slot_tuple_getitem
    (wpAny_call_entry PyProof.Rows.slot_tuple_getitem ht.typeIs entry_tuple_getitem ?_ (args_tuple_getitem _ _)))
  show wpAny _ _ (Builtin.Tuple.tupleItemsOf (.ref t) >>= _) _ _ s
  refine wpAny_bind (tupleItemsOf_ ht ?_);refine wpAny_bind (wpAny_typeOf hTs ?_);rw [if_pos (by decide)];refine wpAny_bind (nq hs pl pu ?_)
  have hno : ¬ ((((sIx items.size 0 lo : Nat) : Int) == 0 && (1 : Int) == 1 && (sIx items.size items.size hi - sIx items.size 0 lo) == items.size) = true) := by
    intro q;rw [Bool.and_eq_true, Bool.and_eq_true] at q;have q1 : ((sIx items.size 0 lo : Nat) : Int) = 0 := eq_of_beq q.1.1;have q2 : sIx items.size items.size hi - sIx items.size 0 lo = items.size := eq_of_beq q.2;exact hw ⟨by omega, by omega⟩
  show wpAny _ _ (if (((sIx items.size 0 lo : Nat) : Int) == 0 && (1 : Int) == 1 && (sIx items.size items.size hi - sIx items.size 0 lo) == items.size) = true then _ else _) _ _ s
  rw [if_neg hno, zg8]
  first
    | exact wpAny_bind (m := Builtin.Tuple.tupleExact _) (wpAny_newObj_type (wpAny_pure ⟨_, rfl, wpAny_pure h⟩) htake)
    | exact wpAny_bind (m := Builtin.Tuple.tupleExact _) (wpAny_newObj_type (wpAny_bind (wpAny_pure (wpAny_pure ⟨_, rfl, wpAny_pure h⟩))) htake)
    | exact wpAny_bind (wpAny_bind (m := Builtin.Tuple.tupleExact _) (wpAny_newObj_type (wpAny_pure (wpAny_pure ⟨_, rfl, wpAny_pure h⟩)) htake))
    | exact wpAny_bind (wpAny_bind (m := Builtin.Tuple.tupleExact _) (wpAny_newObj_type (wpAny_pure ⟨_, rfl, wpAny_pure h⟩) htake))
end
end HT
namespace L2
open PySem PySem.Spec PyProof.Rows
abbrev TO := St -> Hp -> (Option Int -> Hp -> Prop) -> Prop
def PO (X : Cx) (e : Option Expr) (t : TO) : Prop :=
  ∀ (pins : List (Addr × Obj)) (s : Shared) (σ : St) (H : Hp) (Q : Option Int -> Hp -> Prop), Inv X pins σ H s -> t σ H Q ->
    wpAny (model X.prog X.w) X.A (evalPart e X.env) (fun u s' => ∃ o H', Inv X pins σ H' s' /\ IsPart u o /\ Q o H') X.xe s
def zbo : TO := fun _ H Q => Q none H
def tPart (t : TE) : TO := fun σ H Q => t σ H fun x H1 => ∃ i, x = .int i /\ Q (some i) H1
theorem g9 {ns : List Int} : ∀ {us : List Value}, Vals (ns.map V.int) us -> IntsAre us ns := by
  induction ns with
  | nil => intro us r; rw [YH] at r; cases r; exact .nil
  | cons n ns ih =>
    intro us r;rw [ZL] at r
    cases r with
    | cons r1 r2 =>
      obtain ⟨t, e⟩ := r1;subst e;exact .cons n t (ih r2)
section
variable {X : Cx} {e : Expr} {te : TE} {lo hi : Option Expr} {tl th : TO} {pos p2 : Pos}
theorem rf : PO X none zbo := by
  intro pins s σ H Q I h;rw [evalPart_none];exact wpAny_pure ⟨none, H, I, .none, h⟩
theorem u0 (h : PE X e te) : PO X (some e) (tPart te) := by
  intro pins s σ H Q I hw;rw [evalPart_some];refine thn (h pins s σ H _ I hw) fun u s1 ⟨x, H1, I1, r1, q1⟩ => ?_
  obtain ⟨i, rfl, q⟩ := q1;obtain ⟨t, rfl⟩ := r1;exact ⟨some i, H1, I1, .int i t, q⟩
def SlR (X : Cx) (r : V -> Option Int -> Option Int -> Hp -> VK -> Prop) : Prop :=
  ∀ (pins : List (Addr × Obj)) (s : Shared) (σ : St) (H : Hp) (x : V) (v vl vu : Value) (lo hi : Option Int) (sl : Addr) (Q : VK), Inv X pins σ H s -> RelV x v -> s.heap.IsSliceOf sl vl vu .none -> IsPart vl lo -> IsPart vu hi -> r x lo hi H Q ->
    ∃ T id, typeLookup (.type T) "__getitem__" = pure (some (.builtin id)) /\ s.TypeIs v T /\ wpAny (model X.prog X.w) X.A (getItem v (.ref sl)) (EP X pins σ Q) X.xe s
theorem SlR.or {r r' : V -> Option Int -> Option Int -> Hp -> VK -> Prop} (h : SlR X r) (h' : SlR X r') : SlR X (fun x lo hi H Q => r x lo hi H Q \/ r' x lo hi H Q) := by
  intro pins s σ H x v vl vu lo hi sl Q I rx hs pl pu q
  rcases q with q | q
  . exact h pins s σ H x v vl vu lo hi sl Q I rx hs pl pu q
  . exact h' pins s σ H x v vl vu lo hi sl Q I rx hs pl pu q
def tSl (r : V -> Option Int -> Option Int -> Hp -> VK -> Prop) (te : TE) (tl th : TO) : TE := fun σ H Q => te σ H fun x H1 => tl σ H1 fun l H2 => th σ H2 fun u H3 => r x l u H3 Q
theorem uz {r : V -> Option Int -> Option Int -> Hp -> VK -> Prop} (hr : SlR X r) (he : PE X e te) (hl : PO X lo tl) (hu : PO X hi th) : PE X (.Subscript e (.Slice lo hi none p2) pos) (tSl r te tl th) := by
  intro pins s σ H Q I h;refine Subscript_ (thn (he pins s σ H _ I h) fun v s1 ⟨x, H1, I1, r1, q1⟩ => ?_);refine wpAny_Slice (thn (hl pins s1 σ H1 _ I1 q1) fun vl s2 ⟨l, H2, I2, pl, q2⟩ => thn (hu pins s2 σ H2 _ I2 q2) fun vu s3 ⟨u, H3, I3, pu, q3⟩ => ?_);rw [evalPart_none];refine wpAny_pure ?_;have I4 : Inv X pins σ H3 { s3 with heap := s3.heap.push { cls := .type "slice", data := .fields #[vl, vu, .none] } } := I3.kept (t' := s3.toks) fun b ob q => Heap.get?_push_of_some _ q
  obtain ⟨T, id, hT, ht, hg⟩ := hr pins { s3 with heap := s3.heap.push { cls := .type "slice", data := .fields #[vl, vu, .none] } } σ H3 x v vl vu l u s3.heap.objs.size Q I4 r1 (Heap.IsSliceOf.new ..) pl pu q3
  show wpAny (model X.prog X.w) X.A (subscriptTail e (.Slice lo hi none p2) v (.ref s3.heap.objs.size)) (EP X pins σ Q) X.xe { s3 with heap := s3.heap.push { cls := .type "slice", data := .fields #[vl, vu, .none] } }
  exact tail_any (ops := [.ref s3.heap.objs.size, v]) ht hT hg (by with_unfolding_all rfl)
def cutV (xs : List V) (lo hi : Option Int) : List V := (xs.drop (HT.sIx xs.length 0 lo)).take (HT.sIx xs.length xs.length hi - HT.sIx xs.length 0 lo)
theorem ic (xs : List V) (lo hi : Option Int) : (cutV xs lo hi).length <= xs.length := by
  unfold cutV;rw [Zj, Yh];omega
def rSlT (K : Fg) : V -> Option Int -> Option Int -> Hp -> VK -> Prop := fun x lo hi H Q => ∃ a xs, x = .ref a /\ SqT K H a xs /\
  ¬ (HT.sIx xs.length 0 lo = 0 /\ HT.sIx xs.length xs.length hi = xs.length) /\ ∀ p, H p = none -> Q (.ref p) (upd H p (.tup (cutV xs lo hi)))
theorem zak : SlR X (rSlT X.K) := by
  intro pins s σ H x v vl vu lo hi sl Q I rx hs pl pu h;obtain ⟨a, xs, rfl, hx, hw, q⟩ := h;cases rx;obtain ⟨its, r, ht, hz⟩ := I.tuple hx;have hlen : its.toArray.size = xs.length := by rw [Zr]; exact r.length.symm
  refine ⟨"tuple", _, PyProof.Rows.slot_tuple_getitem.lookup, ht.typeIs, ?_⟩;refine HT.getItem_tuple_cut ht hs pl pu (by rw [hlen]; exact hw) ?_ (by rw [hlen]; exact hz);rw [hlen];refine ⟨.ref s.heap.objs.size, _, I.laid (t' := s.toks) (o := .tup (cutV xs lo hi)) (fun b ob q => Heap.get?_push_of_some _ q) (Zm _) ?_, rfl, q _ (I.hok.fresh (Zm _))⟩;exact ⟨Zd (ic xs lo hi) hz, _, (r.drop (HT.sIx xs.length 0 lo)).take (HT.sIx xs.length xs.length hi - HT.sIx xs.length 0 lo), IsTupD.new _ _⟩
def rCatT (K : Fg) : R2 := fun x y H Q => ∃ a b xs ys, x = .ref a /\ y = .ref b /\ SqT K H a xs /\ SqT K H b ys /\ xs ≠ [] /\ xs.length + ys.length <= sizeLine /\
  (ys = [] -> Q (.ref a) H) /\ (ys ≠ [] -> ∀ p, H p = none -> Q (.ref p) (upd H p (.tup (xs ++ ys))))
theorem Vals.nil_iff {xs : List V} {us : List Value} (r : Vals xs us) : us = [] ↔ xs = [] := by
  cases r with
  | nil => simp
  | cons _ _ => simp
theorem zh0 : OpR X (binaryOp .Add) (rCatT X.K) := by
  intro pins s σ H x y v u Q I rx ry h;obtain ⟨a, b, xs, ys, rfl, rfl, ha, hb, hx, hz, q1, q2⟩ := h;cases rx;cases ry;obtain ⟨its, r1, p1, _⟩ := I.tuple ha;obtain ⟨its2, r2, p2, _⟩ := I.tuple hb;refine HT.cat_tup p1 p2 (fun z => hx (r1.nil_iff.mp z)) (fun z => ⟨.ref a, H, I, rfl, q1 (r2.nil_iff.mp z)⟩) (fun z => ?_) (by rw [<- r1.length, <- r2.length]; exact hz);refine ⟨.ref s.heap.objs.size, _, I.laid (t' := s.toks) (o := .tup (xs ++ ys)) (fun b ob q => Heap.get?_push_of_some _ q) (Zm _) ?_, rfl, q2 (fun w => z (r2.nil_iff.mpr w)) _ (I.hok.fresh (Zm _))⟩;exact ⟨by rw [Zo]; exact hz, _, r1.append r2, IsTupD.new _ _⟩
end
end L2
namespace L2
open PySem PySem.Spec PyProof.Rows
def ixN (n : Nat) (i : Int) : Option Nat := if 0 <= i then (if i < n then some i.toNat else none) else if -(n : Int) <= i then some (i + n).toNat else none
def atI {α : Type} (xs : List α) (i : Int) : Option α := (ixN xs.length i).bind fun j => xs[j]?
theorem zhn {n : Nat} {i : Int} {j : Nat} (h : ixN n i = some j) : seqIndex? i n = some j /\ j < n /\ -(n : Int) <= i /\ i < n := by
  unfold ixN at h
  by_cases h0 : 0 <= i
  . rw [if_pos h0] at h
    by_cases h1 : i < n
    . rw [if_pos h1] at h
      have e : i.toNat = j := Option.some.inj h;exact ⟨by rw [seqIndex_of h0 h1, e], by omega, by omega, h1⟩
    . rw [if_neg h1] at h; cases h
  . rw [if_neg h0] at h
    by_cases h1 : -(n : Int) <= i
    . rw [if_pos h1] at h
      have e : (i + n).toNat = j := Option.some.inj h;exact ⟨by rw [seqIndex_neg (by omega) h1, e], by omega, h1, by omega⟩
    . rw [if_neg h1] at h; cases h
theorem fr {α : Type} {xs : List α} {i : Int} {v : α} (h : atI xs i = some v) : ∃ j, seqIndex? i xs.length = some j /\ xs[j]? = some v /\ j < xs.length /\ -(xs.length : Int) <= i /\ i < xs.length := by
  unfold atI at h
  cases e : ixN xs.length i with
  | none => rw [e] at h; cases h
  | some j =>
    rw [e] at h;obtain ⟨h1, h2, h3, h4⟩ := zhn e;exact ⟨j, h1, h, h2, h3, h4⟩
theorem zw {α : Type} {xs : List α} {j : Nat} {v : α} (h : xs[j]? = some v) : atI xs (j : Int) = some v := by
  have hj : j < xs.length := (Zc.mp h).1
  have e : ixN xs.length (j : Int) = some j := by
    unfold ixN;rw [if_pos (by omega), if_pos (by omega)]; simp
  unfold atI; rw [e]; exact h
theorem zad {α : Type} (xs : List α) (v : α) : atI (xs ++ [v]) (-1) = some v := by
  have hl : (xs ++ [v]).length = xs.length + 1 := by simp
  have e : ixN (xs ++ [v]).length (-1) = some xs.length := by
    unfold ixN;rw [hl, if_neg (by decide), if_pos (by omega)]
    congr 1
    omega
  unfold atI;rw [e]
  show (xs ++ [v])[xs.length]? = some v
  simp
def zhp (b : Expr) : Prop := ∀ o i, subscripted b false o i = operate [o, i] (getItem o i)
def IxR (X : Cx) (r : R2) : Prop :=
  ∀ (value slice : Expr) (pins : List (Addr × Obj)) (s : Shared) (σ : St) (H : Hp) (x y : V) (v u : Value) (Q : VK), Inv X pins σ H s -> RelV x v -> RelV y u -> r x y H Q ->
    subscripted slice false v u = operate [v, u] (getItem v u) -> wpAny (model X.prog X.w) X.A (subscriptTail value slice v u) (EP X pins σ Q) X.xe s
def MtR (X : Cx) (id : String) (r : V -> List V -> Hp -> VK -> Prop) : Prop :=
  ∀ (pins : List (Addr × Obj)) (s : Shared) (σ : St) (H : Hp) (x : V) (xs : List V) (v : Value) (us : List Value) (Q : VK), Inv X pins σ H s -> RelV x v -> Vals xs us -> r x xs H Q ->
    wpAny (model X.prog X.w) X.A (call (.builtin id) (v :: us)) (EP X pins σ Q) X.xe s
section
variable {X : Cx} {a b : Expr} {ta tb : TE} {pos : Pos}
theorem IxR.or {r r' : R2} (h : IxR X r) (h' : IxR X r') : IxR X (fun x y H Q => r x y H Q \/ r' x y H Q) := by
  intro value slice pins s σ H x y v u Q I rx ry q hs
  rcases q with q | q
  . exact h value slice pins s σ H x y v u Q I rx ry q hs
  . exact h' value slice pins s σ H x y v u Q I rx ry q hs
theorem MtR.or {id : String} {r r' : V -> List V -> Hp -> VK -> Prop} (h : MtR X id r) (h' : MtR X id r') : MtR X id (fun x xs H Q => r x xs H Q \/ r' x xs H Q) := by
  intro pins s σ H x xs v us Q I rx rs q
  rcases q with q | q
  . exact h pins s σ H x xs v us Q I rx rs q
  . exact h' pins s σ H x xs v us Q I rx rs q
theorem zt {r : R2} (hr : IxR X r) (ha : PE X a ta) (hb : PE X b tb) (hs : zhp b) : PE X (.Subscript a b pos) (tOp r ta tb) := by
  intro pins s σ H Q I h;exact Subscript_ (binT ha hb I h fun v u s2 x y H2 I2 rx ry q => hr a b pins s2 σ H2 x y v u Q I2 rx ry q (hs _ _))
def rIxL (K : Fg) : R2 := fun x y H Q => ∃ p xs i v, x = .ref p /\ y = .int i /\ SqL K H p xs /\ atI xs i = some v /\ Q v H
def rIxT (K : Fg) : R2 := fun x y H Q => ∃ p xs i v, x = .ref p /\ y = .int i /\ SqT K H p xs /\ atI xs i = some v /\ Q v H
def rIxS : R2 := fun x y H Q => ∃ z i c, x = .str z /\ y = .int i /\ z.length <= sizeLine /\ atI z.cps.toList i = some c /\ Q (.str ⟨#[c]⟩) H
theorem z0 : IxR X (rIxL X.K) := by
  intro value slice pins s σ H x y v u Q I rx ry h hs;obtain ⟨p, xs, i, z, rfl, rfl, hq, he, q⟩ := h;cases rx;obtain ⟨t, rfl⟩ := ry;obtain ⟨its, r, pl, hz⟩ := I.list hq;obtain ⟨j, h1, h2, h3, h4, h5⟩ := fr he;obtain ⟨w, ew, rw'⟩ := r.get h2;have hl := r.length;have hn := o9;have fin : EP X pins σ Q w s := ⟨z, H, I, rw', q⟩
  by_cases h0 : 0 <= i
  . have hj : i.toNat = j := by
      rw [seqIndex_of h0 h5] at h1;exact Option.some.inj h1
    exact item_listR pl.isList h0 (by omega) (by rw [hj]; simpa using ew) fin hs
  . have hj : (i + (its.toArray.size : Int)).toNat = j := by
      rw [seqIndex_neg (by omega) h4] at h1;rw [Zr, <- hl];exact Option.some.inj h1
    exact subscriptTail_builtinR (x := w) pl.isList.typeIs slot_list_getitem.lookup
      (wpAny_getItem_list_neg (Q := fun r s' => r = w /\ EP X pins σ Q r s') pl.isList (by omega) (by rw [Zr] <;> omega) (by omega) (by rw [hj]; simpa using ew) ⟨rfl, fin⟩) hs
theorem yh : IxR X (rIxT X.K) := by
  intro value slice pins s σ H x y v u Q I rx ry h hs;obtain ⟨p, xs, i, z, rfl, rfl, hq, he, q⟩ := h;cases rx;obtain ⟨t, rfl⟩ := ry;obtain ⟨its, r, pl, hz⟩ := I.tuple hq;obtain ⟨j, h1, h2, h3, h4, h5⟩ := fr he;obtain ⟨w, ew, rw'⟩ := r.get h2;have hl := r.length;have hn := o9;have fin : EP X pins σ Q w s := ⟨z, H, I, rw', q⟩
  exact subscriptTail_builtinR (x := w) pl.typeIs slot_tuple_getitem.lookup
    (getItem_tuple (j := j) (Q := fun r s' => r = w /\ EP X pins σ Q r s') pl (by omega) (by omega) (by rw [Zr, <- hl]; exact h1) (by simpa using ew) ⟨rfl, fin⟩) hs
theorem zf2 : IxR X rIxS := by
  intro value slice pins s σ H x y v u Q I rx ry h hs;obtain ⟨z, i, c, rfl, rfl, hz, he, q⟩ := h;obtain ⟨t, rfl⟩ := rx;obtain ⟨t', rfl⟩ := ry;obtain ⟨j, h1, h2, h3, h4, h5⟩ := fr he;have hl : z.cps.toList.length = z.length := by simp [Str.length]
  rw [hl] at h1 h4 h5;have hn := o9
  exact tail_any (typeIs_str s z t) slot_str_getitem.lookup (getItem_str (c := c) (by
    have e1 : decide (i < -(2 ^ 63 : Int)) = false := decide_eq_false (by omega);have e2 : decide (i ≥ 2 ^ 63) = false := decide_eq_false (by omega)
    rw [e1, e2, Bool.or_false]) (by rw [h1]; simpa using h2) ⟨.str ⟨#[c]⟩, H, I.tok _, ⟨_, rfl⟩, q⟩) hs
theorem Inv.lst {pins : List (Addr × Obj)} {σ : St} {H : Hp} {s : Shared} {p : Addr} {xs : List V} (I : Inv X pins σ H s) (h : H p = some (.lst xs)) :
    ∃ (its : List Value) (n : Nat), Vals xs its /\ s.heap.get? p = some { cls := .type "list", data := .seq its.toArray n } /\ xs.length <= sizeLine := by
  obtain ⟨z, its, n, r, e⟩ := I.hok p _ h;exact ⟨its, n, r, e, z⟩
def rSetL : V -> V -> V -> Hp -> (Hp -> Prop) -> Prop := fun o i v H Q => ∃ p xs k j, o = .ref p /\ i = .int k /\ H p = some (.lst xs) /\ ixN xs.length k = some j /\ Q (upd H p (.lst (xs.set j v)))
theorem za3 (lo hi : Option Int) (n : Nat) : (sliceBounds lo hi none n).1 = ((HT.sIx n 0 lo : Nat) : Int) /\ (sliceBounds lo hi none n).2.1 = ((HT.sIx n n hi : Nat) : Int) /\ (sliceBounds lo hi none n).2.2 = 1 := by
  refine ⟨?_, ?_, rfl⟩
  . cases lo with
    | none => simp [sliceBounds, HT.sIx]
    | some i =>
      simp only [sliceBounds, HT.sIx, Option.getD_none, show (1 : Int) > 0 by decide, if_true]
      by_cases h : i < 0
      . simp only [h, if_true] <;> omega
      . simp only [h, if_false] <;> omega
  . cases hi with
    | none => simp [sliceBounds, HT.sIx]
    | some i =>
      simp only [sliceBounds, HT.sIx, Option.getD_none, show (1 : Int) > 0 by decide, if_true]
      by_cases h : i < 0
      . simp only [h, if_true] <;> omega
      . simp only [h, if_false] <;> omega
theorem cw (its : List Value) (lo hi : Option Int) : slicePick its.toArray lo hi none = ((its.drop (HT.sIx its.length 0 lo)).take (HT.sIx its.length its.length hi - HT.sIx its.length 0 lo)).toArray := by
  obtain ⟨h1, h2, h3⟩ := za3 lo hi its.toArray.size;unfold slicePick;rw [h1, h2, h3];simp only [sliceRange_one, pick_run, Zr] <;> rfl
def rSlL (K : Fg) : V -> Option Int -> Option Int -> Hp -> VK -> Prop := fun x lo hi H Q => ∃ a xs, x = .ref a /\ SqL K H a xs /\ ∀ p, H p = none -> Q (.ref p) (upd H p (.lst (cutV xs lo hi)))
theorem zho : SlR X (rSlL X.K) := by
  intro pins s σ H x v vl vu lo hi sl Q I rx hs pl pu h;obtain ⟨a, xs, rfl, hx, q⟩ := h;cases rx;obtain ⟨its, r, ht, hz⟩ := I.list hx;have hlen := r.length;refine ⟨"list", _, slot_list_getitem.lookup, ht.isList.typeIs, ?_⟩;refine wpAny_getItem_list_slice ht.isList hs pl pu .none (by simp) ?_ (by rw [Zr] <;> omega);rw [cw, <- hlen];refine ⟨.ref s.heap.objs.size, _, I.laid (t' := s.toks) (o := .lst (cutV xs lo hi)) (fun b ob q => Heap.get?_push_of_some _ q) (Zm _) ?_, rfl, q _ (I.hok.fresh (Zm _))⟩;exact ⟨Zd (ic xs lo hi) hz, _, 0, (r.drop (HT.sIx xs.length 0 lo)).take (HT.sIx xs.length xs.length hi - HT.sIx xs.length 0 lo), Heap.get?_push_size _ rfl⟩
def y9 : V -> Bool
  | .non => true
  | .bl _ => true
  | .int _ => true
  | .str _ => true
  | _ => false
def eqV : V -> V -> Bool
  | .non, .non => true
  | .bl a, .bl b => a == b
  | .bl a, .int b => (if a then 1 else 0) == b
  | .int a, .bl b => a == (if b then 1 else 0)
  | .int a, .int b => a == b
  | .str a, .str b => a == b
  | _, _ => false
theorem i5 {A : Around} {s : Shared} {y x : V} {u v : Value} (ry : RelV y u) (rx : RelV x v) (fy : y9 y = true) (fx : y9 x = true) : SeqAt.EqAt A s u v (eqV y x) := by
  cases y with
  | non =>
    cases ry
    cases x with
    | non => cases rx; exact SeqAt.EqAt.same _
    | bl b => cases rx; exact SeqAt.EqAt.none_bool b
    | int b => obtain ⟨t, rfl⟩ := rx; exact SeqAt.EqAt.none_int b t
    | str b => obtain ⟨t, rfl⟩ := rx; exact SeqAt.EqAt.none_str b t
    | _ => exact absurd (show false = true from fx) Bool.false_ne_true
  | bl a =>
    cases ry
    cases x with
    | non => cases rx; exact SeqAt.EqAt.bool_none a
    | bl b => cases rx; exact SeqAt.EqAt.bool_bool a b
    | int b => obtain ⟨t, rfl⟩ := rx; exact SeqAt.EqAt.bool_int a b t
    | str b => obtain ⟨t, rfl⟩ := rx; exact SeqAt.EqAt.bool_str a b t
    | _ => exact absurd (show false = true from fx) Bool.false_ne_true
  | int a =>
    obtain ⟨t', rfl⟩ := ry
    cases x with
    | non => cases rx; exact SeqAt.EqAt.int_none a t'
    | bl b => cases rx; exact SeqAt.EqAt.int_bool a t' b
    | int b => obtain ⟨t, rfl⟩ := rx; exact SeqAt.EqAt.int_int a t' b t
    | str b => obtain ⟨t, rfl⟩ := rx; exact SeqAt.EqAt.int_str a t' b t
    | _ => exact absurd (show false = true from fx) Bool.false_ne_true
  | str a =>
    obtain ⟨t', rfl⟩ := ry
    cases x with
    | non => cases rx; exact SeqAt.EqAt.str_none a t'
    | bl b => cases rx; exact SeqAt.EqAt.str_bool a t' b
    | int b => obtain ⟨t, rfl⟩ := rx; exact SeqAt.EqAt.str_int a t' b t
    | str b => obtain ⟨t, rfl⟩ := rx; exact SeqAt.EqAt.str_str a t' b t
    | _ => exact absurd (show false = true from fx) Bool.false_ne_true
  | _ => exact absurd (show false = true from fy) Bool.false_ne_true
def eqU (x : V) (u : Value) : Bool := match u with
  | .none => eqV .non x
  | .bool b => eqV (.bl b) x
  | .int i _ => eqV (.int i) x
  | .str z _ => eqV (.str z) x
  | _ => false
theorem za2 {x y : V} {u : Value} (r : RelV y u) (f : y9 y = true) : eqU x u = eqV y x := by
  cases y with
  | non => cases r; rfl
  | bl b => cases r; rfl
  | int i => obtain ⟨t, rfl⟩ := r; rfl
  | str z => obtain ⟨t, rfl⟩ := r; rfl
  | _ => exact absurd (show false = true from f) Bool.false_ne_true
theorem l9 {A : Around} {s : Shared} {x : V} {v : Value} (rx : RelV x v) (fx : y9 x = true) : ∀ {xs : List V} {us : List Value}, Vals xs us -> xs.all y9 = true -> ∀ u ∈ us, SeqAt.EqAt A s u v (eqU x u)
  | _, _, .nil, _ => fun u hu => by cases hu
  | y :: xs, u :: us, .cons r t, f => fun u' hu => by
    rw [YM, Bool.and_eq_true] at f
    rcases ZK.mp hu with rfl | hu
    . rw [za2 r f.1]; exact i5 r rx f.1 fx
    . exact l9 rx fx t f.2 u' hu
def inV (x : V) (xs : List V) : Bool := xs.any fun y => eqV y x
def rIn (K : Fg) (neg : Bool) : R2 := fun x y H Q => ∃ p xs, y = .ref p /\ (SqL K H p xs \/ SqT K H p xs) /\ y9 x = true /\ xs.all y9 = true /\ Q (.bl (if neg then !inV x xs else inV x xs)) H
theorem zq : CallR X (.builtin "len") (fun xs H Q => ∃ p ys, xs = [.ref p] /\ (SqL X.K H p ys \/ SqT X.K H p ys) /\ Q (.int ys.length) H) := by
  intro pins s σ H xs us Q I r h;obtain ⟨p, ys, rfl, hq, q⟩ := h;obtain ⟨u, rfl, rx⟩ := sv r;cases rx;have hn := o9
  rcases hq with hq | hq
  . obtain ⟨its, r', pl, hz⟩ := I.list hq
    have hlen := r'.length;exact Calls.call_len_list pl.isList (by simp only [Zr] <;> omega) ⟨.int ys.length, H, I.tok _, ⟨s.toks + 1, by rw [Zr, hlen]⟩, q⟩
  . obtain ⟨its, r', pl, hz⟩ := I.tuple hq
    have hlen := r'.length;exact len_tuple pl (by simp only [Zr] <;> omega) ⟨.int ys.length, H, I.tok _, ⟨s.toks + 1, by rw [Zr, hlen]⟩, q⟩
theorem aq : CallR X (.builtin "len") (fun xs H Q => ∃ z, xs = [.str z] /\ z.length <= sizeLine /\ Q (.int z.length) H) := by
  intro pins s σ H xs us Q I r h;obtain ⟨z, rfl, hz, q⟩ := h;obtain ⟨u, rfl, t, rfl⟩ := sv r;have hn := o9;exact len_str (by omega) ⟨.int z.length, H, I.tok _, ⟨_, rfl⟩, q⟩
theorem CallR.or {f : Value} {r r' : List V -> Hp -> VK -> Prop} (h : CallR X f r) (h' : CallR X f r') : CallR X f (fun xs H Q => r xs H Q \/ r' xs H Q) := by
  intro pins s σ H xs us Q I rs q
  rcases q with q | q
  . exact h pins s σ H xs us Q I rs q
  . exact h' pins s σ H xs us Q I rs q
theorem c0 : CallR X (.type "tuple") (fun xs H Q => ∃ p ys, xs = [.ref p] /\ ((SqL X.K H p ys /\ ∀ l, H l = none -> Q (.ref l) (upd H l (.tup ys))) \/ (SqT X.K H p ys /\ Q (.ref p) H))) := by
  intro pins s σ H xs us Q I r h;obtain ⟨p, ys, rfl, h⟩ := h;obtain ⟨u, rfl, rx⟩ := sv r;cases rx
  rcases h with ⟨hq, q⟩ | ⟨hq, q⟩
  . obtain ⟨its, r', pl, hz⟩ := I.list hq
    have hlen := r'.length;refine call_tuple_list pl.isList (fun h' kp => ?_) (by simp only [Zr] <;> omega);have I1 : Inv X pins σ H { s with heap := h' } := I.kept (t' := s.toks) kp
    have I2 : Inv X pins σ (upd H h'.objs.size (.tup ys)) { s with heap := h'.push { cls := .type "tuple", data := .seq its.toArray } } :=
      I1.laid (t' := s.toks) (fun b o e => Heap.get?_push_of_some _ e) (Zm _) (show ObjOk X.prog X.w _ _ _ (.tup ys) from ⟨hz, its, r', IsTupD.new _ _⟩)
    exact ⟨.ref h'.objs.size, _, I2, rfl, q _ (I1.hok.fresh (Zm _))⟩
  . obtain ⟨its, r', pl, hz⟩ := I.tuple hq
    exact call_tuple_same pl ⟨.ref p, H, I, rfl, q⟩
def tyV (K : Fg) (T : String) (x : V) (H : Hp) : Prop := match x with
  | .str _ => T = "str"
  | .int _ => T = "int"
  | .ref p => (T = "list" /\ ∃ xs, SqL K H p xs) \/ (T = "tuple" /\ ∃ o, K.lookup p = some o /\ o.cls = .type "tuple" /\ o.dict = none) \/
      (T = "dict" /\ ((∃ kvs, H p = some (.dK kvs)) \/ ∃ kvs, H p = some (.dT kvs))) \/ (T = "set" /\ ∃ S n, H p = some (.set S n))
  | _ => False
theorem zfh {pins : List (Addr × Obj)} {σ : St} {H : Hp} {s : Shared} {T : String} {x : V} {v : Value} (I : Inv X pins σ H s) (r : RelV x v) (ty : tyV X.K T x H) :
    s.TypeIs v T /\ ∀ a, v = .ref a -> ∃ ob, s.heap.get? a = some ob /\ ob.dict = none := by
  cases x with
  | str z =>
    obtain ⟨t, rfl⟩ := r;cases (show T = "str" from ty);exact ⟨typeIs_str s z t, fun _ e => nomatch e⟩
  | int i =>
    obtain ⟨t, rfl⟩ := r;cases (show T = "int" from ty);exact ⟨typeIs_int s i t, fun _ e => nomatch e⟩
  | ref p =>
    cases r
    rcases ty with ⟨rfl, xs, hq⟩ | ⟨rfl, o, hk, hc, hd⟩ | ⟨rfl, hk⟩ | ⟨rfl, S, n, hk⟩
    . obtain ⟨its, _, pl, _⟩ := I.list hq
      refine ⟨pl.isList.typeIs, fun a e => ?_⟩;cases e;obtain ⟨o, n, e, c, hd, _⟩ := pl;exact ⟨o, e, hd⟩
    . refine ⟨⟨o, I.kIn p o hk, hc⟩, fun a e => ?_⟩
      cases e;exact ⟨o, I.kIn _ o hk, hd⟩
    . have z : ∃ o, s.heap.get? p = some o /\ o.ExactDict := by
        rcases hk with ⟨kvs, hk⟩ | ⟨kvs, hk⟩
        . obtain ⟨_, _, _, _, o, _, _, e, ex, _⟩ := I.hok p _ hk
          exact ⟨o, e, ex⟩
        . obtain ⟨_, _, _, _, o, _, _, e, ex, _⟩ := I.hok p _ hk
          exact ⟨o, e, ex⟩
      obtain ⟨o, e, ex⟩ := z;refine ⟨⟨o, e, ex.1⟩, fun a e2 => ?_⟩;cases e2;exact ⟨o, e, ex.2.1⟩
    . obtain ⟨o, _, _, _, e, ex, _⟩ := I.hok p _ hk
      refine ⟨⟨o, e, ex.1⟩, fun a e2 => ?_⟩;cases e2;exact ⟨o, e, ex.2.1⟩
  | _ => exact False.elim ty
def tBM0 (K : Fg) (T : String) (r : V -> List V -> Hp -> VK -> Prop) (to : TE) : TE := fun σ H Q => to σ H fun x H1 => tyV K T x H1 /\ r x [] H1 Q
def tBM (K : Fg) (T : String) (r : V -> List V -> Hp -> VK -> Prop) (to : TE) (t : TA) : TE := fun σ H Q => to σ H fun x H1 => tyV K T x H1 /\ t σ H1 fun xs H2 => r x xs H2 Q
variable {o e : Expr} {es : List Expr} {to : TE} {t : TA} {name : Str} {apos cpos : Pos} {T id : String} {r : V -> List V -> Hp -> VK -> Prop}
theorem aj (pa : PlainAttrs T) (slot : Slot T name id) (hty : typeOf (.builtin id) = pure (.type "method_descriptor")) (hm : MtR X id r) (ho : PE X o to)
    (hbase : attributeBase o name X.env (eval o X.env) = eval o X.env := by rfl) (hline : (apos.endLine == cpos.line) = true := by rfl) : PE X (.Call (.Attribute o name apos) [] [] cpos) (tBM0 X.K T r to) := by
  intro pins s σ H Q I h;refine wpAny_Call_method0_late hbase hline (thn (ho pins s σ H _ I h) fun v s1 ⟨x, H1, I1, r1, ty, q1⟩ => ?_);obtain ⟨h1, h2⟩ := zfh I1 r1 ty;exact ⟨T, id, pa, slot, hty, h1, h2, Calls.callWith_builtin rfl (PySem.evalArgs_none (hm pins s1 σ H1 x [] v [] Q I1 r1 .nil q1))⟩
theorem qe (pa : PlainAttrs T) (slot : Slot T name id) (hty : typeOf (.builtin id) = pure (.type "method_descriptor")) (hm : MtR X id r) (ho : PE X o to) (ha : PA X (e :: es) t)
    (hbase : attributeBase o name X.env (eval o X.env) = eval o X.env := by rfl)
    (hfew : ((backTo cpos (starEach (e :: es) X.env)).all (fun x => !x.1) && (backToKw cpos (keywordEach [] X.env)).all (fun x => x.1.isSome)
      && decide ((e :: es).length + ([] : List Keyword).length + (if ([] : List Keyword).isEmpty then 0 else 1) < 30)) = true := by rfl)
    (hline : (apos.endLine == cpos.line) = true := by rfl) (hs : starEach (e :: es) X.env = (false, eval e X.env) :: starEach es X.env := by rfl) (hplain : (backTo cpos (starEach es X.env)).any (·.1) = false := by rfl) :
    PE X (.Call (.Attribute o name apos) (e :: es) [] cpos) (tBM X.K T r to t) := by
  intro pins s σ H Q I h;refine wpAny_Call_method_late hbase hfew hline rfl (thn (ho pins s σ H _ I h) fun v s1 ⟨x, H1, I1, r1, ty, q1⟩ => ?_);obtain ⟨h1, h2⟩ := zfh I1 r1 ty;refine ⟨T, id, pa, slot, hty, h1, h2, ?_⟩;have hA := ha cpos pins s1 σ H1 _ I1 q1;rw [hs] at hA ⊢;refine Calls.callWith_builtin (by show (false || (backTo cpos (starEach es X.env)).any (·.1)) = false; rw [hplain] <;> rfl) (Calls.evalArgs_plain ?_);exact thn hA fun us s2 ⟨vs, H2, I2, r2, q2⟩ => hm pins s2 σ H2 x vs v us Q I2 r1 r2 q2
end
end L2
namespace L2
open PySem PySem.Spec PyProof.Rows
def MtM (X : Cx) (id : String) (r : V -> List V -> Hp -> VK -> Prop) : Prop :=
  ∀ (pins : List (Addr × Obj)) (s : Shared) (σ : St) (H : Hp) (x : V) (xs : List V) (v : Value) (us : List Value) (Q : VK), Inv X pins σ H s -> RelV x v -> Vals xs us -> r x xs H Q ->
    wpAny (model X.prog X.w) X.A (call (.builtin id) (v :: us)) (EP X pins σ Q) X.xe s
theorem Vals.one : ∀ {x : V} {us : List Value}, Vals [x] us -> ∃ u, us = [u] /\ RelV x u
  | _, _, .cons r .nil => ⟨_, rfl, r⟩
theorem Vals.two : ∀ {x y : V} {us : List Value}, Vals [x, y] us -> ∃ u v, us = [u, v] /\ RelV x u /\ RelV y v
  | _, _, _, .cons r (.cons q .nil) => ⟨_, _, rfl, r, q⟩
theorem Vals.zero : ∀ {us : List Value}, Vals [] us -> us = []
  | _, .nil => rfl
theorem Vals.dropLast {xs : List V} {us : List Value} (h : Vals xs us) : Vals xs.dropLast us.dropLast := by
  induction h with
  | nil => exact .nil
  | cons r t ih =>
    cases t with
    | nil => exact .nil
    | cons q t' => exact .cons r ih
theorem Vals.eraseIdx : ∀ {xs : List V} {us : List Value} (i : Nat), Vals xs us -> Vals (xs.eraseIdx i) (us.eraseIdx i)
  | _, _, _, .nil => .nil
  | _, _, 0, .cons _ t => t
  | _, _, i + 1, .cons r t => .cons r (Vals.eraseIdx i t)
theorem Vals.reverse {xs : List V} {us : List Value} (h : Vals xs us) : Vals xs.reverse us.reverse := by
  induction h with
  | nil => exact .nil
  | cons r t ih => rw [Yx, Yx]; exact Vals.append ih (.cons r .nil)
section
variable {X : Cx} {pins : List (Addr × Obj)} {σ : St} {H : Hp} {s : Shared} {l b : Addr} {xs ys zs : List V}
theorem Inv.lset {its its' : List Value} {n : Nat} {f : Array Value -> Array Value} {t' : Nat} (I : Inv X pins σ H s) (hH : H l = some (.lst xs))
    (e : s.heap.get? l = some { cls := .type "list", data := .seq its.toArray n }) (hf : f its.toArray = its'.toArray) (hv : Vals ys its') (hz : ys.length <= sizeLine) :
    Inv X pins σ (upd H l (.lst ys)) { s with heap := s.heap.update l (Obj.mapSeq f), toks := t' } := by
  have q := PySem.IsL.update e f;rw [hf] at q;refine I.write (x := l) (e := l) (by rw [hH]; exact trivial) (.inl rfl) (fun b' u hb hu => (Heap.get?_update_other s.heap (Obj.mapSeq f) (Ne.symm hb)).trans hu) ⟨_, q⟩ ?_;exact ⟨hz, its', _, hv, q⟩
theorem Inv.lnew {its : List Value} {t' : Nat} (I : Inv X pins σ H s) (hv : Vals ys its) (hz : ys.length <= sizeLine) :
    Inv X pins σ (upd H s.heap.objs.size (.lst ys)) { s with heap := s.heap.push { cls := .type "list", data := .seq its.toArray }, toks := t' } :=
  I.laid (fun _ _ q => Heap.get?_push_of_some _ q) (Zm _) ⟨hz, its, 0, hv, Heap.get?_push_size _ rfl⟩
theorem Inv.fresh (I : Inv X pins σ H s) : H s.heap.objs.size = none := I.hok.fresh (Zm _)
theorem Inv.lstM (I : Inv X pins σ H s) (hH : H l = some (.lst xs)) : xs.length <= sizeLine /\ ∃ (its : List Value) (n : Nat), Vals xs its /\ xs.length = its.length /\ s.heap.get? l = some { cls := .type "list", data := .seq its.toArray n } := by
  obtain ⟨z, its, n, r, e⟩ := I.hok l _ hH;exact ⟨z, its, n, r, r.length, e⟩
theorem zge {n : Nat} (h : n <= sizeLine) : Builtin.List.listTooLong n = false := by
  unfold Builtin.List.listTooLong;exact decide_eq_false (by omega)
end
section
variable {X : Cx}
def zcb : V -> List V -> Hp -> VK -> Prop := fun x vs H Q => ∃ l xs y, x = .ref l /\ vs = [y] /\ H l = some (.lst xs) /\ xs.length < sizeLine /\ Q .non (upd H l (.lst (xs ++ [y])))
theorem qw : MtM X "list.append" zcb := by
  intro pins s σ H x vs v us Q I rx rv h;obtain ⟨l, xs, y, rfl, rfl, hH, hz, q⟩ := h;cases rx;obtain ⟨u, rfl, ru⟩ := rv.one;obtain ⟨z, its, n, r, hl, e⟩ := I.lstM hH;refine call_meets F.slot_list_append ⟨_, e, rfl⟩ F.entry_list_append (F.args_list_append_2 _ _) (PySem.list_append l its.toArray n u (by rw [Zr]; omega)) ⟨e, ?_⟩;refine ⟨.non, _, I.lset (its' := its ++ [u]) hH e (by simp) (r.append (.cons ru .nil)) ?_, rfl, q⟩;rw [Zo, Yg];omega
def zct : V -> List V -> Hp -> VK -> Prop := fun x vs H Q => ∃ l b xs zs, x = .ref l /\ vs = [.ref b] /\ H l = some (.lst xs) /\ H b = some (.lst zs) /\ xs.length + zs.length <= sizeLine /\ Q .non (upd H l (.lst (xs ++ zs)))
theorem du : MtM X "list.extend" zct := by
  intro pins s σ H x vs v us Q I rx rv h;obtain ⟨l, b, xs, zs, rfl, rfl, hH, hB, hz, q⟩ := h;cases rx;obtain ⟨u, rfl, ru⟩ := rv.one;cases ru;obtain ⟨z, its, n, r, hl, e⟩ := I.lstM hH;obtain ⟨z2, its2, n2, r2, hl2, e2⟩ := I.lstM hB;have hsz : its.toArray.size + its2.toArray.size <= sizeLine := by rw [Zr, Zr]; omega
  have hlong : ¬ (!its.toArray.isEmpty && Builtin.List.listTooLong (its.toArray.size + its2.toArray.size)) = true := by
    rw [zge hsz, Bool.and_false];exact Bool.false_ne_true
  refine call_meets F.slot_list_extend ⟨_, e, rfl⟩ F.entry_list_extend (F.args_list_extend_2 _ _)
    (AutoSeq1.list_extend_list_list_0 l its.toArray n b its2.toArray n2 hlong (by rw [Zr]; omega) (by omega)) ⟨e, e2, ?_⟩
  refine ⟨.non, _, I.lset (its' := its ++ its2) hH e (by simp) (r.append r2) ?_, rfl, q⟩;rw [Zo];omega
def az : V -> List V -> Hp -> VK -> Prop := fun x vs H Q => ∃ l xs, x = .ref l /\ vs = [] /\ H l = some (.lst xs) /\ Q .non (upd H l (.lst xs.reverse))
theorem zdw : MtM X "list.reverse" az := by
  intro pins s σ H x vs v us Q I rx rv h;obtain ⟨l, xs, rfl, rfl, hH, q⟩ := h;cases rx;have hus := rv.zero;subst hus;obtain ⟨z, its, n, r, hl, e⟩ := I.lstM hH;refine call_meets F.slot_list_reverse ⟨_, e, rfl⟩ F.entry_list_reverse (F.args_list_reverse_1 _) (AutoSeq1.list_reverse_list_0 l its.toArray n (by rw [Zr]; omega)) ⟨e, ?_⟩;refine ⟨.non, _, I.lset (its' := its.reverse) hH e (by simp) r.reverse ?_, rfl, q⟩;rw [Yd];omega
def ze2 : V -> List V -> Hp -> VK -> Prop := fun x vs H Q => ∃ l xs, x = .ref l /\ vs = [] /\ H l = some (.lst xs) /\ Q .non (upd H l (.lst []))
theorem aw : MtM X "list.clear" ze2 := by
  intro pins s σ H x vs v us Q I rx rv h;obtain ⟨l, xs, rfl, rfl, hH, q⟩ := h;cases rx;have hus := rv.zero;subst hus;obtain ⟨z, its, n, r, hl, e⟩ := I.lstM hH;refine call_meets F.slot_list_clear ⟨_, e, rfl⟩ F.entry_list_clear (F.args_list_clear_1 _) (AutoSeq1.list_clear_list_0 l its.toArray n (by rw [Zr]; omega)) ⟨e, ?_⟩;exact ⟨.non, _, I.lset (its' := []) (ys := []) hH e rfl .nil (ZE _), rfl, q⟩
def rCat : R2 := fun x y H Q => ∃ l b xs zs, x = .ref l /\ y = .ref b /\ H l = some (.lst xs) /\ H b = some (.lst zs) /\ xs.length + zs.length <= sizeLine /\ ∀ p, H p = none -> Q (.ref p) (upd H p (.lst (xs ++ zs)))
theorem bx : OpR X (binaryOp .Add) rCat := by
  intro pins s σ H x y v u Q I rx ry h;obtain ⟨l, b, xs, zs, rfl, rfl, hH, hB, hz, q⟩ := h;cases rx;cases ry;obtain ⟨z, its, n, r, hl, e⟩ := I.lstM hH;obtain ⟨z2, its2, n2, r2, hl2, e2⟩ := I.lstM hB;refine PySem.P.add_list e e2 ?_ (by rw [Zr, Zr]; omega);have ea : its.toArray ++ its2.toArray = (its ++ its2).toArray := by simp
  rw [ea];exact ⟨.ref _, _, I.lnew (t' := s.toks) (r.append r2) (by rw [Zo]; omega), rfl, q _ I.fresh⟩
def rRep : R2 := fun x y H Q => ∃ l k xs, x = .ref l /\ y = .int k /\ H l = some (.lst xs) /\ -(2 ^ 63) <= k /\ k < 2 ^ 63 /\ xs.length * k.toNat <= sizeLine /\
  ∀ p, H p = none -> Q (.ref p) (upd H p (.lst (List.replicate k.toNat xs).flatten))
end
section
variable {prog : Program} {w : World} {A : Around} {E : Value -> Shared -> Prop} {s : Shared}
set_option maxRecDepth 100000 in
end
section
variable {X : Cx}
end
end L2
namespace Att
open PySem PySem.W PySem.Calls PyProof.Rows
theorem gu {P : Params} {h : Heap} : ∀ (ns : List Int) (vs : List Value), WellAll P h vs (ns.map WData.int) -> IntsAre vs ns := by
  intro ns
  induction ns with
  | nil =>
    intro vs w;rw [YH] at w;cases w;exact .nil
  | cons n ns ih =>
    intro vs w;rw [ZL] at w
    cases w with
    | cons a b =>
      cases a;exact .cons _ _ (ih _ b)
theorem zev {l : OpenLaw} {n : Nat} (hn : l.most = some n) {P : Params} {h : Heap} {args : List WData} {vals : List Value}
    (hpre : l.row.toRowW.claim.pre args = true) (hwl : WellAll P h vals args) :
    ∃ a vs ns, vals = [Value.ref a] /\ args = [WData.list (ns.map WData.int)] /\ h.get? a = some { cls := .type "list", data := .seq vs.toArray } /\ IntsAre vs ns /\ ns.length <= n := by
  have hsh : WShape.hasAll [] args [.list .int] = true := (pre_splitW hpre).1;have hc : l.pre.holds [] { args := args } = true := (pre_splitW hpre).2;obtain ⟨d, r, rfl, h1, h2⟩ := hasAllW_cons hsh;obtain rfl := hasAllW_nil h2;obtain ⟨xs, rfl, h3⟩ := hasW_list h1;obtain ⟨ns, rfl⟩ := items_int h3
  have hlen : ns.length <= n := by
    unfold OpenLaw.pre at hc
    have h4 : (WTm.not (.lt (.lit (.int (n : Int))) (.len (.arg 0)))).holds [] { args := [.list (ns.map .int)] } = true := by
      have h4 := (holds_andW hc).1;rw [hn] at h4;exact h4
    have h5 := condW_of h4 (w_not (w_lt w_lit (w_len_list (w_arg rfl))));rw [Za] at h5;refine Nat.le_of_not_lt fun q => ?_
    have q' : (n : Int) < ((ns.length : Nat) : Int) := by omega
    first
      | (rw [decide_eq_true q'] at h5; exact absurd h5 (by decide))
      | (simp at h5; omega)
  cases hwl with
  | cons w1 w2 =>
    cases w2
    cases w1 with
    | list ho hall => exact ⟨_, _, ns, rfl, rfl, ho, gu ns _ hall, hlen⟩
theorem zeo (l : OpenLaw) (args : List WData) : l.row.toRowW.claim.post args (.bool true) args = true :=
  postW_of (r := l.row.toRowW) (X := (true == true))
    (show WShape.has [] (.bool true) .bool = true by first | rfl | decide | simp [WShape.has, WShape.arms, WShape.armsAll])
    (show (WTm.eq .res (.lit (.bool true))).value [] { args := args, res := some (.bool true), after := args } = some (.bool (true == true)) from w_eq_bool (w_res rfl) w_lit) rfl
theorem zbe {l : OpenLaw} {n : Nat} {q : Program} {loose : List Str} {XP : (Str -> Option Value) -> Heap -> Prop} {YP : World -> Heap -> Prop} {d : DefRec}
    (hn : l.most = some n) (hdf : d.params.defaults = [])
    (call : ∀ (w : World) (s₀ s₁ : Shared) (mg mb : Str -> Option Value) (fa : Addr) (o : Obj) (pm cd doc : Value) (a : Addr) (vs : List Value) (ns : List Int),
      Ground q loose [] XP w s₀ mg mb s₁.heap -> YP w s₁.heap ->
      s₁.heap.get? fa = some o -> o.data = .func (docDef d.name d.params d.body d.scope pm cd doc) -> s₁.heap.CodeRec cd d.name -> mg d.name = some (.ref fa) ->
      s₁.heap.get? a = some { cls := .type "list", data := .seq vs.toArray } -> IntsAre vs ns -> ns.length <= n -> s₁.gens = #[] ->
      codeAny (model l.prog w) callerA (.call (.ref fa) ⟨[.ref a], []⟩) (fun r s' => r = .ok (.ret (.bool true)) /\ OldK s₁.heap s'.heap /\ s'.os = s₁.os /\ AllBare s'.gens) s₁) :
    WalkO q loose XP YP l.row.toRowW d [] (fun f vs => PySem.call f vs) := by
  intro w s₀ s₁ mg mb G Y fa o pm cd doc dV kV ho hd hcd hD hmg hg args vals as hpre hlay hrd hwl hlo;obtain rfl : dV = .none := Dflts.none hD hdf;obtain rfl : kV = .none := Dflts.noKw hD;obtain ⟨a, vs, ns, rfl, rfl, hobj, hints, hlen⟩ := zev hn hpre hwl;refine enter_call (codeAny_mono (call w s₀ s₁ mg mb fa o pm cd doc a vs ns G Y ho (fd_plain hd) hcd hmg hobj hints hlen hg) fun r s' hq => ?_);obtain ⟨rfl, h2, h3, h4⟩ := hq;exact ⟨.inl ⟨.bool true, .bool true, [], rfl, fun _ => rfl, .bool true, zeo l _, fun _ => ⟨List.Pairwise.nil, fun _ hm => (nomatch hm)⟩⟩, h2, h3, h4⟩
section
variable {prog : Program} {w : World} {A : Around} {E : Value -> Shared -> Prop} {s : Shared} {K : Frag}
def ledger (h : Heap) (L d : Addr) : List (Addr × Obj) := (List.range h.objs.size).filterMap fun a => if a = L \/ a = d then none else (h.get? a).map fun o => (a, o)
end
end Att
namespace L2
open PySem PySem.Spec PyProof.Rows
theorem cb : ∀ {vs : List Value} {ns : List Int}, IntsAre vs ns -> Vals (ns.map V.int) vs
  | _, _, .nil => .nil
  | _, _, .cons n t h => .cons ⟨t, rfl⟩ (cb h)
def Only (H : Hp) : Prop := ∀ b, H b = none \/ ∃ o xs, H b = some (.frz o (.lst xs))
theorem zgy {P : Program} {w : World} {K : Fg} {mg mb : Str -> Option Value} {CX : CXT} {k : Nat} {fa a : Addr} {fd : FuncData} {x : Str} {sp : Sp} {s₁ : Shared} {vs : List Value} {ns : List Int}
    (KX : K.In s₁.heap) (hns : s₁.heap.Ns mainGlobals mg) (hb : s₁.heap.Ns builtinsNs mb) (hbb : ∀ x : Str, x ≠ "__name__" -> mb x = bootBuiltins x) (hlim : s₁.heap.NoLimit) (hg : s₁.gens = #[])
    (ha : s₁.heap.get? a = some { cls := .type "list", data := .seq vs.toArray }) (hi : IntsAre vs ns) (hl : ns.length <= sizeLine) (hr : Room k callerA)
    (F : ∀ base : Heap, K.In base -> base.Ns mainGlobals mg -> FnOk P w K mg base CX k fa fd [x] sp) (hbind : ∀ (s : Shared) (u : Value), BindsTo s fd ⟨[u], []⟩ [(x, u)])
    (hsp : ∀ H : Hp, Only H -> SqL K H a (ns.map V.int) -> sp [.ref a] H (fun v _ => v = .bl true) fun _ _ _ => False)
    (hCX : ∀ H e s', CX [] H s₁ (fun _ _ _ => False) e s' -> False) :
    codeAny (model P w) callerA (.call (.ref fa) ⟨[.ref a], []⟩) (fun r s' => r = .ok (.ret (.bool true)) /\ OldK s₁.heap s'.heap /\ s'.os = s₁.os /\ AllBare s'.gens) s₁ := by
  have rv := cb hi;have lenV := hi.length
  -- from an abstract heap in which nothing but the script may be tracked
  have core : ∀ H : Hp, Only H -> SqL K H a (ns.map V.int) -> HOk P w H s₁.heap -> (∀ b, H b ≠ none -> b = a) -> (H a ≠ none -> K.lookup a = none) ->
      codeAny (model P w) callerA (.call (.ref fa) ⟨[.ref a], []⟩) (fun r s' => r = .ok (.ret (.bool true)) /\ OldK s₁.heap s'.heap /\ s'.os = s₁.os /\ AllBare s'.gens) s₁ := by
    intro H hO hS hok hA hK;have base_of : ∀ {b : Addr} {o : Obj}, s₁.heap.get? b = some o -> H b = none -> (hidT s₁.heap H).get? b = some o := fun e n => zgh e n
    have noA : ∀ {b : Addr} {o : Obj} {es : Array DictEntry} {ep : Nat}, s₁.heap.get? b = some o -> o.data = .dict es ep -> H b = none := fun {b o es ep} e d => by
      cases q : H b with
      | none => rfl
      | some u =>
        have e' : b = a := hA b (by rw [q]; simp);subst e';rw [ha] at e; cases e;have d' : Data.seq vs.toArray _ = Data.dict es ep := d;cases d'
    have nsK : ∀ {b : Addr} {m : Str -> Option Value}, s₁.heap.Ns b m -> (hidT s₁.heap H).Ns b m := fun {b m} ⟨o, es, ep, e, d, r⟩ => ⟨o, es, ep, base_of e (noA e d), d, r⟩
    have hKb : K.In (hidT s₁.heap H) := fun b o e => base_of (KX b o e) (by
      cases q : H b with
      | none => rfl
      | some u =>
        have e' : b = a := hA b (by rw [q]; simp);subst e'
        rw [hK (by rw [q]; simp)] at e; cases e)
    have hM : Mod K mg (hidT s₁.heap H) := ⟨hKb, nsK hns, ⟨mb, nsK hb, hbb⟩, let ⟨mc, h1, h2⟩ := hlim; ⟨mc, nsK h1, h2⟩⟩;have e0 : Env0 P w K mg (hidT s₁.heap H) callerA [] s₁ H := ⟨rfl, hM, fun b o e => zhv e, Nat.le_of_eq (zer _ _), trivial, fun b hb => absurd (show b ∈ ([] : List Addr) from hb) (by simp), hok, .of_eq hg⟩;refine codeAny_mono ((F _ hKb (nsK hns)).run callerA [] s₁ H ⟨[.ref a], []⟩ [.ref a] [.ref a] _ _ hr e0 (hbind s₁ (.ref a)) (.cons rfl .nil) (hsp H hO hS)) fun r s' h => ?_
    cases r with
    | error e => exact (hCX H e s' h).elim
    | ok fl =>
      cases fl with
      | next => exact False.elim h
      | brk => exact False.elim h
      | cont => exact False.elim h
      | ret u =>
        obtain ⟨v, H', os, bare, un, hok', r', q⟩ := h;have q' : v = .bl true := q;subst q';obtain rfl : u = Value.bool true := r';refine ⟨rfl, OldK.of_keep fun b o e => ?_, os, bare⟩
        cases q : H b with
        | none => exact un.keep b o e q (by intro z; exact absurd (show b ∈ ([] : List Addr) from z) (by simp)) (by simp)
        | some u =>
          rcases hO b with z | ⟨ob, xs, z⟩
          . rw [q] at z; cases z
          . have z2 := un.frzs b ob _ z
            obtain ⟨e1, _⟩ := hok b _ z;obtain ⟨e2, _⟩ := hok' b _ z2;rw [e] at e1; cases e1;exact e2
  cases hk : K.lookup a with
  | some o =>
    -- the script is one of the module's own objects
    have e := KX a o hk;rw [ha] at e;cases e;refine core (fun _ => none) (fun _ => .inl rfl) (.inr ⟨_, vs.toArray, _, hk, rfl, rfl, rfl, by rw [Zr, lenV]; exact hl, by simpa using rv⟩) (fun b u z => by have z' : (none : Option HO) = some u := z; cases z') (fun b z => absurd rfl z) fun z => absurd rfl z
  | none =>
    refine core (fun b => if b = a then some (.frz { cls := .type "list", data := .seq vs.toArray } (.lst (ns.map V.int))) else none) (fun b => ?_) (.inl (.inr ⟨{ cls := .type "list", data := .seq vs.toArray }, if_pos rfl⟩)) (fun b u z => ?_) (fun b z => ?_) fun _ => hk
    . by_cases hb : b = a
      . exact .inr ⟨_, _, if_pos hb⟩
      . exact .inl (if_neg hb)
    . by_cases hb : b = a
      . have z' := (if_pos hb).symm.trans z
        cases z';subst hb;exact ⟨ha, by rw [Za]; exact hl, vs, _, rv, ha⟩
      . have z' := (if_neg hb).symm.trans z
        cases z'
    . by_cases hb : b = a
      . exact hb
      . exact absurd (if_neg hb) z
end L2
namespace L2
open PySem PySem.Spec PyProof.Rows
abbrev KOf {K : Fg} {h : Heap} (_ : K.In h) : Fg := K
theorem zhf {l : PySem.W.OpenLaw} {n k : Nat} {q : Program} {loose : List Str} {XP : (Str -> Option Value) -> Heap -> Prop} {YP : World -> Heap -> Prop} {d : DefRec} {K : Params -> Fg} {CX : World -> CXT} {sp : World -> Sp} {x : Str}
    (hn : l.most = some n) (hn2 : n <= sizeLine) (hdf : d.params.defaults = []) (hr : Room k callerA)
    (hY : ∀ (w : World) (h : Heap), YP w h -> (K w.params).In h)
    (F : ∀ (w : World) (mg : Str -> Option Value) (fa : Addr) (h : Heap), (K w.params).In h -> h.Ns mainGlobals mg -> mg d.name = some (.ref fa) ->
      ∃ fd : FuncData, (∀ (s : Shared) (u : Value), BindsTo s fd ⟨[u], []⟩ [(x, u)]) /\
        ∀ base : Heap, (K w.params).In base -> base.Ns mainGlobals mg -> FnOk l.prog w (K w.params) mg base (CX w) k fa fd [x] (sp w))
    (hsp : ∀ (w : World) (H : Hp) (a : Addr) (ns : List Int), ns.length <= n -> Only H -> SqL (K w.params) H a (ns.map V.int) -> sp w [.ref a] H (fun v _ => v = .bl true) fun _ _ _ => False)
    (hCX : ∀ (w : World) (H : Hp) (s : Shared) (e : Value) (s' : Shared), CX w [] H s (fun _ _ _ => False) e s' -> False) :
    PySem.W.WalkO q loose XP YP l.row.toRowW d [] (fun f vs => PySem.call f vs) := by
  refine Att.zbe hn hdf fun w s₀ s₁ mg mb fa o pm cd doc a vs ns G Y ho hd hcd hmg hobj hints hlen hg => ?_
  have KX := hY w _ Y;obtain ⟨fd, hb, hF⟩ := F w mg fa _ KX G.T.g hmg;exact zgy KX G.T.g G.T.b G.T.builtins G.T.nolimit hg hobj hints (Zd hlen hn2) hr hF hb (fun H hO hS => hsp w H a ns hlen hO hS) fun H e s' => hCX w H s₁ e s'
theorem zgl {l : PySem.W.OpenLaw} {n k : Nat} {q : Program} {loose : List Str} {XP : (Str -> Option Value) -> Heap -> Prop} {YP : World -> Heap -> Prop} {d : DefRec} {K : Params -> Fg} {CX : CXT} {sp : Fg -> Sp} {x : Str}
    (hn : l.most = some n) (hn2 : n <= sizeLine) (hdf : d.params.defaults = []) (hr : Room k callerA)
    (hY : ∀ (w : World) (h : Heap), YP w h -> (K w.params).In h)
    (F : ∀ (w : World) (mg : Str -> Option Value) (fa : Addr) (h : Heap), (K w.params).In h -> h.Ns mainGlobals mg -> mg d.name = some (.ref fa) ->
      ∃ fd : FuncData, (∀ (s : Shared) (u : Value), BindsTo s fd ⟨[u], []⟩ [(x, u)]) /\
        ∀ base : Heap, (K w.params).In base -> base.Ns mainGlobals mg -> FnOk l.prog w (K w.params) mg base CX k fa fd [x] (sp (K w.params)))
    (hsp : ∀ (K : Fg) (H : Hp) (a : Addr) (ns : List Int), ns.length <= n -> Only H -> SqL K H a (ns.map V.int) -> sp K [.ref a] H (fun v _ => v = .bl true) fun _ _ _ => False)
    (hCX : ∀ (H : Hp) (s : Shared) (e : Value) (s' : Shared), CX [] H s (fun _ _ _ => False) e s' -> False) :
    PySem.W.WalkO q loose XP YP l.row.toRowW d [] (fun f vs => PySem.call f vs) :=
  zhf (K := K) (CX := fun _ => CX) (sp := fun w => sp (K w.params)) hn hn2 hdf hr hY F (fun w H a ns h1 h2 h3 => hsp (K w.params) H a ns h1 h2 h3) fun _ H s e s' => hCX H s e s'
end L2
namespace L2
open PySem PySem.Spec PyProof.Rows
def u4 (s : Stmt) : Arguments := match s with
  | .FunctionDef _ a _ _ _ _ _ _ _ _ => a
  | _ => { posonlyargs := [], args := [], vararg := none, kwonlyargs := [], kw_defaults := [], kwarg := none, defaults := [] }
def y1 (s : Stmt) : List Stmt := match s with
  | .FunctionDef _ _ b _ _ _ _ _ _ _ => b
  | _ => []
def zl (s : Stmt) : Scope := match s with
  | .FunctionDef _ _ _ _ _ _ sc _ _ _ => sc
  | _ => { kind := .function, names := [], isGenerator := false, isCoroutine := false }
abbrev CX0 : CXT := fun _ _ _ _ _ _ => False
abbrev E0 : XK := fun _ _ _ => False
theorem pass0 {X : Cx} : jc CX0 X E0 := fun _ _ _ _ _ _ _ h => h.elim
structure Fun (K : Fg) (x qual : Str) (st : Stmt) (f : Addr) (fd : FuncData) : Prop where
  ex : ∃ (oc : Value) (od : Option Addr) (kV doc pm : Value) (an : Option Addr) (cdv ct : Value) (osl : Array (Option Value)),
    fd = PySem.W.fnOf x qual (u4 st) (y1 st) (zl st) .none kV doc pm an cdv ct /\ K.lookup f = some ⟨oc, od, .func fd, osl⟩ /\ PySem.W.codeIn K cdv qual = true
  kp : PySem.W.keepIn K (.ref f) = true
section
variable {P : Program} {w : World} {K : Fg} {mg : Str -> Option Value} {base : Heap}
theorem Fun.ok {x qual : Str} {st : Stmt} {f : Addr} {fd : FuncData} {N ps : List Str} {k : Nat} {sp : Sp} (F : Fun K x qual st f fd) (S : zr N ps (zl st)) (len : ∀ vs H Q E, sp vs H Q E -> vs.length = ps.length)
    (hbody : ∀ (cdv : Value) (A : Around) (outer : List Env) (s : Shared) (H : Hp) (vs : List V) (Q : VK) (E : XK), Room k (A.deeper (envOfC qual (zl st) s.heap.objs.size f cdv)) -> sp vs H Q E ->
      ∃ t, PSs (cxOf CX0 P w K mg base N qual (zl st) f cdv A outer s H E).nox (y1 st) t /\ t { nx := fun _ H' => Q .non H', rt := Q } (start N vs) H) : FnOk P w K mg base CX0 (k + 1) f fd ps sp := by
  obtain ⟨oc, od, kV, doc, pm, an, cdv, ct, osl, rfl, lk, hcd⟩ := F.ex;refine fn_of lk hcd S len fun A outer s H vs Q E hr hsp => ?_
  obtain ⟨t, h, q⟩ := hbody cdv A outer s H vs Q E hr hsp;exact ⟨t, h.nox, q⟩
theorem Fun.binds {x qual : Str} {st : Stmt} {f : Addr} {fd : FuncData} {ps : List Str} (F : Fun K x qual st f fd)
    (h : ∀ (kV doc pm : Value) (an : Option Addr) (cdv ct : Value) (us : List Value), us.length = ps.length -> bindArgs (PySem.W.fnOf x qual (u4 st) (y1 st) (zl st) .none kV doc pm an cdv ct) ⟨us, []⟩ = pure (ps.zip us)) : Binds K fd ps [] := by
  obtain ⟨oc, od, kV, doc, pm, an, cdv, ct, osl, rfl, lk, hcd⟩ := F.ex;exact .all (h kV doc pm an cdv ct)
theorem ze4 {x qual : Str} {st : Stmt} {f : Addr} {oc : Value} {od an : Option Addr} {osl : Array (Option Value)} {kV doc pm cdv ct : Value} (l : K.lookup f = some ⟨oc, od, .func (PySem.W.fnOf x qual (u4 st) (y1 st) (zl st) .none kV doc pm an cdv ct), osl⟩)
    (c : PySem.W.codeIn K cdv qual = true) (k : PySem.W.keepIn K (.ref f) = true) : Fun K x qual st f (PySem.W.fnOf x qual (u4 st) (y1 st) (zl st) .none kV doc pm an cdv ct) := ⟨⟨oc, od, kV, doc, pm, an, cdv, ct, osl, rfl, l, c⟩, k⟩
end
theorem hu_of {A : Around} {k : Nat} (hr : Room k A) : A.units + 1 < cLine := ZQ (Nat.add_le_add_left (by decide : 1 <= 64) _) hr.units
section
variable {X : Cx}
theorem pv (i : Nat) {x : Str} {pos : Pos} (hN : X.N[i]? = some x := by rfl) (hv : Vis X.env.scope x := by first | exact Or.inl rfl | exact Or.inr (Or.inl rfl) | exact Or.inr (Or.inr rfl)) (hd : (x == ("__debug__" : Str)) = false := by decide)
    (hcd : (x == ("__classdict__" : Str)) = false := by decide) : PE X (.Name x pos) (tVar i) := pe_var hN hv hd hcd
end
theorem iteF {A B : Prop} (h : B) : if false = true then A else B := by
  rw [if_neg Bool.false_ne_true];exact h
theorem iteT {A B : Prop} (h : A) : if true = true then A else B := by
  rw [if_pos rfl];exact h
theorem ite2 {c A B : Prop} [Decidable c] (h1 : c -> A) (h2 : ¬ c -> B) : if c then A else B := by
  by_cases h : c
  . rw [if_pos h]
    exact h1 h
  . rw [if_neg h]
    exact h2 h
theorem zc5 {c A B : Prop} [Decidable c] (hc : c) (h : B) : if (!decide c) = true then A else B := by
  rw [decide_eq_true hc];exact iteF h
def Same (H H' : Hp) : Prop := ∀ b o, H b = some o -> H' b = some o
theorem Same.refl (H : Hp) : Same H H := fun _ _ h => h
theorem Same.trans {H H1 H2 : Hp} (a : Same H H1) (b : Same H1 H2) : Same H H2 := fun c o h => b c o (a c o h)
theorem Same.free {H H' : Hp} (e : Same H H') {l : Addr} (h : H' l = Option.none) : H l = Option.none := by
  cases q : H l with
  | none => rfl
  | some o =>
    rw [e l o q] at h;cases h
theorem Same.seq {K : Fg} {H H' : Hp} {a : Addr} {xs : List V} (e : Same H H') (h : SqL K H a xs) : SqL K H' a xs := by
  rcases h with (h | ⟨o, h⟩) | h
  . exact .inl (.inl (e _ _ h))
  . exact .inl (.inr ⟨o, e _ _ h⟩)
  . exact .inr h
end L2
namespace L2
open PySem PySem.Spec PyProof.Rows
section
variable {κ : Type} [DecidableEq κ]
def valV (kvs : List (κ × V)) (k : κ) : Option V := (kvs.find? fun kv => decide (kv.1 = k)).map (·.2)
def putK (kvs : List (κ × V)) (k : κ) (v : V) : List (κ × V) :=
  if (kvs.any fun kv => decide (kv.1 = k)) = true then kvs.map (fun kv => if kv.1 = k then (kv.1, v) else kv) else kvs ++ [(k, v)]
def bj (kvs : List (κ × V)) (k : κ) : List (κ × V) := kvs.filter fun kv => decide (kv.1 ≠ k)
theorem o5 {p : κ × V} {r : List (κ × V)} {k : κ} (e : p.1 = k) : valV (p :: r) k = some p.2 := by simp [valV, Yl, e]
theorem uy {p : κ × V} {r : List (κ × V)} {k : κ} (e : ¬ p.1 = k) : valV (p :: r) k = valV r k := by simp [valV, Yl, e]
theorem ir (k : κ) : ∀ kvs : List (κ × V), (kvs.any fun kv => decide (kv.1 = k)) = (valV kvs k).isSome
  | [] => rfl
  | p :: r => by
    rw [List.any_cons]
    by_cases e : p.1 = k
    . simp only [o5 e, decide_eq_true e, Bool.true_or, Option.isSome_some]
    . rw [uy e, decide_eq_false e, Bool.false_or]; exact ir k r
theorem ii (kvs : List (κ × V)) (k : κ) (v : V) : (putK kvs k v).length <= kvs.length + 1 := by
  unfold putK
  split
  . rw [Za]; omega
  . rw [Zo, ZM, Ym]; omega
theorem zac {kvs : List (κ × V)} {k : κ} (v : V) (h : valV kvs k = none) : putK kvs k v = kvs ++ [(k, v)] := by
  unfold putK;rw [ir, h];exact if_neg (by decide)
theorem RelO.isSome_eq {o : Option V} {u : Option Value} (r : RelO o u) : o.isSome = u.isSome := by
  cases o with
  | none => cases u with
    | none => rfl
    | some _ => exact (show False from r).elim
  | some _ => cases u with
    | none => exact (show False from r).elim
    | some _ => rfl
theorem RelO.getD {o : Option V} {u : Option Value} {d : V} {d' : Value} (r : RelO o u) (rd : RelV d d') : RelV (o.getD d) (u.getD d') := by
  cases o with
  | none => cases u with
    | none => exact rd
    | some _ => exact (show False from r).elim
  | some _ => cases u with
    | none => exact (show False from r).elim
    | some _ => exact r
theorem KV.val {kvs : List (κ × V)} {vs : List (κ × Value)} (r : KV kvs vs) (k : κ) : RelO (valV kvs k) (valueAt vs k) := by
  unfold KV at r
  induction r with
  | nil => exact True.intro
  | @cons p q ps qs h t ih =>
    obtain ⟨h1, h2⟩ := h
    by_cases e : p.1 = k
    . have e' : q.1 = k := h1.symm.trans e
      have b : valueAt (q :: qs) k = some q.2 := by simp [valueAt, Yl, e']
      rw [o5 e, b]; exact h2
    . have e' : ¬ q.1 = k := fun z => e (h1.trans z)
      have b : valueAt (q :: qs) k = valueAt qs k := by simp [valueAt, Yl, e']
      rw [uy e, b]; exact ih
theorem KV.any {kvs : List (κ × V)} {vs : List (κ × Value)} (r : KV kvs vs) (k : κ) : (kvs.any fun kv => decide (kv.1 = k)) = vs.any fun kv => decide (kv.1 = k) := by
  unfold KV at r
  induction r with
  | nil => rfl
  | cons h t ih => rw [List.any_cons, List.any_cons, ih, h.1]
theorem KV.repl {kvs : List (κ × V)} {vs : List (κ × Value)} (r : KV kvs vs) (k : κ) {y : V} {u : Value} (ry : RelV y u) :
    KV (kvs.map fun kv => if kv.1 = k then (kv.1, y) else kv) (vs.map fun kv => if kv.1 = k then (kv.1, u) else kv) := by
  unfold KV at r ⊢
  induction r with
  | nil => exact .nil
  | @cons p q ps qs h t ih =>
    rw [ZL, ZL];refine .cons ?_ ih;obtain ⟨h1, h2⟩ := h
    by_cases e : p.1 = k
    . rw [if_pos e, if_pos (h1.symm.trans e)]; exact ⟨h1, ry⟩
    . rw [if_neg e, if_neg (fun z => e (h1.trans z))]; exact ⟨h1, h2⟩
theorem KV.put {kvs : List (κ × V)} {vs : List (κ × Value)} (r : KV kvs vs) (k : κ) {y : V} {u : Value} (ry : RelV y u) : KV (putK kvs k y) (stored vs k u) := by
  unfold putK stored;rw [r.any k]
  by_cases e : (vs.any fun kv => decide (kv.1 = k)) = true
  . rw [if_pos e, if_pos e]; exact r.repl k ry
  . rw [if_neg e, if_neg e]; exact Paired.snoc r ⟨rfl, ry⟩
theorem KV.drop {kvs : List (κ × V)} {vs : List (κ × Value)} (r : KV kvs vs) (k : κ) : KV (bj kvs k) (without vs k) := by
  unfold KV at r ⊢;unfold bj without
  induction r with
  | nil => exact .nil
  | @cons p q ps qs h t ih =>
    obtain ⟨h1, h2⟩ := h;rw [List.filter_cons, List.filter_cons]
    by_cases e : p.1 = k
    . have a : ¬ decide (p.1 ≠ k) = true := by simp [e]
      have b : ¬ decide (q.1 ≠ k) = true := by simp [h1.symm.trans e]
      rw [if_neg a, if_neg b]; exact ih
    . have e' : ¬ q.1 = k := fun z => e (h1.trans z)
      have a : decide (p.1 ≠ k) = true := by simp [e]
      have b : decide (q.1 ≠ k) = true := by simp [e']
      rw [if_pos a, if_pos b]; exact .cons ⟨h1, h2⟩ ih
theorem KV.keys {kvs : List (κ × V)} {vs : List (κ × Value)} (r : KV kvs vs) : kvs.map (·.1) = vs.map (·.1) := by
  unfold KV at r
  induction r with
  | nil => rfl
  | cons h t ih => rw [ZL, ZL, ih, h.1]
theorem KV.length {kvs : List (κ × V)} {vs : List (κ × Value)} (r : KV kvs vs) : kvs.length = vs.length := Paired.length r
end
theorem zc6 {P : Program} {w : World} {k : Key} {u : Value} (r : RelV (kV k) u) : (x8 P w).is k u = true := by
  cases k with
  | inl i => obtain ⟨t, e⟩ := (show ∃ t, u = Value.int i t from r); subst e; exact zbm P w i t
  | inr x => obtain ⟨t, e⟩ := (show ∃ t, u = Value.str x t from r); subst e; exact zbg P w x t
theorem cj {P : Program} {w : World} : ∀ {ks : List Key} {us : List Value}, Vals (ks.map kV) us -> ItemsAre (x8 P w) ks us
  | [], _, r => by rw [YH] at r; cases r; exact .nil
  | k :: ks, _, r => by
    rw [ZL] at r
    cases r with
    | cons h t => exact .cons (zc6 h) (cj t)
abbrev KT (H : Hp) : List (List Key × V) -> List (List Key × Addr × Value) -> Prop := Paired fun p q => p.1 = q.1 /\ H q.2.1 = some (.tup (p.1.map kV)) /\ RelV p.2 q.2.2
theorem KT.val {H : Hp} {kvs : List (List Key × V)} {xs : List (List Key × Addr × Value)} (r : KT H kvs xs) (k : List Key) : RelO (valV kvs k) ((atKey xs k).map (·.2)) := by
  induction r with
  | nil => exact True.intro
  | @cons p q ps qs h t ih =>
    obtain ⟨h1, _, h2⟩ := h
    by_cases e : p.1 = k
    . have e' : q.1 = k := h1.symm.trans e
      have b : atKey (q :: qs) k = some q.2 := by simp [atKey, Yl, e']
      rw [o5 e, b]; exact h2
    . have e' : ¬ q.1 = k := fun z => e (h1.trans z)
      have b : atKey (q :: qs) k = atKey qs k := by simp [atKey, Yl, e']
      rw [uy e, b]; exact ih
theorem KT.repl {H : Hp} {kvs : List (List Key × V)} {xs : List (List Key × Addr × Value)} (r : KT H kvs xs) (k : List Key) {y : V} {u : Value} (ry : RelV y u) :
    KT H (kvs.map fun kv => if kv.1 = k then (kv.1, y) else kv) (xs.map (putAt k u)) := by
  induction r with
  | nil => exact .nil
  | @cons p q ps qs h t ih =>
    rw [ZL, ZL];refine .cons ?_ ih;obtain ⟨h1, h2, h3⟩ := h;unfold putAt
    by_cases e : p.1 = k
    . rw [if_pos e, if_pos (h1.symm.trans e)]; exact ⟨h1, h2, ry⟩
    . rw [if_neg e, if_neg (fun z => e (h1.trans z))]; exact ⟨h1, h2, h3⟩
theorem KT.put {H : Hp} {kvs : List (List Key × V)} {xs : List (List Key × Addr × Value)} (r : KT H kvs xs) (k : List Key) {b : Addr} {y : V} {u : Value} (hb : H b = some (.tup (k.map kV))) (ry : RelV y u) :
    KT H (putK kvs k y) (storedH xs k b u) := by
  have e : (kvs.any fun kv => decide (kv.1 = k)) = (atKey xs k).isSome := by
    rw [ir, (r.val k).isSome_eq, Option.isSome_map]
  unfold putK storedH;rw [e]
  by_cases q : (atKey xs k).isSome = true
  . rw [if_pos q, if_pos q]; exact r.repl k ry
  . rw [if_neg q, if_neg q]; exact Paired.snoc r ⟨rfl, hb, ry⟩
theorem KT.keeps {H H' : Hp} {kvs : List (List Key × V)} {xs : List (List Key × Addr × Value)} (r : KT H kvs xs) (ht : ∀ b ys, H b = some (.tup ys) -> H' b = some (.tup ys)) : KT H' kvs xs :=
  Paired.mapP r fun _ _ z => ⟨z.1, ht _ _ z.2.1, z.2.2⟩
section
variable {P : Program} {w : World} {H : Hp} {h : Heap} {a : Addr}
theorem rd_of {u : HO} (ok : HOk P w H h) (e : Rd H a u) : ObjOk P w H h a u := e.ok ok
theorem zdr {kvs : List (Key × V)} (ok : HOk P w H h) (e : Rd H a (.dK kvs)) : kvs.length <= sizeLine /\ (a == sysModules) = false /\ ∃ vs, KV kvs vs /\ h.DictOf (x8 P w) a vs :=
  show ObjOk P w H h a (.dK kvs) from rd_of ok e
theorem dk_of {kvs : List (Key × V)} (ok : HOk P w H h) (e : H a = some (.dK kvs)) : kvs.length <= sizeLine /\ (a == sysModules) = false /\ ∃ vs, KV kvs vs /\ h.DictOf (x8 P w) a vs := zdr ok (.inl e)
theorem zan {ks : List Key} (ok : HOk P w H h) (e : H a = some (.tup (ks.map kV))) : (tupleKind (x8 P w)).is h ks a := by
  obtain ⟨_, its, r, o, h1, h2, n, h3⟩ := (show ObjOk P w H h a (.tup (ks.map kV)) from ok a _ e);exact ⟨o, its.toArray, n, h1, h2, h3.1, by simpa using cj r⟩
theorem zdj {kvs : List (List Key × V)} (ok : HOk P w H h) (e : Rd H a (.dT kvs)) : kvs.length <= sizeLine /\ (a == sysModules) = false /\
    ∃ xs, KT H kvs xs /\ h.DictOfH (tupleKind (x8 P w)) a xs := by
  obtain ⟨z, y, xs, r, o, es, ep, h1, h2, h3, h4, h5⟩ := (show ObjOk P w H h a (.dT kvs) from rd_of ok e);refine ⟨z, y, xs, r, o, es, ep, h1, h2, h3, h4, fun x hx => ?_, h5⟩
  have all : ∀ {l : List (List Key × V)} {m : List (List Key × Addr × Value)}, KT H l m -> ∀ x ∈ m, (tupleKind (x8 P w)).is h x.1 x.2.1 := by
    intro l m q
    induction q with
    | nil => intro x hx; exact nomatch hx
    | @cons p q ps qs hq t ih =>
      intro x hx
      rcases ZK.mp hx with e | hx
      . subst e
        exact zan ok (by rw [<- hq.1]; exact hq.2.1)
      . exact ih x hx
  exact all r x hx
theorem iz {kvs : List (List Key × V)} (ok : HOk P w H h) (e : H a = some (.dT kvs)) : kvs.length <= sizeLine /\ (a == sysModules) = false /\
    ∃ xs, KT H kvs xs /\ h.DictOfH (tupleKind (x8 P w)) a xs := zdj ok (.inl e)
end
def DGet (H : Hp) (a : Addr) (y : V) (r : Option V) : Prop :=
  (∃ kvs k, Rd H a (.dK kvs) /\ y = kV k /\ r = valV kvs k) \/ ∃ kvs k b, Rd H a (.dT kvs) /\ y = .ref b /\ H b = some (.tup (k.map kV)) /\ r = valV kvs k
def DPut (H : Hp) (a : Addr) (y v : V) (H' : Hp) : Prop :=
  (∃ kvs k, H a = some (.dK kvs) /\ y = kV k /\ kvs.length < sizeLine /\ H' = upd H a (.dK (putK kvs k v))) \/
  ∃ kvs k b, H a = some (.dT kvs) /\ y = .ref b /\ H b = some (.tup (k.map kV)) /\ kvs.length < sizeLine /\ H' = upd H a (.dT (putK kvs k v))
theorem DGet.k {H : Hp} {a : Addr} {kvs : List (Key × V)} {k : Key} (e : H a = some (.dK kvs)) : DGet H a (kV k) (valV kvs k) := .inl ⟨kvs, k, .inl e, rfl, rfl⟩
theorem DGet.t {H : Hp} {a b : Addr} {kvs : List (List Key × V)} {k : List Key} (e : H a = some (.dT kvs)) (eb : H b = some (.tup (k.map kV))) : DGet H a (.ref b) (valV kvs k) := .inr ⟨kvs, k, b, .inl e, rfl, eb, rfl⟩
theorem DPut.k {H : Hp} {a : Addr} {kvs : List (Key × V)} {k : Key} {v : V} (e : H a = some (.dK kvs)) (hl : kvs.length < sizeLine) : DPut H a (kV k) v (upd H a (.dK (putK kvs k v))) := .inl ⟨kvs, k, e, rfl, hl, rfl⟩
theorem DPut.t {H : Hp} {a b : Addr} {kvs : List (List Key × V)} {k : List Key} {v : V} (e : H a = some (.dT kvs)) (eb : H b = some (.tup (k.map kV))) (hl : kvs.length < sizeLine) :
    DPut H a (.ref b) v (upd H a (.dT (putK kvs k v))) := .inr ⟨kvs, k, b, e, rfl, eb, hl, rfl⟩
section
variable {X : Cx} {pins : List (Addr × Obj)} {σ : St} {H : Hp} {s : Shared} {a : Addr} {y v : V} {u r : Value} {o : Option V} {A : Around} {E : Value -> Shared -> Prop}
theorem Inv.big (I : Inv X pins σ H s) : sysModules < s.heap.objs.size := by
  have h : mainGlobals < s.heap.objs.size := (I.mod.glob.keeps I.bk).lt;exact Nat.lt_trans (by decide) h
theorem ze0 {Q : Value -> Shared -> Prop} (hu : A.units + 1 < cLine) (I : Inv X pins σ H s) (g : DGet H a y (some v)) (ry : RelV y u) (h : ∀ w' s', Inv X pins σ H s' -> RelV v w' -> Q w' s') :
    wpAny (model X.prog X.w) A (getItem (.ref a) u) Q E s := by
  rcases g with ⟨kvs, k, e, ey, l⟩ | ⟨kvs, k, b, e, ey, eb, l⟩
  . subst ey
    obtain ⟨z, hd, vs, rel, dd⟩ := zdr I.hok e;obtain ⟨w', hw, rw'⟩ := RelO.some_of (v := v) (o := valueAt vs k) (by rw [l]; exact rel.val k);exact wpAny_getItem_of (zc6 ry) dd.mapOf hw (h w' _ (I.tok _) rw')
  . subst ey
    cases (show u = Value.ref b from ry);obtain ⟨z, hd, xs, rel, dd⟩ := zdj I.hok e;obtain ⟨w', hw, rw'⟩ := RelO.some_of (v := v) (o := (atKey xs k).map (·.2)) (by rw [l]; exact rel.val k);obtain ⟨p, hp, hp2⟩ := Option.map_eq_some_iff.mp hw;refine wpAny_getItem_heap (tupleKind_room_in1 hu) (zan I.hok eb) dd hp ?_;rw [hp2];exact h w' _ (I.tok _) rw'
theorem zcu {h' : Heap} {t' : Nat} {ob : HO} (I : Inv X pins σ H s) (mu : Mut (H a)) (hs : Heap.SameBut a s.heap h') (he : ∃ q, h'.get? a = some q) (new : ObjOk X.prog X.w (upd H a ob) h' a ob) :
    Inv X pins σ (upd H a ob) { s with heap := h', toks := t' } :=
  I.write (x := a) (e := a) mu (.inl rfl) (fun b q hb z => (hs.2 b hb).trans z) he new
theorem dk_new {P : Program} {w : World} {H' : Hp} {h' : Heap} {kvs : List (Key × V)} {vs : List (Key × Value)} (z : kvs.length <= sizeLine) (hd : (a == sysModules) = false) (rel : KV kvs vs) (dd : h'.DictOf (x8 P w) a vs) :
    ObjOk P w H' h' a (.dK kvs) := ⟨z, hd, vs, rel, dd⟩
theorem ze3 {H' : Hp} {Q : Unit -> Shared -> Prop} (hu : A.units + 1 < cLine) (I : Inv X pins σ H s) (g : DPut H a y v H') (ry : RelV y u) (rv : RelV v r) (h : ∀ s', Inv X pins σ H' s' -> Q () s') :
    wpAny (model X.prog X.w) A (setItem (.ref a) u r) Q E s := by
  rcases g with ⟨kvs, k, e, ey, l, eH⟩ | ⟨kvs, k, b, e, ey, eb, l, eH⟩
  . subst ey eH
    obtain ⟨z, hd, vs, rel, dd⟩ := dk_of I.hok e;have hz : vs.length <= sizeLine := by rw [<- rel.length]; exact z
    have hl : (putK kvs k v).length <= sizeLine := by have := ii kvs k v; omega
    refine wpAny_setItem_pairs (hsz := hz) (zc6 ry) dd fun h' dd' hs => h _ ?_
    have he : ∃ q, h'.get? a = some q := let ⟨q, _, _, hq, _⟩ := dd'; ⟨q, hq⟩;exact zcu I (by rw [e]; exact True.intro) hs he (dk_new hl hd (rel.put k rv) dd')
  . subst ey eH
    cases (show u = Value.ref b from ry);obtain ⟨z, hd, xs, rel, dd⟩ := iz I.hok e;have hz : xs.length <= sizeLine := by rw [<- Paired.length rel]; exact z
    have hl : (putK kvs k v).length <= sizeLine := by have := ii kvs k v; omega
    refine wpAny_setItem_heap (hsz := hz) (tupleKind_room_in1 hu) (zan I.hok eb) dd fun h' dd' hs => h _ ?_
    obtain ⟨q, es, ep, hq, h2, h3, h4, _, h5⟩ := dd';refine zcu I (by rw [e]; exact True.intro) hs ⟨q, hq⟩ ⟨hl, hd, _, (rel.put k eb rv).keeps fun c ys ec => ?_, q, es, ep, hq, h2, h3, h4, h5⟩;rw [zx (ne_of ec e (fun z => nomatch z))];exact ec
end
section
variable {X : Cx} {pins : List (Addr × Obj)} {σ : St} {H : Hp} {s : Shared} {a : Addr} {kvs : List (Key × V)} {k : Key} {u : Value} {A : Around} {E : Value -> Shared -> Prop}
end
def NoSl (i : Expr) : Prop := ∀ ov iv, subscripted i false ov iv = operate [ov, iv] (getItem ov iv)
theorem zim {prog : Program} {w : World} {A : Around} {E : Value -> Shared -> Prop} {s : Shared} {env : Env} {value slice : Expr} {pos : Pos} {T id : String} {Q : Value -> Shared -> Prop}
    (hl : typeLookup (.type T) "__getitem__" = pure (some (.builtin id))) (hs : NoSl slice)
    (h : wpAny (model prog w) A (eval value env) (fun o s₁ => wpAny (model prog w) A (eval slice env) (fun i s₂ => s₂.TypeIs o T /\ wpAny (model prog w) A (getItem o i) Q E s₂) E s₁) E s) :
    wpAny (model prog w) A (eval (.Subscript value slice pos) env) Q E s := by
  refine Subscript_ (wpAny_mono h (fun o s₁ h₁ => wpAny_mono h₁ (fun i s₂ h₂ => ?_) fun _ _ x => x) fun _ _ x => x);obtain ⟨hT, h₂⟩ := h₂;unfold subscriptTail;refine wpAny_bind ?_;rw [getitemInPython_of_ne hT.not_modules];refine wpAny_bind (wpAny_specialOf hT hl ?_)
  have fin : wpAny (model prog w) A (subscripted slice false o i) (fun r s₃ => wpAny (model prog w) A (letTemporaryGo value o r >>= fun _ => pure r) Q E s₃) E s₂ := by
    rw [hs o i];exact wpAny_operating (wpAny_mono h₂ (fun r s₃ h₃ => wpAny_bind (wpAny_letTemporaryGo (wpAny_pure h₃))) fun _ _ x => x)
  first
    | exact wpAny_pure (wpAny_bind fin)
    | exact wpAny_bind (wpAny_pure (wpAny_bind fin))
    | exact wpAny_bind fin
theorem zbk {X : Cx} {pins : List (Addr × Obj)} {σ : St} {H : Hp} {s : Shared} {a : Addr} {y : V} {o : Option V} (I : Inv X pins σ H s) (g : DGet H a y o) : s.TypeIs (.ref a) "dict" := by
  rcases g with ⟨kvs, k, e, _, _⟩ | ⟨kvs, k, b, e, _, _, _⟩
  . obtain ⟨_, _, vs, _, dd⟩ := zdr I.hok e
    exact dd.typeIs
  . obtain ⟨_, _, xs, _, dd⟩ := zdj I.hok e
    exact dd.typeIs
def tDGet (td ty : TE) : TE := fun σ H Q => td σ H fun x H1 => ty σ H1 fun y H2 => ∃ a v, x = .ref a /\ DGet H2 a y (some v) /\ Q v H2
section
variable {X : Cx} {o i e value : Expr} {pos pos' tpos : Pos} {td ty tv : TE}
theorem df (hu : X.A.units + 1 < cLine) (ho : PE X o td) (hi : PE X i ty) (hs : NoSl i) : PE X (.Subscript o i pos) (tDGet td ty) := by
  intro pins s σ H Q I h;refine zim PySem.F.slot_dict_getitem.lookup hs (thn (ho pins s σ H _ I h) fun u s1 ⟨x, H1, I1, rx, q1⟩ => thn (hi pins s1 σ H1 _ I1 q1) fun iv s2 ⟨y, H2, I2, ry, a, v, ex, g, q2⟩ => ?_);subst ex;obtain rfl : u = Value.ref a := rx;exact ⟨zbk I2 g, ze0 hu I2 g ry fun w' s3 I3 rw' => ⟨v, H2, I3, rw', q2⟩⟩
end
theorem zg1 {P : Program} {w : World} {H : Hp} (h : Heap) (hb : sysModules < h.objs.size) : ObjOk P w H (h.push { cls := .type "dict", data := .dict #[] }) h.objs.size (.dT []) :=
  ⟨ZE _, beq_eq_false_iff_ne.mpr (Ne.symm (Zs hb)), [], .nil, _, #[], 0, Heap.get?_push_size _ rfl, ⟨rfl, rfl, rfl⟩, rfl, rfl, Yv⟩
def tDNewK : TE := fun _ H Q => ∀ p, H p = none -> Q (.ref p) (upd H p (.dK []))
def zex : TE := fun _ H Q => ∀ p, H p = none -> Q (.ref p) (upd H p (.dT []))
section
variable {X : Cx} {pos : Pos}
theorem al : PE X (.Dict [] [] pos) zex := fun pins s σ H Q I h =>
  wpAny_Dict_empty ⟨.ref s.heap.objs.size, _, I.laid (a := s.heap.objs.size) (o := .dT []) (t' := s.toks) (fun _ _ q => Heap.get?_push_of_some _ q) (Zm _) (zg1 s.heap I.big), rfl, h _ (I.hok.fresh (Zm _))⟩
end
section
variable {X : Cx} {pins : List (Addr × Obj)} {σ : St} {H : Hp} {s : Shared} {a : Addr} {y d : V} {u r : Value} {o : Option V} {A : Around} {E : Value -> Shared -> Prop}
end
section
variable {X : Cx} {o e f : Expr} {apos cpos : Pos} {td ty tx : TE}
end
section
variable {X : Cx} {pins : List (Addr × Obj)} {σ : St} {H : Hp} {s : Shared} {a : Addr} {kvs : List (Key × V)} {A : Around} {E : Value -> Shared -> Prop}
end
section
variable {X : Cx} {pins : List (Addr × Obj)} {σ : St} {H : Hp} {s : Shared} {a : Addr} {y : V} {u : Value} {A : Around} {E : Value -> Shared -> Prop}
end
end L2
namespace L2
open PySem PySem.Spec PyProof.Rows
section
variable {X : Cx}
end
section
variable {κ : Type} [DecidableEq κ]
end
end L2
namespace L2
open PySem PySem.Spec PyProof.Rows
def i0 (ns : List (Str × NameKind)) (y n : Str) : Bool := match ns.lookup y with
  | some .free => y == n
  | some .local => false
  | some .cell => false
  | _ => true
def uf (ns : List (Str × NameKind)) : List Str -> List Str -> Bool
  | [], [] => true
  | y :: ys, n :: ms => i0 ns y n && uf ns ys ms
  | _, _ => false
def l5 (ns : List (Str × NameKind)) (env : Env) : Bool := ns.all fun y => !(y.2 == .free) || (env.kindOf y.1 == some .cell || env.kindOf y.1 == some .free)
def kr (ns : List (Str × NameKind)) : Bool := ns.all fun y => !(y.2 == .cell) && (!(y.2 == .local) || ns.lookup y.1 == some .local)
theorem gw {ns : List (Str × NameKind)} : ∀ {N2 N : List Str} {i : Nat} {y : Str}, uf ns N2 N = true -> N2[i]? = some y -> i0 ns y y = true /\ (ns.lookup y = some .free -> N[i]? = some y)
  | [], [], _, _, _, e => by simp at e
  | y' :: ys, n :: ms, 0, y, h, e => by
    simp at e; subst e;unfold uf at h;rw [Bool.and_eq_true] at h;refine ⟨?_, fun hf => ?_⟩
    . have h1 := h.1
      unfold i0 at h1 ⊢
      split at h1 <;> first | rfl | (exact absurd h1 Bool.false_ne_true) | (exact beq_self_eq_true _)
    . have h1 := h.1
      unfold i0 at h1;rw [hf] at h1;have e : y' = n := eq_of_beq h1;simp [e]
  | y' :: ys, n :: ms, i + 1, y, h, e => by
    unfold uf at h;rw [Bool.and_eq_true] at h;obtain ⟨h1, h2⟩ := gw (i := i) (y := y) h.2 (by simpa using e);exact ⟨h1, fun hf => by simpa using h2 hf⟩
  | [], _ :: _, _, _, h, _ => by cases h
  | _ :: _, [], _, _, h, _ => by cases h
theorem kn {ns : List (Str × NameKind)} {env : Env} (h : l5 ns env = true) {y : Str × NameKind} (hy : y ∈ ns) (hf : y.2 = .free) : env.kindOf y.1 = some .cell \/ env.kindOf y.1 = some .free := by
  have q := ZS.mp h y hy;rw [hf] at q
  simpa using q
theorem i4 {ns : List (Str × NameKind)} (h : kr ns = true) : ∀ y ∈ ns, y.2 ≠ .cell := fun y hy e => by
  have q := ZS.mp h y hy;rw [e] at q;simp at q
theorem ie {ns : List (Str × NameKind)} (h : kr ns = true) : ∀ y ∈ ns, y.2 = .local -> ns.lookup y.1 = some .local := fun y hy e => by
  have q := ZS.mp h y hy;rw [e] at q
  simpa using q
theorem rh {env : Env} {x : Str} : ∀ {ns : List (Str × NameKind)}, (ns.map fun (n, k) => if (k == NameKind.free && env.scope.kind == .function && env.kindOf n == some .cell) then (n, NameKind.cell) else (n, k)).lookup x =
    (ns.lookup x).map fun k => if (k == NameKind.free && env.scope.kind == .function && env.kindOf x == some .cell) then NameKind.cell else k
  | [] => rfl
  | (n, k) :: r => by
    have ih := @rh env x r
    show List.lookup x ((if (k == NameKind.free && env.scope.kind == .function && env.kindOf n == some .cell) = true then (n, NameKind.cell) else (n, k)) :: _) = _
    cases hx : x == n with
    | true =>
      have e : x = n := eq_of_beq hx;subst e;simp only [ZF, beq_self_eq_true]
      by_cases hc : (k == NameKind.free && env.scope.kind == .function && env.kindOf x == some .cell) = true
      . rw [if_pos hc]; simp only [ZF, beq_self_eq_true, YI]; rw [if_pos hc]
      . rw [if_neg hc]; simp only [ZF, beq_self_eq_true, YI]; rw [if_neg hc]
    | false =>
      simp only [ZF, hx]
      by_cases hc : (k == NameKind.free && env.scope.kind == .function && env.kindOf n == some .cell) = true
      . rw [if_pos hc]; simp only [ZF, hx]; exact ih
      . rw [if_neg hc]; simp only [ZF, hx]; exact ih
theorem i7 {scope : Scope} {env : Env} (h : ∀ y ∈ scope.names, y.2 = .free -> ∃ c, env.cells.lookup y.1 = some c) :
    ∃ cl, closureFor scope env = pure cl /\ (∀ x c, cl.lookup x = some c -> env.cells.lookup x = some c) /\ (∀ y ∈ scope.names, y.2 = .free -> ∃ c, cl.lookup y.1 = some c) := by
  have all : ∀ (ns : List (Str × NameKind)) (cs : List (Str × Addr)), (∀ y ∈ ns, y.2 = .free -> ∃ c, env.cells.lookup y.1 = some c) -> (∀ x c, cs.lookup x = some c -> env.cells.lookup x = some c) ->
      ∃ cl, (forIn ns cs fun x r => (if (x.2 == NameKind.free) = true then do let a <- cellOf env x.1; pure (ForInStep.yield ((x.1, a) :: r)) else pure (ForInStep.yield r) : Sem (ForInStep (List (Str × Addr))))) = pure cl /\
        (∀ x c, cl.lookup x = some c -> env.cells.lookup x = some c) /\ (∀ x, (cs.lookup x).isSome = true -> (cl.lookup x).isSome = true) /\ (∀ y ∈ ns, y.2 = .free -> ∃ c, cl.lookup y.1 = some c) := by
    intro ns
    induction ns with
    | nil => intro cs _ hc; exact ⟨cs, rfl, hc, fun _ z => z, fun _ z => nomatch z⟩
    | cons y r ih =>
      intro cs hh hc;have hr : ∀ z ∈ r, z.2 = .free -> ∃ c, env.cells.lookup z.1 = some c := fun z hz => hh z (Zv _ hz)
      by_cases hf : y.2 = .free
      . obtain ⟨c, ec⟩ := hh y ZA hf
        have hc' : ∀ x d, ((y.1, c) :: cs).lookup x = some d -> env.cells.lookup x = some d := fun x d e => by
          rw [ZF] at e
          cases hx : x == y.1 with
          | true =>
            rw [hx] at e;have e2 : x = y.1 := eq_of_beq hx;cases e;rw [e2]; exact ec
          | false =>
            rw [hx] at e;exact hc x d e
        obtain ⟨cl, e1, e2, e3, e4⟩ := ih ((y.1, c) :: cs) hr hc';refine ⟨cl, ?_, e2, fun x hx => e3 x ?_, fun z hz hzf => ?_⟩
        . rw [List.forIn_cons]
          have ek : (y.2 == NameKind.free) = true := by rw [hf]; rfl
          simp only [ek, if_true, cellOf, ec, pure_bind];exact e1
        . rw [ZF]; split <;> first | rfl | exact hx
        . rcases ZK.mp hz with rfl | hz
          . have := e3 z.1 (by rw [ZF, beq_self_eq_true]; rfl)
            exact Option.isSome_iff_exists.mp this
          . exact e4 z hz hzf
      . obtain ⟨cl, e1, e2, e3, e4⟩ := ih cs hr hc
        refine ⟨cl, ?_, e2, e3, fun z hz hzf => ?_⟩
        . rw [List.forIn_cons]
          have ek : (y.2 == NameKind.free) = false := by simpa using hf
          simp only [ek, Bool.false_eq_true, if_false, pure_bind];exact e1
        . rcases ZK.mp hz with rfl | hz
          . exact absurd hzf hf
          . exact e4 z hz hzf
  obtain ⟨cl, e1, e2, _, e4⟩ := all scope.names [] h (fun _ _ z => by cases z);refine ⟨cl, ?_, e2, e4⟩;unfold closureFor
  first
    | (rw [show (forIn scope.names ([] : List (Str × Addr)) _ : Sem (List (Str × Addr))) = pure cl from e1]; rfl)
    | (simp only [bind_pure]; exact e1)
    | (show (forIn scope.names [] _ >>= _) = _; exact (congrArg (fun t => t >>= fun cs => pure cs) e1))
structure Dyn where
  cl : List (Str × Addr)
  C : Addr
  s₀ : Shared
  H₀ : Hp
  fp : List Addr
abbrev y6 (X : Cx) (scope : Scope) (N' : List Str) (d : Dyn) : Cx where
  prog := X.prog
  w := X.w
  K := X.K
  mg := X.mg
  base := X.base
  A := X.A
  N := N'
  s₀ := d.s₀
  H₀ := d.H₀
  env := compEnvC scope d.cl d.C X.env
  outer := X.stack
  stack := X.stack
  ex := d.fp
  fn := fun _ => false
  calm := true
  pn := []
  xe := fun _ _ => False
theorem za5 {prog : Program} {w : World} {A : Around} {R : Result -> Shared -> Prop} {s : Shared} {elt target iter : Expr} {ifs : List Expr} {scope : Scope} {pos : Pos} {it acc : Value} {env : Env} (I : Nat -> Shared -> Prop)
    (turn : ∀ n s, I n s -> wpAny (model prog w) A (pyNext it) (fun r s₁ => match r with
      | none => R (.ok .next) s₁
      | some v => wpAny (model prog w) A (letOwnedTupleGo target it v) (fun _ s₁' => wpAny (model prog w) A (assign target env v) (fun _ s₂ =>
          wpAny (model prog w) A (forIn ifs true fun c r => if r = true then do let ok <- isTrue c env (eval c env); pure (ForInStep.yield ok) else pure (ForInStep.yield r)) (fun ok s₃ =>
            if ok = true then wpAny (model prog w) A (eval elt env) (fun x s₄ =>
              wpAny (model prog w) A (call (.builtin "list.append") [acc, x]) (fun _ s₅ => ∃ m, m < n /\ I m s₅) (fun _ _ => False) s₄) (fun _ _ => False) s₃
            else ∃ m, m < n /\ I m s₃) (fun _ _ => False) s₂) (fun _ _ => False) s₁') (fun _ _ => False) s₁) (fun _ _ => False) s)
    (n : Nat) (h : I n s) :
    codeAny (model prog w) A (.compLoop (.ListComp elt [⟨target, iter, ifs, 0⟩] scope pos) 0 it acc env) R s := by
  refine codeAny_loop rfl I (fun n s hI => ?_) n h
  show wpAny _ A ((compTurn (.ListComp elt [⟨target, iter, ifs, 0⟩] scope pos) 0 it acc env).onRaise (fun x => do noteFrame x env; theTreesLotGoes x)) _ _ s
  refine wpAny_noted ?_;rw [compTurn_list];refine wpAny_bind (wpAny_standAt (wpAny_bind (wpAny_mono (turn n s hI) (fun r s₁ h₁ => ?_) fun _ _ f => f.elim)))
  cases r with
  | none => exact wpAny_pure h₁
  | some v =>
    refine wpAny_bind (wpAny_mono h₁ (fun _ s₁' h₁' => ?_) fun _ _ f => f.elim);refine wpAny_bind (wpAny_mono h₁' (fun _ s₂ h₂ => wpAny_bind (wpAny_mono h₂ (fun ok s₃ h₃ => ?_) fun _ _ f => f.elim)) fun _ _ f => f.elim)
    cases ok with
    | false => exact wpAny_pure ⟨rfl, h₃⟩
    | true =>
      exact wpAny_bind (wpAny_bind (wpAny_mono h₃ (fun x s₄ h₄ => wpAny_bind (wpAny_mono h₄ (fun _ s₅ h₅ => wpAny_pure (wpAny_pure ⟨rfl, h₅⟩)) fun _ _ f => f.elim)) fun _ _ f => f.elim))
def PTs (X : Cx) (ifs : List Expr) (t : TT) : Prop :=
  ∀ (pins : List (Addr × Obj)) (s : Shared) (σ : St) (H : Hp) (Q : Bool -> Hp -> Prop), Inv X pins σ H s -> t σ H Q ->
    wpAny (model X.prog X.w) X.A (forIn ifs true fun c r => if r = true then do let ok <- isTrue c X.env (eval c X.env); pure (ForInStep.yield ok) else pure (ForInStep.yield r)) (TP X pins σ Q) X.xe s
def tAll : TT := fun _ H Q => Q true H
theorem yc {X : Cx} : PTs X [] tAll := fun _ _ _ H _ I h => wpAny_tests_nil ⟨H, I, h⟩
def pq (J : It) (σ : St) (k : Nat) (g : TG) (tt : TT) (te : TE) (H1 : Hp) (Fin : List V -> Hp -> Prop) : Prop :=
  ∃ W : Nat -> Nat -> List V -> Hp -> Prop, (∃ m, W 0 m [] H1) /\ ∀ i m ys H, W i m ys H -> ys.length <= sizeLine /\
    ((J.stop i H /\ Fin ys H) \/ (J.go i H /\ ∃ N : List V -> Hp -> Prop, (∀ ys' H', N ys' H' -> ∃ m', m' < m /\ W (i + 1) m' ys' H') /\ ∀ x H', J.yld i H x H' -> g x (List.replicate k none ++ σ) H' fun σ2 H2 => σ2.drop k = σ /\
      tt σ2 H2 fun b H3 => if b = true then te σ2 H3 fun v H4 => N (ys ++ [v]) H4 else N ys H3))
abbrev lobj (its : List Value) : Obj := { cls := .type "list", data := .seq its.toArray its.length }
section
variable {X : Cx} {pins : List (Addr × Obj)} {σ : St} {H2 : Hp} {s₂ : Shared} {scope : Scope} {ts N2 : List Str} {cl : List (Str × Addr)} {C D : Addr} {fp : List Addr}
theorem zhl (I2 : Inv X pins σ H2 s₂) (hc : X.calm = true) (f2 : ∀ b ∈ fp, FpOk X pins H2 b /\ b < s₂.heap.objs.size) (hkind : scope.kind = .function) (hown : kr scope.names = true) (hfree : l5 scope.names X.env = true)
    (hcl1 : ∀ x c, cl.lookup x = some c -> X.env.cells.lookup x = some c) (hcl2 : ∀ y ∈ scope.names, y.2 = .free -> ∃ c, cl.lookup y.1 = some c) (hC : s₂.heap.objs.size <= C) :
    (y6 X scope (ts ++ N2) ⟨cl, C, s₂, H2, fp⟩).Ok := by
  refine ⟨I2.ok.mod, hkind, I2.ok.glob, I2.ok.blt, hC, fun x y c e1 e2 => I2.ok.inj x y c (hcl1 _ _ e1) (hcl1 _ _ e2), fun x hx => ?_, fun x c z _ => absurd (show false = true from z) Bool.false_ne_true, fun _ => I2.ok.hd hc, I2.ok.frames, .inl rfl, fun b hb => ?_, I2.bs, Zd I2.ok.bsz I2.sz, fun b o e hb => ?_, fun b hb hfs => ?_, I2.stack, I2.stkFree⟩
  . have hx' : (relabel scope X.env).names.lookup x = some .cell \/ (relabel scope X.env).names.lookup x = some .free := hx
    have e0 : (relabel scope X.env).names.lookup x = _ := rh (env := X.env) (x := x) (ns := scope.names);rw [e0] at hx'
    cases q : scope.names.lookup x with
    | none => rw [q] at hx'; simp at hx'
    | some k =>
      rw [q] at hx';simp only [YI, Option.some.injEq] at hx';have hm : (x, k) ∈ scope.names := PySem.mem_of_lookup q
      have hk : k = .free := by
        have nc := i4 hown _ hm
        split at hx'
        . rename_i hcond
          simp only [Bool.and_eq_true] at hcond;exact eq_of_beq hcond.1.1
        . rcases hx' with z | z
          . exact absurd z nc
          . exact z
      exact hcl2 _ hm hk
  . obtain ⟨⟨f0, f1, f3, f4, f5, f6⟩, hlt⟩ := f2 b hb
    exact ⟨Zs (Zh hlt hC), fun x c e => f5 x c (hcl1 x c e)⟩
  . obtain ⟨⟨f0, f1, f3, f4, f5, f6⟩, hlt⟩ := f2 b hb
    rcases f4 with z | z
    . exact I2.ok.noex b o e z
    . exact absurd (Zh (Heap.lt_size e) (Zd I2.ok.bsz z)) (ZJ _)
  . obtain ⟨⟨f0, f1, f3, f4, f5, f6⟩, hlt⟩ := f2 b hb
    rcases ZK.mp (I2.stkSub b hfs) with z | z
    . exact f1 z
    . exact f3 z
theorem zdg (I2 : Inv X pins σ H2 s₂) (hc : X.calm = true) (f2 : ∀ b ∈ fp, FpOk X pins H2 b /\ b < s₂.heap.objs.size) (hkind : scope.kind = .function) (hown : kr scope.names = true) (hfree : l5 scope.names X.env = true) (hout : uf scope.names N2 X.N = true)
    (hcl1 : ∀ x c, cl.lookup x = some c -> X.env.cells.lookup x = some c) (hcl2 : ∀ y ∈ scope.names, y.2 = .free -> ∃ c, cl.lookup y.1 = some c) (hC : s₂.heap.objs.size <= C) (hDC : D ≠ C) (hD : s₂.heap.objs.size <= D)
    {h₁ : Heap} {tk : Nat} {m : Str -> Option Value} (hn : h₁.Ns C m) (old : ∀ b o, s₂.heap.get? b = some o -> h₁.get? b = some o) (hacc : h₁.get? D = some (lobj [])) :
    Inv (y6 X scope (ts ++ N2) ⟨cl, C, s₂, H2, fp⟩) [(D, lobj [])] (List.replicate ts.length none ++ σ) H2 { s₂ with heap := h₁, toks := tk } := by
  have ok := zhl (ts := ts) (N2 := N2) I2 hc f2 hkind hown hfree hcl1 hcl2 hC
  have hlN : ∀ {a b : List Str}, uf scope.names a b = true -> a.length = b.length := by
    intro a
    induction a with
    | nil => intro b h; cases b with | nil => rfl | cons _ _ => cases h
    | cons y ys ih =>
      intro b h
      cases b with
      | nil => cases h
      | cons n ms =>
        unfold uf at h;rw [Bool.and_eq_true] at h;rw [ZM, ZM, ih h.2]
  refine ⟨ok, rfl, I2.bare, Un.kept old, ⟨m, hn, fun i x v e1 e2 e3 => ?_⟩, fun x c e => ?_, ?_, fun x c e => I2.freeC x c (hcl1 x c e), fun p hp => ?_, I2.hok.kept old, ?_⟩
  . by_cases hi : i < ts.length
    . rw [Zg (by simpa using hi), Yw] at e2
      split at e2 <;> cases e2
    . have hi' : ts.length <= i := ZD.mp hi
      rw [Zf (by simpa using hi')] at e2;rw [ZI] at e2;have e1' : (ts ++ N2)[i]? = some x := e1;rw [Zf hi'] at e1';obtain ⟨k1, k2⟩ := gw hout e1';have e0 : (relabel scope X.env).names.lookup x = _ := rh (env := X.env) (x := x) (ns := scope.names);have e3' : (relabel scope X.env).names.lookup x = some .local \/ (relabel scope X.env).names.lookup x = some .cell \/ (relabel scope X.env).names.lookup x = some .free := e3;rw [e0] at e3'
      cases q : scope.names.lookup x with
      | none => rw [q] at e3'; simp at e3'
      | some k =>
        have hm : (x, k) ∈ scope.names := PySem.mem_of_lookup q
        have hk : k = .free := by
          unfold i0 at k1;rw [q] at k1 e3'
          cases k with
          | free => rfl
          | «local» => cases k1
          | cell => cases k1
          | _ => exfalso; revert e3'; simp
        subst hk;obtain ⟨mo, hmo, hl⟩ := I2.loc;have hkv := kn hfree hm rfl;have vis : Vis X.env.scope x := hkv.elim (fun z => .inr (.inl z)) fun z => .inr (.inr z)
        obtain ⟨u, r, l⟩ := hl _ x v (k2 q) e2 vis;refine ⟨u, r, .inr ⟨?_, ?_⟩⟩
        . show (relabel scope X.env).names.lookup x = some .cell \/ (relabel scope X.env).names.lookup x = some .free
          rw [e0, q];simp only [YI, Option.some.injEq]
          split
          . exact .inl rfl
          . exact .inr rfl
        . rcases l with ⟨kl, _⟩ | ⟨_, c, ec, z⟩
          . exfalso
            rcases hkv with z | z <;> (rw [kl] at z; cases z)
          . obtain ⟨c', ec'⟩ := hcl2 _ hm rfl
            have := hcl1 _ _ ec';rw [ec] at this;cases this;obtain ⟨o, ho, hd⟩ := z;exact ⟨c, ec', o, old _ _ ho, hd⟩
  . obtain ⟨v, o, ho, hd⟩ := I2.cell x c (hcl1 x c e)
    exact ⟨v, o, old _ _ ho, hd⟩
  . exact I2.hok.fresh hC
  . have e : p = (D, lobj []) := by simpa using hp
    subst e;refine ⟨hacc, I2.hok.fresh hD, hDC, fun z => ?_, fun v z => by cases z⟩
    rcases ZK.mp (I2.stkSub D z) with z | z
    . exact absurd (Zh I2.lt (by rw [<- z]; exact hD)) (ZJ _)
    . exact I2.nofs hD z
  . show (List.replicate ts.length none ++ σ).length = (ts ++ N2).length
    rw [Zo, Zo, ZI, I2.len, hlN hout]
theorem zhb (I2 : Inv X pins σ H2 s₂) (f2 : ∀ b ∈ fp, FpOk X pins H2 b) (hD : s₂.heap.objs.size <= D) {σ' : St} {H' : Hp} {s' : Shared} {its : List Value} {ys : List V} {pl : List (Addr × Obj)}
    (J : Inv (y6 X scope (ts ++ N2) ⟨cl, C, s₂, H2, fp⟩) pl σ' H' s') (hp : s'.heap.get? D = some (lobj its)) (hn : H' D = none) (hv : Vals ys its) (hz : ys.length <= sizeLine) : Inv X pins σ (upd H' D (.lst ys)) s' := by
  have neD : ∀ b o, s₂.heap.get? b = some o -> b ≠ D := fun b o e => Zs (Zh (Heap.lt_size e) hD)
  have neH : ∀ b o, H2 b = some o -> b ≠ D := fun b o e => Zs (Zh (I2.hok.lt e) hD)
  have u := J.base
  have un : Un (frs X.stack) fp H2 (upd H' D (.lst ys)) s₂.heap s'.heap :=
    ⟨u.keep, u.slot, fun b o e n hx => by rw [zx (neD b o e)]; exact u.free b o e n hx, u.there, fun b xs e => by rw [zx (neH b _ e)]; exact u.tups b xs e, fun b o v e => by rw [zx (neH b _ e)]; exact u.frzs b o v e,
      fun b ps e => by rw [zx (neH b _ e)]; exact u.tbls b ps e⟩
  have hok : HOk X.prog X.w (upd H' D (.lst ys)) s'.heap := fun b o e => by
    by_cases hb : b = D
    . subst hb
      rw [zg] at e;cases e;exact ⟨hz, its, its.length, hv, hp⟩
    . rw [zx hb] at e
      exact (J.hok b o e).stay (fun c v _ q => q) (fun c q => by rw [zx (y3 q hn)]; exact q) fun c xs q => by rw [zx (y3 q hn)]; exact q
  exact I2.call' (ch := fp) J.os un hok J.bare fun b hb => by
    obtain ⟨f0, f1, f3, f4, f5, f6⟩ := f2 b hb;exact ⟨f4, f1, f5, f6⟩
theorem fb {E : Value -> Shared -> Prop} {tg elt iter : Expr} {ifs : List Expr} {pos : Pos} {it : Addr} {tn : Nat -> Heap -> Prop} {J : It} {g : Dyn -> TG} {tt : Dyn -> TT} {te : Dyn -> TE} {RR : Value -> Addr -> Result -> Shared -> Prop} {Fin : List V -> Hp -> Prop}
    (I2 : Inv X pins σ H2 s₂) (hc : X.calm = true) (T : Turn X.prog X.w X.K tg J fp it tn) (st : tn 0 s₂.heap) (f2 : ∀ b ∈ fp, FpOk X pins H2 b) (hkind : scope.kind = .function) (hown : kr scope.names = true) (hfree : l5 scope.names X.env = true) (hout : uf scope.names N2 X.N = true)
    (hcl1 : ∀ x c, cl.lookup x = some c -> X.env.cells.lookup x = some c) (hcl2 : ∀ y ∈ scope.names, y.2 = .free -> ∃ c, cl.lookup y.1 = some c)
    (hg : ∀ d, PG (y6 X scope (ts ++ N2) d) tg (g d)) (ht : ∀ d, PTs (y6 X scope (ts ++ N2) d) ifs (tt d)) (he : ∀ d, PE (y6 X scope (ts ++ N2) d) elt (te d))
    (hW : ∀ d, pq J σ ts.length (g d) (tt d) (te d) H2 Fin)
    (hRR : ∀ D C s' H' ys, s₂.heap.objs.size <= C -> C ≠ D -> Inv X pins σ (upd H' D (.lst ys)) s' -> H' D = none -> H' C = none -> (∃ m, s'.heap.Ns C m) -> ys.length <= sizeLine -> Fin ys H' -> RR (.ref D) C (.ok .next) s') :
    wpAny (model X.prog X.w) X.A (newList []) (fun acc s₃ => wpAny (model X.prog X.w) X.A (newFunctionEnv scope X.env.globals cl [] X.env.qual none .none (some X.env)) (fun cenv s₄ =>
      codeAny (model X.prog X.w) X.A (.compStart (.ListComp elt [⟨tg, iter, ifs, 0⟩] scope pos) 0 (.ref it) acc { cenv with scope := relabel scope X.env }) (RR acc cenv.locals) s₄) E s₃) E s₂ := by
  refine wpAny_newObj_type (wpAny_newFunctionEnv (i4 hown) (by intro y hy; simp at hy) (fun h₁ hns₁ hsb₁ => ?_) hkind);dsimp only at hns₁ hsb₁ ⊢;generalize hH2 : s₂.heap.push { cls := .type "list", dict := none, data := .seq ([] : List Value).toArray } = HP at hns₁ hsb₁ ⊢;have hC : HP.objs.size = s₂.heap.objs.size + 1 := by rw [<- hH2, Heap.size_push]
  have hDC : s₂.heap.objs.size ≠ HP.objs.size := by rw [hC]; exact Zs (YB _)
  have hCle : s₂.heap.objs.size <= HP.objs.size := by rw [hC]; exact YL _
  have below : ∀ b, b < s₂.heap.objs.size -> b ≠ HP.objs.size /\ b ≠ s₂.heap.objs.size := fun b hb => ⟨by rw [hC]; exact Zs (Yy hb), Zs hb⟩
  have old : ∀ b o, s₂.heap.get? b = some o -> h₁.get? b = some o := fun b o e => hsb₁.extBut b o (below b (Heap.lt_size e)).1 (Heap.get?_push_of_some _ (hH2 ▸ Heap.get?_push_of_some _ e))
  have hacc : h₁.get? s₂.heap.objs.size = some (lobj []) := hsb₁.extBut _ _ hDC (Heap.get?_push_of_some _ (hH2 ▸ Heap.get?_push_size _ rfl))
  have flt : ∀ b ∈ fp, b < s₂.heap.objs.size := fun b hb => by
    obtain ⟨o, e, _⟩ := T.obj _ _ st b hb;exact Heap.lt_size e
  generalize hDD : s₂.heap.objs.size = D at *;generalize hCC : HP.objs.size = C at *;have hDle : s₂.heap.objs.size <= D := Nat.le_of_eq hDD;have I4 := fun (tk : Nat) => zdg (ts := ts) (D := D) (C := C) (tk := tk) I2 hc (fun b hb => ⟨f2 b hb, by rw [hDD]; exact flt b hb⟩) hkind hown hfree hout hcl1 hcl2 (by rw [hDD]; exact hCle) hDC hDle hns₁ old hacc
  generalize hd : (⟨cl, C, s₂, H2, fp⟩ : Dyn) = d at *;obtain ⟨W, ⟨m0, w0⟩, turn⟩ := hW d
  have Xs : ∀ {pl : List (Addr × Obj)} {H' : Hp}, (∀ b ∈ fp, H' b = none) -> (∀ p ∈ pl, p.1 = D) -> ∀ b ∈ fp, FpOk (y6 X scope (ts ++ N2) d) pl H' b := fun {pl H'} hn hp b hb => by
    subst hd;obtain ⟨f0, f1, f3, f4, f5, f6⟩ := f2 b hb;refine ⟨hn b hb, (below b (flt b hb)).1, fun z => ?_, .inl hb, fun x c e => f5 x c (hcl1 x c e), fun p hp' => ?_⟩
    . rcases ZK.mp (I2.stkSub b z) with z | z
      . exact f1 z
      . exact f3 z
    . rw [hp p (by simpa using hp')]
      exact Ne.symm (below b (flt b hb)).2
  have loop : ∀ s₃ : Shared, s₃ = { s₂ with heap := h₁, toks := s₂.toks + ([] : List (Str × Value)).length } ->
      codeAny (model X.prog X.w) X.A (.compLoop (.ListComp elt [⟨tg, iter, ifs, 0⟩] scope pos) 0 (.ref it) (.ref D) (compEnvC scope cl C X.env)) (RR (.ref D) C) s₃ := by
    rintro s₃ rfl
    refine za5 (fun n s' => ∃ i ys H' its, Inv (y6 X scope (ts ++ N2) d) [(D, lobj its)] (List.replicate ts.length none ++ σ) H' s' /\ tn i s'.heap /\ (∀ b ∈ fp, H' b = none) /\ Vals ys its /\ W i n ys H') ?_ m0
      ⟨0, [], H2, [], I4 _, T.keep _ _ _ st fun b _ o e => old b o e, fun b hb => (f2 b hb).1, .nil, w0⟩
    rintro n s3 ⟨i, ys, H3, its, I3, st3, fr3, hv3, w3⟩
    obtain ⟨hlen, tr⟩ := turn i n ys H3 w3
    have one : ∀ p ∈ [(D, lobj its)], p.1 = D := fun p hp => by
      have e : p = (D, lobj its) := by simpa using hp
      rw [e]
    have eenv : (y6 X scope (ts ++ N2) d).env = compEnvC scope cl C X.env := by subst hd; rfl
    rcases tr with ⟨stop, fin⟩ | ⟨go, N, hN, step⟩
    . refine thn (T.done (y6 X scope (ts ++ N2) d) rfl rfl rfl rfl i _ s3 _ H3 (fun _ _ => False) I3 (Xs fr3 one) st3 stop) fun r s4 ⟨hr, J4⟩ => ?_
      subst hr
      show RR (.ref D) C (.ok .next) s4
      obtain ⟨pe, pn, _⟩ := J4.pin (D, lobj its) (by simp);have fC : H3 C = none := by have := J4.free; rw [eenv] at this; exact this
      have nC : ∃ m, s4.heap.Ns C m := by
        obtain ⟨m, z, _⟩ := J4.loc;rw [eenv] at z;exact ⟨m, z⟩
      subst hd;exact hRR D C s4 H3 ys hCle (Ne.symm hDC) (zhb I2 f2 hDle J4 pe pn hv3 hlen) pn fC nC hlen fin
    . refine thn (T.item (y6 X scope (ts ++ N2) d) rfl rfl rfl rfl i _ s3 _ H3 (fun _ _ => False) I3 (Xs fr3 one) st3 go) fun r s4 ⟨u, hr, h4⟩ => ?_
      subst hr;refine thn h4 fun _ s5 ⟨x, H5, I5, r5, y5, st5, fr5⟩ => ?_
      have I5' := I5.pinned (Xs fr5 one) (T.obj _ _ st5);rw [<- eenv];refine thn (hg d _ s5 _ H5 x u _ I5' r5 (step x H5 y5)) fun _ s6 ⟨σ6, H6, I6, hdrop, q6⟩ => ?_
      have back : ∀ {ys' : List V} {its' : List Value} {H' : Hp} {s' : Shared} {pl : List (Addr × Obj)}, Inv (y6 X scope (ts ++ N2) d) ([(D, lobj its')] ++ pl) σ6 H' s' -> Inv (y6 X scope (ts ++ N2) d) [(D, lobj its')] (List.replicate ts.length none ++ σ) H' s' := fun {ys' its' H' s' pl} I' => by
        have hl : σ6.length = (ts ++ N2).length := I'.len;refine (I'.pins_of (pins' := [(D, lobj its')]) fun p hp => I'.pin p (Zu _ (ZZ _ hp))).weak ?_ ?_
        . rw [hl]; exact I3.len
        . intro j v e
          by_cases hj : j < ts.length
          . rw [Zg (by simpa using hj), Yw] at e
            split at e <;> cases e
          . have hj' : ts.length <= j := ZD.mp hj
            rw [Zf (by simpa using hj'), ZI, <- hdrop, List.getElem?_drop] at e;rw [show ts.length + (j - ts.length) = j by omega] at e;exact e
      refine thn (ht d _ s6 σ6 H6 _ I6 q6) fun b s7 ⟨H7, I7, q7⟩ => ?_
      have pinsOf : ∀ {its' : List Value} {H' : Hp} {s' : Shared}, Inv (y6 X scope (ts ++ N2) d) ([(D, lobj its')] ++ jn fp s5.heap) σ6 H' s' -> (∀ b ∈ fp, ∀ o, s5.heap.get? b = some o -> s'.heap.get? b = some o) /\ ∀ b ∈ fp, H' b = none := fun {its' H' s'} I' => by
        refine ⟨fun b hb o e => (I'.pin (b, o) (Zu _ (Zu _ (sy hb e)))).1, fun b hb => ?_⟩;obtain ⟨o, e, _⟩ := T.obj _ _ st5 b hb;exact (I'.pin (b, o) (Zu _ (Zu _ (sy hb e)))).2.1
      cases b with
      | false =>
        have q7' : N ys H7 := by simpa using q7
        obtain ⟨m', hm, w7⟩ := hN _ _ q7';obtain ⟨k1, k2⟩ := pinsOf I7
        show ∃ m, m < n /\ _
        exact ⟨m', hm, i + 1, ys, H7, its, back (ys' := ys) I7, T.keep _ _ _ st5 k1, k2, hv3, w7⟩
      | true =>
        have q7' : te d σ6 H7 fun v H4 => N (ys ++ [v]) H4 := by simpa using q7
        show wpAny _ _ _ _ _ _
        refine thn (he d _ s7 σ6 H7 _ I7 q7') fun y s8 ⟨v, H8, I8, r8, n8⟩ => ?_
        obtain ⟨m', hm, w8⟩ := hN _ _ n8;obtain ⟨k1, k2⟩ := pinsOf I8;obtain ⟨pe, pn, pC, pf, pd⟩ := I8.pin (D, lobj its) (by simp);have hsz : its.toArray.size <= sizeLine := by rw [Zr, <- hv3.length]; exact hlen
        refine append_at (hsz := hsz) pe fun h9 sb9 e9 => ?_
        have J8 : Inv (y6 X scope (ts ++ N2) d) [] σ6 H8 s8 := I8.pins_of fun p hp => nomatch hp
        have hDs : (y6 X scope (ts ++ N2) d).s₀.heap.objs.size <= D := by subst hd; exact hDle
        have J9 : Inv (y6 X scope (ts ++ N2) d) [] σ6 H8 { s8 with heap := h9 } := J8.turned (t' := s8.toks) (it := D) (fun b o hb e => sb9.extBut b o hb e) pn pC (.inr hDs)
          (fun x c e => by
            obtain ⟨v', z⟩ := I3.cell x c e;subst hd;obtain ⟨v2, z2⟩ := I2.cell x c (hcl1 x c e)
            exact Zs (Zh z2.lt hDle)) (fun p hp => nomatch hp)
        have e9' : h9.get? D = some (lobj (its ++ [y])) := by
          rw [e9]
          show some ({ cls := .type "list", data := .seq (its.toArray.push y) (its.length + 1) } : Obj) = some { cls := .type "list", data := .seq (its ++ [y]).toArray (its ++ [y]).length }
          rw [Zo, Yg, List.push_toArray]
        have J9' : Inv (y6 X scope (ts ++ N2) d) ([(D, lobj (its ++ [y]))] ++ []) σ6 H8 { s8 with heap := h9 } := J9.pins_of fun p hp => by
          have e : p = (D, lobj (its ++ [y])) := by simpa using hp
          subst e;exact ⟨e9', pn, pC, pf, fun v z => by cases z⟩
        refine ⟨m', hm, i + 1, ys ++ [v], H8, its ++ [y], back (ys' := ys) J9', ?_, k2, hv3.append (.cons r8 .nil), w8⟩;exact T.keep _ _ _ st5 fun b hb o e => sb9.extBut b o (below b (flt b hb)).2 (k1 b hb o e)
  exact codeAny_compStart_list (loop _ rfl) (T.self _ 0 _ _ _ (T.keep _ _ _ st fun b _ o e => old b o e) (loop _ rfl))
end
def zdd (k : Nat) (wi : TI) (g : Dyn -> TG) (tt : Dyn -> TT) (te : Dyn -> TE) : TE := fun σ H Q => wi σ H fun J H1 => ∀ d : Dyn, pq J σ k (g d) (tt d) (te d) H1 fun ys H' => ∀ l, H' l = none -> Q (.ref l) (upd H' l (.lst ys))
theorem yk {X : Cx} {tg elt iter : Expr} {ifs : List Expr} {scope : Scope} {pos : Pos} (ts N2 : List Str) {wi : TI} {g : Dyn -> TG} {tt : Dyn -> TT} {te : Dyn -> TE} (hc : X.calm = true) (hi : PI X tg iter wi)
    (hg : ∀ d, PG (y6 X scope (ts ++ N2) d) tg (g d)) (ht : ∀ d, PTs (y6 X scope (ts ++ N2) d) ifs (tt d)) (he : ∀ d, PE (y6 X scope (ts ++ N2) d) elt (te d))
    (hkind : scope.kind = .function) (hown : kr scope.names = true) (hfree : l5 scope.names X.env = true) (hout : uf scope.names N2 X.N = true)
    (hs : ∀ x, foldedSetIterable iter X.env x = pure x := by intro _; rfl) : PE X (.ListComp elt [⟨tg, iter, ifs, 0⟩] scope pos) (zdd ts.length wi g tt te) := by
  intro pins s σ H Q I h;obtain ⟨cl, hclos, hcl1, hcl2⟩ := i7 (scope := scope) (env := X.env) fun y hy hf => I.ok.has y.1 (kn hfree hy hf)
  rw [eval_ListComp];refine wpAny_comprehension_free (use := none) rfl hs hclos hkind (ie hown) (thn (hi pins s σ H _ I h) fun v s1 h1 => thn h1 fun itv s2 h2 => ?_);obtain ⟨it, fp, tn, J, H2, e, I2, T, st2, f2, hW⟩ := h2;subst e;refine fb (RR := fun acc C => compPost (model X.prog X.w) X.A X.xe none (EP X pins σ Q) acc C) I2 hc T st2 f2 hkind hown hfree hout hcl1 hcl2 hg ht he hW ?_;intro D C s' H' ys hC hCD I' hD hCn hNs hl fin;obtain ⟨m, hm⟩ := hNs;refine ⟨m, hm, fun h' sb => ?_⟩
  have I'' : Inv X pins σ (upd H' D (.lst ys)) { s' with heap := h' } := by
    refine I'.turned (t' := s'.toks) (it := C) (fun b o hb e => sb.extBut b o hb e) (by rw [zx hCD]; exact hCn) (YG (Zh I2.lt hC)) (.inr (Zd I2.sz hC)) (fun x c e => ?_) fun p hp => ?_
    . obtain ⟨v, q⟩ := I2.cell x c e
      exact Zs (Zh q.lt hC)
    . exact Zs (Zh (Heap.lt_size (I2.pin p hp).1) hC)
  exact ⟨.ref D, _, I'', rfl, fin D hD⟩
def tSetC (i : Nat) (te : TE) : TS := fun D σ H => te σ H fun x H1 => D.nx (σ.set i (some x)) H1
theorem vh {X : Cx} {tg elt iter : Expr} {ifs : List Expr} {scope : Scope} {pos spos py : Pos} {i : Nat} {y : Str} (ts N2 : List Str) {wi : TI} {g : Dyn -> TG} {tt : Dyn -> TT} {te : Dyn -> TE} (hN : X.N.Nodup) (hi' : X.N[i]? = some y) (hy : X.env.scope.names.lookup y = some .local) (hc : X.calm = true) (hi : PI X tg iter wi)
    (hg : ∀ d, PG (y6 X scope (ts ++ N2) d) tg (g d)) (ht : ∀ d, PTs (y6 X scope (ts ++ N2) d) ifs (tt d)) (he : ∀ d, PE (y6 X scope (ts ++ N2) d) elt (te d))
    (hkind : scope.kind = .function) (hown : kr scope.names = true) (hfree : l5 scope.names X.env = true) (hout : uf scope.names N2 X.N = true)
    (hsw : swapsWith (.ListComp elt [⟨tg, iter, ifs, 0⟩] scope pos) (some (.Name y py)) spos.line X.env = pure true)
    (hs : ∀ x, foldedSetIterable iter X.env x = pure x := by intro _; rfl) : PS X (.Assign [.Name y py] (.ListComp elt [⟨tg, iter, ifs, 0⟩] scope pos) spos) (tSetC i (zdd ts.length wi g tt te)) := by
  intro pins s σ H D0 I h;obtain ⟨cl, hclos, hcl1, hcl2⟩ := i7 (scope := scope) (env := X.env) fun z hz hf => I.ok.has z.1 (kn hfree hz hf)
  rw [exec_Assign_Name_used _ _ _ _ hsw];refine wpAny_bind (wpAny_standAt (wpAny_bind ?_))
  show wpAny _ X.A (do let _ <- comprehension (.ListComp elt [⟨tg, iter, ifs, 0⟩] scope pos) scope X.env _ (newList []) false (eval iter X.env) (some (assign (.Name y py) X.env))) _ _ s
  refine wpAny_bind (wpAny_mono (wpAny_comprehension_free (use := some (assign (.Name y py) X.env)) (Q := fun _ s' => SP X pins D0 .next s') rfl hs hclos hkind (ie hown)
    (thn (hi pins s σ H _ I h) fun v s1 h1 => thn h1 fun itv s2 h2 => ?_)) (fun _ s' hq => wpAny_pure (wpAny_pure hq)) fun _ _ e => e)
  obtain ⟨it, fp, tn, J, H2, e, I2, T, st2, f2, hW⟩ := h2;subst e;refine fb (RR := fun acc C => compPost (model X.prog X.w) X.A X.xe (some (assign (.Name y py) X.env)) (fun _ s' => SP X pins D0 .next s') acc C) I2 hc T st2 f2 hkind hown hfree hout hcl1 hcl2 hg ht he hW ?_;intro D C s' H' ys hC hCD I' hD hCn hNs hl fin;obtain ⟨m, hm⟩ := hNs
  show wpAny _ _ _ _ _ _
  have hcl : C ≠ X.env.locals := YG (Zh I2.lt hC)
  have hcc : ∀ x c, X.env.cells.lookup x = some c -> c ≠ C := fun x c e => by
    obtain ⟨v, q⟩ := I2.cell x c e;exact Zs (Zh q.lt hC)
  refine wpAny_assign_Name (d6 I' hN hi' (.inl hy) (v := .ref D) (u := .ref D) rfl (fun s'' I'' ⟨a, sb, ha⟩ => ?_) (.inr hy))
  have haC : C ≠ a := by
    rcases ha with z | z
    . rw [z]; exact hcl
    . exact Ne.symm (hcc y a z)
  refine ⟨m, hm.sameBut sb haC, fun h' sb' => ?_⟩
  have I3 : Inv X pins (σ.set i (some (.ref D))) (upd H' D (.lst ys)) { s'' with heap := h' } := by
    refine I''.turned (t' := s''.toks) (it := C) (fun b o hb e => sb'.extBut b o hb e) (by rw [zx hCD]; exact hCn) hcl (.inr (Zd I2.sz hC)) hcc fun p hp => ?_
    exact Zs (Zh (Heap.lt_size (I2.pin p hp).1) hC)
  exact ⟨_, _, I3, fin D hD⟩
section
variable {σ : St} {k : Nat} {g : TG} {tt : TT} {te : TE} {H1 : Hp} {Fin : List V -> Hp -> Prop}
theorem xg {lo : Int} {n : Nat} (Pv : Nat -> List V -> Hp -> Prop) (h0 : Pv 0 [] H1) (hz : ∀ i ys H, i <= n -> Pv i ys H -> ys.length <= sizeLine)
    (hs : ∀ i ys H, i < n -> Pv i ys H -> g (.int (lo + i)) (List.replicate k none ++ σ) H fun σ2 H2 => σ2.drop k = σ /\ tt σ2 H2 fun b H3 => if b = true then te σ2 H3 fun v H4 => Pv (i + 1) (ys ++ [v]) H4 else Pv (i + 1) ys H3)
    (hd : ∀ ys H, Pv n ys H -> Fin ys H) : pq (Itr lo n) σ k g tt te H1 Fin := by
  refine ⟨fun i m ys H => m = n - i /\ i <= n /\ Pv i ys H, ⟨n, by simp, ZE _, h0⟩, ?_⟩
  rintro i m ys H ⟨rfl, hi, p⟩
  refine ⟨hz i ys H hi p, ?_⟩
  by_cases hlt : i < n
  . refine .inr ⟨hlt, Pv (i + 1), fun ys' H' p' => ⟨n - (i + 1), by omega, rfl, hlt, p'⟩, fun x H' y => ?_⟩
    obtain ⟨e, y⟩ := y;subst e y;exact hs i ys _ hlt p
  . have e : i = n := by omega
    subst e;exact .inl ⟨Zm _, hd ys H p⟩
theorem yo {K : Fg} {a : Addr} {xs : List V} (Pv : Nat -> List V -> Hp -> Prop) (h0 : Pv 0 [] H1) (hz : ∀ i ys H, i <= xs.length -> Pv i ys H -> ys.length <= sizeLine /\ SqL K H a xs)
    (hs : ∀ i x ys H, xs[i]? = some x -> Pv i ys H -> g x (List.replicate k none ++ σ) H fun σ2 H2 => σ2.drop k = σ /\ tt σ2 H2 fun b H3 => if b = true then te σ2 H3 fun v H4 => Pv (i + 1) (ys ++ [v]) H4 else Pv (i + 1) ys H3)
    (hd : ∀ ys H, Pv xs.length ys H -> Fin ys H) : pq (Itl K a) σ k g tt te H1 Fin := by
  refine ⟨fun i m ys H => m = xs.length - i /\ i <= xs.length /\ Pv i ys H, ⟨xs.length, by simp, ZE _, h0⟩, ?_⟩
  rintro i m ys H ⟨rfl, hi, p⟩
  have q := (hz i ys H hi p).2;refine ⟨(hz i ys H hi p).1, ?_⟩
  by_cases hlt : i < xs.length
  . refine .inr ⟨⟨xs, xs[i], q, by simp [hlt]⟩, Pv (i + 1), fun ys' H' p' => ⟨xs.length - (i + 1), by omega, rfl, hlt, p'⟩, fun x H' y => ?_⟩
    obtain ⟨e, y⟩ := y;subst e;exact hs i x ys _ (y xs q) p
  . have e : i = xs.length := by omega
    subst e;exact .inl ⟨⟨xs, q, Zm _⟩, hd ys H p⟩
end
end L2
namespace L2
open PySem PySem.Spec PyProof.Rows
theorem jo (A : Around) : A.in1.units = A.units + 1 := by first | rfl | simp [Around.in1] | (unfold Around.in1; rfl)
theorem zaw {xs : List V} {us : List Value} (r : Vals xs us) {j : Nat} (h : j < us.length) : ∃ x, xs[j]? = some x /\ RelV x us[j] := by
  have hl := r.length;have hj : j < xs.length := by omega
  obtain ⟨u, hu, rx⟩ := r.get (i := j) (x := xs[j]) (by simp [hj]);refine ⟨xs[j], by simp [hj], ?_⟩;have : us[j]? = some us[j] := by simp [h]
  rw [this] at hu;cases hu;exact rx
section
variable {X : Cx} {pins : List (Addr × Obj)} {σ : St} {H : Hp} {s : Shared} {A : Around} {a b : Addr}
end
def GridL (K : Fg) (H : Hp) (a : Addr) (as : List Addr) (rows : List (List Int)) : Prop := SqL K H a (as.map V.ref) /\ as.length = rows.length /\ ∀ (i : Nat) (r : Addr) (ns : List Int), as[i]? = some r -> rows[i]? = some ns -> SqL K H r (ns.map V.int)
section
variable {X : Cx} {pins : List (Addr × Obj)} {σ : St} {H : Hp} {s : Shared} {A : Around} {a b : Addr}
end
def kit0 (T1 T2 : String) : Option Bool := if (Value.type T1 == Value.type T2) = true then some true else if PySem.W.kitMeta T2 = true then (fastBuiltinMro T1).map (·.contains (Value.type T2)) else none
theorem zgp (K : Fg) (T1 T2 : String) : PySem.W.kitOne K (.type T1) (.type T2) = kit0 T1 T2 := rfl
section
variable {X : Cx}
theorem yr : CallR X (.builtin "isinstance") (fun xs H Q => ∃ x T T1 b, xs = [x, .ty T] /\ TyOf X.K H x (.type T1) /\ kit0 T1 T = some b /\ Q (.bl b) H) := by
  intro pins s σ H xs us Q I r h;obtain ⟨x, T, T1, b, rfl, ty, e, q⟩ := h;obtain ⟨u, v, rfl, rx, ry⟩ := Vals.two r;cases ry;exact zep I rx ty ((zgp X.K T1 T).trans e) fun tk => ⟨.bl b, H, I.tok _, rfl, q⟩
theorem wq {x : Str} {T : String} {pos : Pos} (hg : Gl X x) (hm : X.mg x = none) (hv : bootBuiltins x = some (.type T)) (hn : x ≠ "__name__" := by decide) (hd : (x == ("__debug__" : Str)) = false := by decide) : PE X (.Name x pos) (tC (.ty T)) :=
  zhi hg hm hv rfl hn hd
end
theorem ya : bootBuiltins "len" = some (.builtin "len") := by decide +kernel
theorem yi : bootBuiltins "isinstance" = some (.builtin "isinstance") := by decide +kernel
theorem zfs : bootBuiltins "max" = some (.builtin "max") := by decide +kernel
theorem a7 : bootBuiltins "min" = some (.builtin "min") := by decide +kernel
theorem jk : bootBuiltins "all" = some (.builtin "all") := by decide +kernel
theorem bt_abs : bootBuiltins "abs" = some (.builtin "abs") := by decide +kernel
theorem bz : bootBuiltins "int" = some (.type "int") := by decide +kernel
theorem de : bootBuiltins "bool" = some (.type "bool") := by decide +kernel
theorem vj : bootBuiltins "list" = some (.type "list") := by decide +kernel
theorem xv : bootBuiltins "tuple" = some (.type "tuple") := by decide +kernel
theorem bt_str : bootBuiltins "str" = some (.type "str") := by decide +kernel
theorem bt_set : bootBuiltins "set" = some (.type "set") := by decide +kernel
theorem bt_zip : bootBuiltins "zip" = some (.type "zip") := by decide +kernel
theorem ao : bootBuiltins "enumerate" = some (.type "enumerate") := by decide +kernel
structure zi (K : Fg) (mg : Str -> Option Value) (name : Str) (st : Stmt) (ps : List Str) : Prop where
  ex : ∃ f fd, mg name = some (.ref f) /\ Fun K name name st f fd /\ Binds K fd ps []
structure FnAt (P : Program) (w : World) (K : Fg) (mg : Str -> Option Value) (base : Heap) (name : Str) (k : Nat) (ps : List Str) (sp : Sp) : Prop where
  ex : ∃ f fd, mg name = some (.ref f) /\ PySem.W.keepIn K (.ref f) = true /\ Binds K fd ps [] /\ FnOk P w K mg base CX0 k f fd ps sp
theorem FnAt.of {P : Program} {w : World} {K : Fg} {mg : Str -> Option Value} {base : Heap} {name : Str} {st : Stmt} {N ps : List Str} {k : Nat} {sp : Sp} (D : zi K mg name st ps) (S : zr N ps (zl st)) (len : ∀ vs H Q E, sp vs H Q E -> vs.length = ps.length)
    (hbody : ∀ (f : Addr) (cdv : Value) (A : Around) (outer : List Env) (s : Shared) (H : Hp) (vs : List V) (Q : VK) (E : XK), Room k (A.deeper (envOfC name (zl st) s.heap.objs.size f cdv)) -> sp vs H Q E ->
      ∃ t, PSs (cxOf CX0 P w K mg base N name (zl st) f cdv A outer s H E).nox (y1 st) t /\ t { nx := fun _ H' => Q .non H', rt := Q } (start N vs) H) : FnAt P w K mg base name (k + 1) ps sp := by
  obtain ⟨f, fd, hm, F, hb⟩ := D.ex;exact ⟨f, fd, hm, F.kp, hb, F.ok S len (hbody f)⟩
theorem def_mk {K : Fg} {h : Heap} {mg : Str -> Option Value} (X : K.In h) (G : h.Ns mainGlobals mg) {name : Str} {st : Stmt} {f : Addr} {oc : Value} {od an : Option Addr} {osl : Array (Option Value)} {kV doc pm cdv ct : Value} {ps : List Str}
    (a : PySem.W.nsIn K mainGlobals name = some (some (.ref f))) (l : K.lookup f = some ⟨oc, od, .func (PySem.W.fnOf name name (u4 st) (y1 st) (zl st) .none kV doc pm an cdv ct), osl⟩)
    (c : PySem.W.codeIn K cdv name = true) (k : PySem.W.keepIn K (.ref f) = true)
    (hb : ∀ (kV doc pm : Value) (an : Option Addr) (cdv ct : Value) (us : List Value), us.length = ps.length -> bindArgs (PySem.W.fnOf name name (u4 st) (y1 st) (zl st) .none kV doc pm an cdv ct) ⟨us, []⟩ = pure (ps.zip us)) : zi K mg name st ps :=
  ⟨f, _, PySem.W.mg_of X G a, ze4 l c k, (ze4 (st := st) l c k).binds hb⟩
section
variable {X : Cx} {x : Str} {k : Nat} {ps : List Str} {sp : Sp} {p pos : Pos} {e : Expr} {es : List Expr} {t : TA}
theorem zk (F : FnAt X.prog X.w X.K X.mg X.base x k ps sp) (hr : Room k X.A) (hg : Gl X x) (ha : PA X (e :: es) t) (hdb : (x == ("__debug__" : Str)) = false := by decide) (he : starEach (e :: es) X.env = (false, eval e X.env) :: starEach es X.env := by rfl)
    (hpl : (backTo pos (starEach es X.env)).any (·.1) = false := by rfl) : PE X (.Call (.Name x p) (e :: es) [] pos) (bd sp [] E0 t) := by
  obtain ⟨f, fd, hm, hk, hb, G⟩ := F.ex;exact zcf G hr hg hm hk hb .nil pass0 ha hdb he hpl
end
theorem cxK {CX : CXT} {P : Program} {w : World} {K : Fg} {mg : Str -> Option Value} {base : Heap} {N : List Str} {qual : Str} {scope : Scope} {f : Addr} {cd : Value} {A : Around} {outer : List Env} {s : Shared} {H : Hp} {E : XK} : (cxOf CX P w K mg base N qual scope f cd A outer s H E).K = K := rfl
section
variable {D : Ends} {σ : St} {H : Hp} {Q : VK} {QT : Bool -> Hp -> Prop} {QA : List V -> Hp -> Prop} {QS : St -> Hp -> Prop} {R : It -> Hp -> Prop} {a b c : TE} {s t : TS} {tt uu : TT} {ta tr : TA} {g : TG} {i : Nat} {v x y z : V} {r r' : R2} {wi : TI}
theorem e_var : tVar i σ H Q = ∃ v, σ[i]? = some (some v) /\ Q v H := rfl
theorem e_C : tC v σ H Q = Q v H := rfl
theorem e_op : tOp r a b σ H Q = a σ H fun x H1 => b σ H1 fun y H2 => r x y H2 Q := rfl
theorem e_un {u : V -> Hp -> VK -> Prop} : tUn u a σ H Q = a σ H fun x H1 => u x H1 Q := rfl
theorem e_rI {C : Int -> Int -> Prop} {f : Int -> Int -> V} : rI C f x y H Q = ∃ i j, x = .int i /\ y = .int j /\ C i j /\ Q (f i j) H := rfl
theorem e_rI0 {f : Int -> Int -> V} : rI0 f x y H Q = ∃ i j, x = .int i /\ y = .int j /\ Q (f i j) H := rfl
theorem e_rU {f : Int -> V} : rU f x H Q = ∃ i, x = .int i /\ Q (f i) H := rfl
theorem e_rEq : rEq x y H Q = (scal x y = true /\ Q (.bl (decide (x = y))) H) := rfl
theorem e_rNe : rNe x y H Q = (scal x y = true /\ Q (.bl (!decide (x = y))) H) := rfl
theorem e_ixL {K : Fg} : rIxL K x y H Q = ∃ p xs i v, x = .ref p /\ y = .int i /\ SqL K H p xs /\ atI xs i = some v /\ Q v H := rfl
theorem e_ixT {K : Fg} : rIxT K x y H Q = ∃ p xs i v, x = .ref p /\ y = .int i /\ SqT K H p xs /\ atI xs i = some v /\ Q v H := rfl
theorem e_set {o i v : V} {Q : Hp -> Prop} : rSetL o i v H Q = ∃ p xs k j, o = .ref p /\ i = .int k /\ H p = some (.lst xs) /\ ixN xs.length k = some j /\ Q (upd H p (.lst (xs.set j v))) := rfl
theorem e_cat : rCat x y H Q = ∃ l b xs zs, x = .ref l /\ y = .ref b /\ H l = some (.lst xs) /\ H b = some (.lst zs) /\ xs.length + zs.length <= sizeLine /\ ∀ p, H p = none -> Q (.ref p) (upd H p (.lst (xs ++ zs))) := rfl
theorem e_test : zdq a σ H QT = a σ H fun x H' => ∃ k, x = .bl k /\ QT k H' := rfl
theorem e_B : tB a σ H QT = a σ H fun x H1 => ∃ c, x = .bl c /\ QT c H1 := rfl
theorem e_and : tAnd tt uu σ H QT = tt σ H fun c H1 => if c = true then uu σ H1 QT else QT false H1 := rfl
theorem e_or : tOr tt uu σ H QT = tt σ H fun c H1 => if c = true then QT true H1 else uu σ H1 QT := rfl
theorem e_not : tNot tt σ H QT = tt σ H fun c H1 => QT (!c) H1 := rfl
theorem e_andV : tAndV a b σ H Q = a σ H fun x H1 => ∃ c, x = .bl c /\ if c = true then b σ H1 Q else Q (.bl false) H1 := rfl
theorem e_orV : tOrV a b σ H Q = a σ H fun x H1 => ∃ c, x = .bl c /\ if c = true then Q (.bl true) H1 else b σ H1 Q := rfl
theorem e_notV : tNotV a σ H Q = a σ H fun x H1 => ∃ c, x = .bl c /\ Q (.bl (!c)) H1 := rfl
theorem e_ifE : tIf tt a b σ H Q = tt σ H fun c H1 => if c = true then a σ H1 Q else b σ H1 Q := rfl
theorem e_all : tAll σ H QT = QT true H := rfl
theorem e_next : tNext D σ H = D.nx σ H := rfl
theorem e_seq : tSeq s t D σ H = s { D with nx := t D } σ H := rfl
theorem e_brk : tBreak D σ H = D.bk σ H := rfl
theorem e_cnt : tCont D σ H = D.ct σ H := rfl
theorem e_drop : tDrop a D σ H = a σ H fun _ H1 => D.nx σ H1 := rfl
theorem e_ret : tRet a D σ H = a σ H D.rt := rfl
theorem e_retN : tRetN D σ H = D.rt .non H := rfl
theorem e_ifS : tIfS tt s t D σ H = tt σ H fun b H1 => if b = true then s D σ H1 else t D σ H1 := rfl
theorem e_asg : tAsg a g D σ H = a σ H fun x H1 => g x σ H1 D.nx := rfl
theorem zby : zdn i v σ H QS = QS (σ.set i (some v)) H := rfl
theorem e_setC : tSetC i a D σ H = a σ H fun x H1 => D.nx (σ.set i (some x)) H1 := rfl
theorem e_augS {tget : V -> V -> Hp -> VK -> Prop} {tip : TIp} {tset : TSet} : tAugS a b c tget tip tset D σ H = a σ H fun o H1 => b σ H1 fun i H2 => tget o i H2 fun x H3 => c σ H3 fun y H4 => tip x y H4 fun z H5 => tset o i z H5 fun H6 => D.nx σ H6 := rfl
theorem e_ipI {f : Int -> Int -> Int} : ipI f x y H Q = ∃ i j, x = .int i /\ y = .int j /\ Q (.int (f i j)) H := rfl
theorem e_nil : tNil σ H QA = QA [] H := rfl
theorem e_cons : zd7 a ta σ H QA = a σ H fun x H1 => ta σ H1 fun xs H2 => QA (x :: xs) H2 := rfl
theorem e_tup : tTup ta σ H Q = ta σ H fun xs H1 => xs.length <= sizeLine /\ ∀ p, H1 p = none -> Q (.ref p) (upd H1 p (.tup xs)) := rfl
theorem e_lst : tLst ta σ H Q = ta σ H fun xs H1 => xs.length <= sizeLine /\ ∀ p, H1 p = none -> Q (.ref p) (upd H1 p (.lst xs)) := rfl
theorem e_call {sp : Sp} {E : XK} : bd sp [] E ta σ H Q = ta σ H fun vs H1 => sp (vs ++ []) H1 Q E := rfl
theorem e_CB {u : List V -> Hp -> VK -> Prop} : tCB u ta σ H Q = ta σ H fun vs H1 => u vs H1 Q := rfl
theorem e_BM {K : Fg} {T : String} {u : V -> List V -> Hp -> VK -> Prop} : tBM K T u a ta σ H Q = a σ H fun x H1 => tyV K T x H1 /\ ta σ H1 fun xs H2 => u x xs H2 Q := rfl
theorem e_app {vs : List V} : zcb x vs H Q = ∃ l xs y, x = .ref l /\ vs = [y] /\ H l = some (.lst xs) /\ xs.length < sizeLine /\ Q .non (upd H l (.lst (xs ++ [y]))) := rfl
theorem e_rng1 : iRng1 ta σ H R = ta σ H fun vs H1 => ∃ j : Int, vs = [.int j] /\ -(2 ^ 62) <= j /\ j < 2 ^ 62 /\ R (Itr 0 j.toNat) H1 := rfl
theorem e_rng2 : iRng2 ta σ H R = ta σ H fun vs H1 => ∃ i j : Int, vs = [.int i, .int j] /\ (-(2 ^ 62) <= i /\ i < 2 ^ 62 /\ -(2 ^ 62) <= j /\ j < 2 ^ 62) /\ R (Itr i (j - i).toNat) H1 := rfl
theorem e_iL {K : Fg} : iList K a σ H R = a σ H fun x H1 => ∃ p, x = .ref p /\ (∃ xs, SqL K H1 p xs) /\ R (Itl K p) H1 := rfl
def ForW (J : It) (g : TG) (tb : TS) (D : Ends) (σ : St) (H1 : Hp) : Prop := ∃ W : Nat -> Nat -> St -> Hp -> Prop, (∃ m, W 0 m σ H1) /\ ∀ i m σ H, W i m σ H ->
  (J.stop i H /\ D.nx σ H) \/ (J.go i H /\ ∃ N : St -> Hp -> Prop, (∀ σ' H', N σ' H' -> ∃ m', m' < m /\ W (i + 1) m' σ' H') /\ ∀ x H', J.yld i H x H' -> g x σ H' fun σ2 H2 => tb { D with nx := N, ct := N, bk := D.nx } σ2 H2)
theorem e_for : tFor wi g t D σ H = wi σ H fun J H1 => ForW J g t D σ H1 := rfl
theorem e_comp {k : Nat} {g : Dyn -> TG} {tt : Dyn -> TT} {te : Dyn -> TE} : zdd k wi g tt te σ H Q = wi σ H fun J H1 => ∀ d : Dyn, pq J σ k (g d) (tt d) (te d) H1 fun ys H' => ∀ l, H' l = none -> Q (.ref l) (upd H' l (.lst ys)) := rfl
end
end L2
namespace L2
open PySem PySem.Spec PyProof.Rows
section
variable {X : Cx}
theorem qy (hc : X.calm = true) : CallR X (.builtin "all") (fun xs H Q => ∃ (p : Addr) (bs : List Bool), xs = [.ref p] /\ SqL X.K H p (bs.map V.bl) /\ Q (.bl (bs.all id)) H) := by
  intro pins s σ H xs us Q I r h;obtain ⟨p, bs, rfl, hq, q⟩ := h;obtain ⟨u, rfl, rx⟩ := Vals.one r;cases rx;obtain ⟨its, rv, pl, hz⟩ := I.list hq;have hlt : p < s.heap.objs.size := by obtain ⟨_, e, _⟩ := pl.isList; exact Heap.lt_size e
  have hlen : its.length = bs.length := by have := rv.length; rw [Za] at this; exact this.symm
  refine call_all_walk (wpAny_pyIter_list pl.isList ?_)
  refine ⟨s.heap.objs.size, [s.heap.objs.size, p], [s.heap.objs.size], its.toArray.size, _, _, fun i => (bs[i]?).getD true, rfl, Walks.list (A := X.A.in1) (I.ok.hd hc) _ p (Zs hlt) its.toArray,
    ⟨⟨_, Heap.get?_push_size _ rfl, rfl, rfl⟩, pl.isList.push _⟩, fun i v s' Q' E' hP hQ => ?_, fun h' tk hk => ?_⟩
  . have hi : its[i]? = some v := by simpa using hP
    have hil : i < bs.length := by rw [<- hlen]; exact (Zc.mp hi).1
    have e : bs[i]? = some bs[i] := by simp [hil]
    obtain ⟨u, hu, ru⟩ := rv.get (i := i) (x := V.bl bs[i]) (by rw [Ze, e]; rfl);rw [hi] at hu;cases hu;cases ru;simp only [e, Option.getD_some] at hQ;exact wpAny_truthy_bool hQ
  . have e : ((List.range its.toArray.size).all fun i => (bs[i]?).getD true) = bs.all id := by
      rw [Zr, hlen];rw [Bool.eq_iff_iff, ZS, ZS]
      constructor
      . intro z b hb
        obtain ⟨i, hi, rfl⟩ := Zy hb;have := z i (ZU.mpr hi)
        simpa [Zb hi] using this
      . intro z i hi
        have hi' := ZU.mp hi;simp only [Zb hi', Option.getD_some];exact z _ (Zl hi')
    rw [e];exact ⟨.bl (bs.all id), H, I.kept fun b x e => hk b x (fun hm => by rw [ZC.mp hm] at e; exact ZJ _ (Heap.lt_size e)) (Heap.get?_push_of_some _ e), rfl, q⟩
end
def Itz (K : Fg) (a b : Addr) : It :=
  ⟨fun i H => ∃ xs ys x y, SqL K H a xs /\ SqL K H b ys /\ xs[i]? = some x /\ ys[i]? = some y,
   fun i H v H' => ∃ T x y, v = .ref T /\ H T = none /\ H' = upd H T (.tup [x, y]) /\ ∀ xs ys, SqL K H a xs -> SqL K H b ys -> xs[i]? = some x /\ ys[i]? = some y,
   fun i H => ∃ xs ys, SqL K H a xs /\ SqL K H b ys /\ (xs.length <= i \/ ys.length <= i)⟩
structure zaq (z TI TO i1 i2 : Addr) : Prop where
  TIz : TI ≠ z
  TOz : TO ≠ z
  i1z : i1 ≠ z
  i2z : i2 ≠ z
  TITO : TI ≠ TO
  TIi1 : TI ≠ i1
  TIi2 : TI ≠ i2
  TOi1 : TO ≠ i1
  TOi2 : TO ≠ i2
  i12 : i1 ≠ i2
def tnZip (z TI TO i1 i2 l1 l2 : Addr) (i : Nat) (h : Heap) : Prop := IsZip h z TI TO .none /\ IsPair h TI (.ref i1) (.ref i2) /\ (∃ a b, IsPair h TO a b) /\ h.IsListIter i1 l1 i /\ h.IsListIter i2 l2 i
theorem dn {z TI TO i1 i2 l1 l2 : Addr} {i : Nat} {h : Heap} {xs ys : Array Value} (D : zaq z TI TO i1 i2) (t : tnZip z TI TO i1 i2 l1 l2 i h) (h1 : h.IsList l1 xs) (h2 : h.IsList l2 ys) : ZipApart z TI TO i1 i2 l1 l2 := by
  obtain ⟨hz, hTI, ⟨a, b, hTO⟩, k1, k2⟩ := t
  have n1 : ∀ {l : Addr} {ws : Array Value}, h.IsList l ws -> l ≠ z := fun {l ws} q e => by
    obtain ⟨o, e1, c, _⟩ := q;subst e;rw [hz] at e1; cases e1; simp at c
  have n2 : ∀ {l : Addr} {ws : Array Value}, h.IsList l ws -> l ≠ TO := fun {l ws} q e => by
    obtain ⟨o, e1, c, _⟩ := q;subst e;rw [hTO] at e1; cases e1; simp at c
  have n3 : ∀ {l j l' : Addr} {k : Nat} {ws : Array Value}, h.IsListIter j l' k -> h.IsList l ws -> l ≠ j := fun {l j l' k ws} k1 q e => by
    obtain ⟨o, e1, c, _⟩ := q;obtain ⟨o', e1', c', _⟩ := k1;subst e;rw [e1'] at e1; cases e1; rw [c'] at c; simp at c
  exact ⟨D.TIz, D.TOz, D.i1z, D.i2z, D.TITO, D.TIi1, D.TIi2, D.TOi1, D.TOi2, D.i12, n1 h1, n2 h1, n3 k1 h1, n3 k2 h1, n1 h2, n2 h2, n3 k1 h2, n3 k2 h2⟩
theorem Inv.turnedLaid {X : Cx} {pins : List (Addr × Obj)} {σ : St} {H : Hp} {s : Shared} {h' : Heap} {t' : Nat} {ch : List Addr} {T : Addr} {o : HO} (I : Inv X pins σ H s) (hf : ∀ b ∈ ch, FpOk X pins H b)
    (k : ∀ b o, b ∉ ch -> s.heap.get? b = some o -> h'.get? b = some o) (hT : s.heap.objs.size <= T) (new : ObjOk X.prog X.w (upd H T o) h' T o) : Inv X pins σ (upd H T o) { s with heap := h', toks := t' } := by
  have nch : ∀ b u, H b = some u -> b ∉ ch := fun b u e z => by rw [(hf b z).1] at e; cases e
  have nT : ∀ b u, H b = some u -> b ≠ T := fun b u e => Zs (Zh (I.hok.lt e) hT)
  have nT' : ∀ b u, s.heap.get? b = some u -> b ≠ T := fun b u e => Zs (Zh (Heap.lt_size e) hT)
  refine I.step (g' := s.gens) (d' := s.drawn) (ch := ch) (fun b hb => ?_) (fun b o _ _ hc e _ => k b o hc e) (fun b o _ _ hc e _ => ⟨o.slots, k b o hc e⟩) (fun b o _ e n => by rw [zx (nT' b o e)]; exact n)
    (fun b o hc e => ⟨o, k b o hc e⟩) (fun b xs e => by rw [zx (nT b _ e)]; exact e) (fun b ob u e => by rw [zx (nT b _ e)]; exact e) (fun b ps e => ⟨#[], by rw [zx (nT b _ e), e]; simp⟩) (fun m hm => ?_) (fun b u e => ?_) I.bare
  . obtain ⟨f0, f1, f2, f3, f4, f5⟩ := hf b hb
    exact ⟨f3, f1, f4, f5⟩
  . obtain ⟨ob, es, ep, ho, r⟩ := hm
    exact ⟨ob, es, ep, k _ ob (fun z => (hf _ z).2.1 rfl) ho, r⟩
  . by_cases hb : b = T
    . subst hb
      rw [zg] at e;cases e;exact new
    . rw [zx hb] at e
      refine (I.hok b u e).stay (fun c v hc q => k c v ?_ q) (fun c q => by rw [zx (nT c _ q)]; exact q) fun c xs q => by rw [zx (nT c _ q)]; exact q
      rcases hc with z | z
      . rw [z]; exact nch b u e
      . exact nch c _ z
theorem zg4 {P : Program} {w : World} {K : Fg} {elts : List Expr} {x1 : Nat} {pos : Pos} (z TI TO i1 i2 l1 l2 : Addr) (D : zaq z TI TO i1 i2) :
    Turn P w K (.Tuple elts x1 pos) (Itz K l1 l2) [z, TI, TO, i1, i2] z (tnZip z TI TO i1 i2 l1 l2) where
  mem := by simp
  obj := fun i h st b hb => by
    obtain ⟨hz, hTI, ⟨a, b', hTO⟩, ⟨o1, e1, c1, d1⟩, ⟨o2, e2, c2, d2⟩⟩ := st;simp only [ZK, Zx, or_false] at hb
    rcases hb with rfl | rfl | rfl | rfl | rfl
    . exact ⟨_, hz, fun v q => by cases q⟩
    . exact ⟨_, hTI, fun v q => by cases q⟩
    . exact ⟨_, hTO, fun v q => by cases q⟩
    . exact ⟨o1, e1, fun v q => by rw [d1] at q; cases q⟩
    . exact ⟨o2, e2, fun v q => by rw [d2] at q; cases q⟩
  keep := fun i h h' st k => by
    obtain ⟨hz, hTI, ⟨a, b, hTO⟩, h1, h2⟩ := st;exact ⟨k z (by simp) _ hz, k TI (by simp) _ hTI, ⟨a, b, k TO (by simp) _ hTO⟩, h1.at fun o e => k i1 (by simp) o e, h2.at fun o e => k i2 (by simp) o e⟩
  item := by
    intro X hP hw hK hc i pins s σ H E I hf st hg;subst hP hw hK;obtain ⟨xs, ys, x, y, qa, qb, hx, hy⟩ := hg;obtain ⟨us, ru, pu, zu⟩ := I.list qa;obtain ⟨vs, rv, pv', zv⟩ := I.list qb;obtain ⟨u, hu, rxu⟩ := ru.get hx;obtain ⟨v, hv, ryv⟩ := rv.get hy;have A := dn D st pu.isList pv'.isList;obtain ⟨hz, hTI, ⟨a, b, hTO⟩, h1, h2⟩ := id st;refine wpAny_pyNext_zip_item A hz hTI hTO h1 h2 pu.isList pv'.isList (x := u) (y := v) (by simpa using hu) (by simpa using hv) fun h' a1 a2 a3 a4 a5 a6 hk => ?_
    have ltT : ∀ {c o}, s.heap.get? c = some o -> c ≠ s.heap.objs.size := fun e => Zs (Heap.lt_size e)
    refine ⟨_, rfl, wpAny_letOwnedTupleGo_zip (s := { s with heap := h' }) a1 fun h'' b1 sb => ?_⟩;have hTz : s.heap.objs.size ≠ z := Ne.symm (ltT hz)
    have hf4 : ∀ b ∈ [z, TO, i1, i2], FpOk X pins H b := fun b hb => hf b (by
      simp only [ZK, Zx, or_false] at hb ⊢
      rcases hb with h | h | h | h <;> simp [h])
    have I1 : Inv X pins σ (upd H s.heap.objs.size (.tup [x, y])) { s with heap := h'', toks := s.toks } := I.turnedLaid (ch := [z, TO, i1, i2]) hf4 (fun b o hb e => by
      simp only [ZK, Zx, or_false, not_or] at hb
      exact sb.extBut b o hb.1 (hk b o hb.1 hb.2.1 hb.2.2.1 hb.2.2.2 e)) (Zm _) ⟨by show 2 <= sizeLine; decide, [u, v], .cons rxu (.cons ryv .nil), by
        have e := sb.extBut _ _ hTz a5
        exact ⟨_, e, rfl, _, rfl, rfl⟩⟩
    refine ⟨.ref s.heap.objs.size, _, I1, rfl, ⟨s.heap.objs.size, x, y, rfl, I.hok.fresh (Zm _), rfl, fun xs' ys' q1 q2 => ?_⟩, ?_, fun b hb => ?_⟩
    . rw [I.list_inj q1 qa, I.list_inj q2 qb]
      exact ⟨hx, hy⟩
    . exact ⟨b1, sb.extBut _ _ A.TIz (hk _ _ A.TIz A.TITO A.TIi1 A.TIi2 hTI), ⟨_, _, sb.extBut _ _ A.TOz a2⟩, a3.extBut sb.extBut A.i1z, a4.extBut sb.extBut A.i2z⟩
    . have hb' := (hf b hb).1
      rw [zx ?_]
      . exact hb'
      . simp only [ZK, Zx, or_false] at hb
        rcases hb with rfl | rfl | rfl | rfl | rfl
        . exact ltT hz
        . exact ltT hTI
        . exact ltT hTO
        . obtain ⟨_, e, _⟩ := h1; exact ltT e
        . obtain ⟨_, e, _⟩ := h2; exact ltT e
  done := by
    intro X hP hw hK hc i pins s σ H E I hf st hg;subst hP hw hK;obtain ⟨xs, ys, qa, qb, hend⟩ := hg;obtain ⟨us, ru, pu, zu⟩ := I.list qa;obtain ⟨vs, rv, pv', zv⟩ := I.list qb;have A := dn D st pu.isList pv'.isList;obtain ⟨hz, hTI, ⟨a, b, hTO⟩, h1, h2⟩ := id st;have l1' := ru.length;have l2' := rv.length
    refine wpAny_pyNext_zip_end (I.ok.hd hc) A hz hTI hTO h1 h2 pu.isList pv'.isList (by
      rcases hend with h | h
      . left; simp; omega
      . right; simp; omega) fun h' hk => ⟨rfl, ?_⟩
    have nch : ∀ b u, H b = some u -> b ∉ [z, TO, i1, i2] := fun b u e q => by
      have := (hf b (by simp only [ZK, Zx, or_false] at q ⊢; rcases q with h | h | h | h <;> simp [h])).1;rw [this] at e; cases e
    have k : ∀ b o, b ∉ [z, TO, i1, i2] -> s.heap.get? b = some o -> h'.get? b = some o := fun b o hb e => by
      simp only [ZK, Zx, or_false, not_or] at hb;exact hk b o hb.1 hb.2.1 hb.2.2.1 hb.2.2.2 e
    have hf4 : ∀ b ∈ [z, TO, i1, i2], FpOk X pins H b := fun b hb => hf b (by
      simp only [ZK, Zx, or_false] at hb ⊢
      rcases hb with h | h | h | h <;> simp [h])
    exact I.step (g' := s.gens) (d' := s.drawn) (t' := s.toks) (ch := [z, TO, i1, i2]) (fun b hb => by
        obtain ⟨f0, f1, f2, f3, f4, f5⟩ := hf4 b hb
        exact ⟨f3, f1, f4, f5⟩) (fun b o _ _ hc e _ => k b o hc e) (fun b o _ _ hc e _ => ⟨o.slots, k b o hc e⟩) (fun b o _ e n => n)
      (fun b o hc e => ⟨o, k b o hc e⟩) (fun b xs e => e) (fun b ob u e => e) (fun b ps e => ⟨#[], by rw [e]; simp⟩) (fun m hm => by
        obtain ⟨ob, es, ep, ho, r⟩ := hm
        exact ⟨ob, es, ep, k _ ob (fun q => (hf4 _ q).2.1 rfl) ho, r⟩) (fun b u e => (I.hok b u e).stay (fun c v hc q => k c v (by
          rcases hc with r | r
          . rw [r]; exact nch b u e
          . exact nch c _ r) q) (fun _ q => q) fun _ _ q => q) I.bare
  self := fun _ _ _ _ _ st h => wpAny_pyIter_zip st.1 h
def iZip (K : Fg) (ta : TA) : TI := fun σ H R => ta σ H fun vs H1 => ∃ a b, vs = [.ref a, .ref b] /\ (∃ xs, SqL K H1 a xs) /\ (∃ ys, SqL K H1 b ys) /\ R (Itz K a b) H1
theorem pi_zip {X : Cx} {a b : Expr} {ta : TA} {p pos tpos : Pos} {elts : List Expr} {x1 : Nat} (hg : Gl X "zip") (hm : X.mg "zip" = none) (ha : PA X [a, b] ta) (hs : starEach [a, b] X.env = [(false, eval a X.env), (false, eval b X.env)] := by rfl) (hs2 : starEach [b] X.env = [(false, eval b X.env)] := by rfl) :
    PI X (.Tuple elts x1 tpos) (.Call (.Name "zip" p) [a, b] [] pos) (iZip X.K ta) := by
  intro pins s σ H R I h;refine Call_ (ul I hg hm bt_zip (PyProof.Rows.callWith_type1 (thn (ha pos pins s σ H _ I h) fun us s1 ⟨vs, H1, I1, r1, q1⟩ => ?_) (by rw [hs, hs2]) (by rw [hs2]; rfl)));obtain ⟨a, b, e, ⟨xs, qa⟩, ⟨ys, qb⟩, q⟩ := q1;subst e;obtain ⟨u, v, rfl, ru, rv⟩ := Vals.two r1;cases ru; cases rv;obtain ⟨its, _, pa, _⟩ := I1.list qa;obtain ⟨jts, _, pb, _⟩ := I1.list qb;refine call_zip_2 pa.isList pb.isList fun h' z1 z2 z3 z4 z5 z6 kp => ?_
  refine wpAny_pyIter_zip (s := { s1 with heap := h' }) z1 ?_;have I2 : Inv X pins σ H1 { s1 with heap := h' } := I1.kept (t' := s1.toks) kp;have D : zaq (s1.heap.objs.size + 4) (s1.heap.objs.size + 2) (s1.heap.objs.size + 3) s1.heap.objs.size (s1.heap.objs.size + 1) := by constructor <;> (show (_ : Nat) ≠ _; omega)
  refine ⟨s1.heap.objs.size + 4, [s1.heap.objs.size + 4, s1.heap.objs.size + 2, s1.heap.objs.size + 3, s1.heap.objs.size, s1.heap.objs.size + 1], _, _, H1, rfl, I2, zg4 _ _ _ _ _ a b D, ⟨z1, z2, ⟨_, _, z3⟩, z4, z5⟩, fun c hc => ?_, q⟩
  have hle : s1.heap.objs.size <= c := by
    simp only [ZK, Zx, or_false] at hc
    rcases hc with h | h | h | h | h <;> (rw [h]; omega)
  exact I1.fpOk hle (I1.hok.fresh hle)
theorem e_zip {K : Fg} {ta : TA} {σ : St} {H : Hp} {R : It -> Hp -> Prop} : iZip K ta σ H R = ta σ H fun vs H1 => ∃ a b, vs = [.ref a, .ref b] /\ (∃ xs, SqL K H1 a xs) /\ (∃ ys, SqL K H1 b ys) /\ R (Itz K a b) H1 := rfl
theorem e_gTup {K : Fg} {n : Nat} {t : TGs} {v : V} {σ : St} {H : Hp} {Q : St -> Hp -> Prop} : gTup K n t v σ H Q = ∃ a xs, v = .ref a /\ SqT K H a xs /\ xs.length = n /\ t xs σ H Q := rfl
theorem e_gNil {vs : List V} {σ : St} {H : Hp} {Q : St -> Hp -> Prop} : gNil vs σ H Q = (vs = [] /\ Q σ H) := rfl
theorem zhg {t : TG} {u : TGs} {vs : List V} {σ : St} {H : Hp} {Q : St -> Hp -> Prop} : gCons t u vs σ H Q = ∃ v r, vs = v :: r /\ t v σ H fun σ' H' => u r σ' H' Q := rfl
end L2
namespace L2
open PySem PySem.Spec PyProof.Rows
section
variable {X : Cx}
end
section
variable {X : Cx}
end
theorem e_gSub {to ti : TE} {t : TSet} {v : V} {σ : St} {H : Hp} {Q : St -> Hp -> Prop} : gSub to ti t v σ H Q = to σ H fun o H1 => ti σ H1 fun i H2 => t o i v H2 fun H3 => Q σ H3 := rfl
theorem e_rep {x y : V} {H : Hp} {Q : VK} : rRep x y H Q = ∃ l k xs, x = .ref l /\ y = .int k /\ H l = some (.lst xs) /\ -(2 ^ 63) <= k /\ k < 2 ^ 63 /\ xs.length * k.toNat <= sizeLine /\ ∀ p, H p = none -> Q (.ref p) (upd H p (.lst (List.replicate k.toNat xs).flatten)) := rfl
end L2
namespace L2
open PySem PySem.Spec PyProof.Rows
section
variable {σ : St} {k : Nat} {g : TG} {tt : TT} {te : TE} {H1 : Hp} {Fin : List V -> Hp -> Prop}
theorem zgx {K : Fg} {a b : Addr} {xs zs : List V} (Pv : Nat -> List V -> Hp -> Prop) (h0 : Pv 0 [] H1) (hz : ∀ i ys H, i <= min xs.length zs.length -> Pv i ys H -> ys.length <= sizeLine /\ SqL K H a xs /\ SqL K H b zs)
    (hs : ∀ i x z ys H T, xs[i]? = some x -> zs[i]? = some z -> H T = none -> Pv i ys H -> g (.ref T) (List.replicate k none ++ σ) (upd H T (.tup [x, z])) fun σ2 H2 => σ2.drop k = σ /\ tt σ2 H2 fun b H3 => if b = true then te σ2 H3 fun v H4 => Pv (i + 1) (ys ++ [v]) H4 else Pv (i + 1) ys H3)
    (hd : ∀ ys H, Pv (min xs.length zs.length) ys H -> Fin ys H) : pq (Itz K a b) σ k g tt te H1 Fin := by
  refine ⟨fun i m ys H => m = min xs.length zs.length - i /\ i <= min xs.length zs.length /\ Pv i ys H, ⟨min xs.length zs.length, by simp, ZE _, h0⟩, ?_⟩
  rintro i m ys H ⟨rfl, hi, p⟩
  obtain ⟨q0, qa, qb⟩ := hz i ys H hi p;refine ⟨q0, ?_⟩
  by_cases hlt : i < min xs.length zs.length
  . have h1 : i < xs.length := by omega
    have h2 : i < zs.length := by omega
    refine .inr ⟨⟨xs, zs, xs[i], zs[i], qa, qb, by simp [h1], by simp [h2]⟩, Pv (i + 1), fun ys' H' p' => ⟨min xs.length zs.length - (i + 1), by omega, rfl, hlt, p'⟩, fun x H' y => ?_⟩;obtain ⟨T, x', z', rfl, hT, rfl, hy⟩ := y;obtain ⟨e1, e2⟩ := hy xs zs qa qb;exact hs i x' z' ys _ T e1 e2 hT p
  . have e : i = min xs.length zs.length := by omega
    subst e;exact .inl ⟨⟨xs, zs, qa, qb, by omega⟩, hd ys H p⟩
end
theorem e_slL {K : Fg} {x : V} {lo hi : Option Int} {H : Hp} {Q : VK} : rSlL K x lo hi H Q = ∃ a xs, x = .ref a /\ SqL K H a xs /\ ∀ p, H p = none -> Q (.ref p) (upd H p (.lst (cutV xs lo hi))) := rfl
theorem e_tSl {r : V -> Option Int -> Option Int -> Hp -> VK -> Prop} {te : TE} {tl th : TO} {σ : St} {H : Hp} {Q : VK} : tSl r te tl th σ H Q = te σ H fun x H1 => tl σ H1 fun l H2 => th σ H2 fun u H3 => r x l u H3 Q := rfl
theorem zg6 {σ : St} {H : Hp} {Q : Option Int -> Hp -> Prop} : zbo σ H Q = Q none H := rfl
theorem e_part {t : TE} {σ : St} {H : Hp} {Q : Option Int -> Hp -> Prop} : tPart t σ H Q = t σ H fun x H1 => ∃ i, x = .int i /\ Q (some i) H1 := rfl
end L2
namespace L2
open PySem PySem.Spec PyProof.Rows
section
variable {σ : St} {H : Hp} {Q : VK} {a b c : TE} {x : V} {vs : List V} {r r' : R2}
theorem e_BM0 {K : Fg} {T : String} {u : V -> List V -> Hp -> VK -> Prop} : tBM0 K T u a σ H Q = a σ H fun x H1 => tyV K T x H1 /\ u x [] H1 Q := rfl
theorem zic : aa r r' a b c σ H Q = a σ H fun x H1 => b σ H1 fun y H2 => r x y H2 fun z H3 => ∃ k, z = .bl k /\ (if k = true then c σ H3 fun w' H4 => r' y w' H4 Q else Q (.bl false) H3) := rfl
theorem zhw : tDNewK σ H Q = ∀ p, H p = none -> Q (.ref p) (upd H p (.dK [])) := rfl
theorem e_in {K : Fg} {neg : Bool} {y : V} : rIn K neg x y H Q = ∃ p xs, y = .ref p /\ (SqL K H p xs \/ SqT K H p xs) /\ y9 x = true /\ xs.all y9 = true /\ Q (.bl (if neg then !inV x xs else inV x xs)) H := rfl
end
theorem oy {X : Cx} {x : Str} {i : Int} {pos : Pos} (hg : Gl X x) (hm : ∃ t, X.mg x = some (Value.int i t)) (hd : (x == ("__debug__" : Str)) = false := by decide) : PE X (.Name x pos) (tC (.int i)) := by
  obtain ⟨t, hm⟩ := hm;exact zcg hg hm ⟨t, rfl⟩ hd
def Ite (K : Fg) (a : Addr) : It :=
  ⟨fun i H => ∃ xs x, SqL K H a xs /\ xs[i]? = some x,
   fun i H v H' => ∃ T x, v = .ref T /\ H T = none /\ H' = upd H T (.tup [.int i, x]) /\ ∀ xs, SqL K H a xs -> xs[i]? = some x,
   fun i H => ∃ xs, SqL K H a xs /\ xs.length <= i⟩
def tnEnum (e it l : Addr) (i : Nat) (h : Heap) : Prop := (∃ old, IsEnum h e it i old) /\ h.IsListIter it l i
theorem zei {P : Program} {w : World} {K : Fg} {elts : List Expr} {x1 : Nat} {pos : Pos} (e it l : Addr) (hne : e ≠ it) :
    Turn P w K (.Tuple elts x1 pos) (Ite K l) [e, it] e (tnEnum e it l) where
  mem := by simp
  obj := fun i h st b hb => by
    obtain ⟨⟨old, he⟩, ⟨o1, e1, c1, d1⟩⟩ := st;simp only [ZK, Zx, or_false] at hb
    rcases hb with rfl | rfl
    . exact ⟨_, he, fun v q => by cases q⟩
    . exact ⟨o1, e1, fun v q => by rw [d1] at q; cases q⟩
  keep := fun i h h' st k => by
    obtain ⟨⟨old, he⟩, h1⟩ := st;exact ⟨⟨old, k e (by simp) _ he⟩, h1.at fun o q => k it (by simp) o q⟩
  item := by
    intro X hP hw hK hc i pins s σ H E I hf st hg;subst hP hw hK;obtain ⟨xs, x, qa, hx⟩ := hg;obtain ⟨us, ru, pu, zu⟩ := I.list qa;obtain ⟨u, hu, rxu⟩ := ru.get hx;obtain ⟨⟨old, he⟩, h1⟩ := id st;refine wpAny_pyNext_enum_item he h1 pu.isList (x := u) (by simpa using hu) hne fun h' a1 a2 a3 a4 hk => ?_
    have ltT : ∀ {c o}, s.heap.get? c = some o -> c ≠ s.heap.objs.size := fun q => Zs (Heap.lt_size q)
    have hit1 : it ≠ s.heap.objs.size := by obtain ⟨_, q, _⟩ := h1; exact ltT q
    have hTe : s.heap.objs.size ≠ e := Ne.symm (ltT he);refine ⟨_, rfl, wpAny_letOwnedTupleGo_enum (s := { s with heap := h', toks := s.toks + 1 }) a1 fun h'' b1 sb => ?_⟩
    have I1 : Inv X pins σ (upd H s.heap.objs.size (.tup [.int i, x])) { s with heap := h'', toks := s.toks + 1 } := I.turnedLaid (ch := [e, it]) hf (fun b o hb q => by
      simp only [ZK, Zx, or_false, not_or] at hb
      exact sb.extBut b o hb.1 (hk b o hb.1 hb.2 q)) (Zm _) ⟨by show 2 <= sizeLine; decide, [.int i s.toks, u], .cons ⟨_, rfl⟩ (.cons rxu .nil), by
        have q := sb.extBut _ _ hTe a3
        exact ⟨_, q, rfl, _, rfl, rfl⟩⟩
    refine ⟨.ref s.heap.objs.size, _, I1, rfl, ⟨s.heap.objs.size, x, rfl, I.hok.fresh (Zm _), rfl, fun xs' q1 => ?_⟩, ?_, fun b hb => ?_⟩
    . rw [I.list_inj q1 qa]
      exact hx
    . refine ⟨⟨u, ?_⟩, a2.extBut sb.extBut (Ne.symm hne)⟩
      have z : ((i + 1 : Nat) : Int) = (i : Int) + 1 := by omega
      rw [z];exact b1
    . have hb' := (hf b hb).1
      rw [zx ?_]
      . exact hb'
      . simp only [ZK, Zx, or_false] at hb
        rcases hb with rfl | rfl
        . exact Ne.symm hTe
        . exact hit1
  done := by
    intro X hP hw hK hc i pins s σ H E I hf st hg;subst hP hw hK;obtain ⟨xs, qa, hend⟩ := hg;obtain ⟨us, ru, pu, zu⟩ := I.list qa;obtain ⟨⟨old, he⟩, h1⟩ := id st;have l1' := ru.length;obtain ⟨f0, f1, f2, f3, f4, f5⟩ := hf it (by simp);exact wpAny_pyNext_enum_end (I.ok.hd hc) he h1 pu.isList (by simp; omega) fun h' eb => ⟨rfl, I.turned (t' := s.toks) (fun b o hb q => eb b o hb q) f0 f1 f3 f4 f5⟩
  self := fun _ _ _ _ _ st h => by
    obtain ⟨⟨old, he⟩, _⟩ := st;exact wpAny_pyIter_enum he h
def iEnum (K : Fg) (ta : TA) : TI := fun σ H R => ta σ H fun vs H1 => ∃ a, vs = [.ref a] /\ (∃ xs, SqL K H1 a xs) /\ R (Ite K a) H1
theorem e_enum {K : Fg} {ta : TA} {σ : St} {H : Hp} {R : It -> Hp -> Prop} : iEnum K ta σ H R = ta σ H fun vs H1 => ∃ a, vs = [.ref a] /\ (∃ xs, SqL K H1 a xs) /\ R (Ite K a) H1 := rfl
theorem ji {X : Cx} {a : Expr} {ta : TA} {p pos tpos : Pos} {elts : List Expr} {x1 : Nat} (hg : Gl X "enumerate") (hm : X.mg "enumerate" = none) (ha : PA X [a] ta) (hs : starEach [a] X.env = [(false, eval a X.env)] := by rfl) :
    PI X (.Tuple elts x1 tpos) (.Call (.Name "enumerate" p) [a] [] pos) (iEnum X.K ta) := by
  intro pins s σ H R I h;refine Call_ (ul I hg hm ao (PyProof.Rows.callWith_type1 (thn (ha pos pins s σ H _ I h) fun us s1 ⟨vs, H1, I1, r1, q1⟩ => ?_) hs rfl));obtain ⟨a, e, ⟨xs, qa⟩, q⟩ := q1;subst e;obtain ⟨u, rfl, ru⟩ := Vals.one r1;cases ru;obtain ⟨its, _, pa, _⟩ := I1.list qa;refine call_enumerate_list pa.isList fun h' z1 z2 z3 kp => ?_
  refine wpAny_pyIter_enum (s := { s1 with heap := h' }) z1 ?_;have I2 : Inv X pins σ H1 { s1 with heap := h' } := I1.kept (t' := s1.toks) kp;refine ⟨s1.heap.objs.size + 1, [s1.heap.objs.size + 1, s1.heap.objs.size], _, _, H1, rfl, I2, zei _ _ a (by show (_ : Nat) ≠ _; omega), ⟨⟨_, z1⟩, z2⟩, fun c hc => ?_, q⟩
  have hle : s1.heap.objs.size <= c := by
    simp only [ZK, Zx, or_false] at hc
    rcases hc with h | h <;> (rw [h]; omega)
  exact I1.fpOk hle (I1.hok.fresh hle)
theorem zgr {K : Fg} {a : Addr} {xs : List V} {g : TG} {tb : TS} {D : Ends} {σ : St} {H : Hp} (Pv : Nat -> St -> Hp -> Prop) (h0 : Pv 0 σ H) (hl : ∀ i σ H, i <= xs.length -> Pv i σ H -> SqL K H a xs)
    (hs : ∀ i x σ H T, xs[i]? = some x -> H T = none -> Pv i σ H -> g (.ref T) σ (upd H T (.tup [.int i, x])) fun σ2 H2 => tb { D with nx := Pv (i + 1), ct := Pv (i + 1), bk := D.nx } σ2 H2)
    (hd : ∀ σ H, Pv xs.length σ H -> D.nx σ H) : ForW (Ite K a) g tb D σ H := by
  refine ⟨fun i m σ H => m = xs.length - i /\ i <= xs.length /\ Pv i σ H, ⟨xs.length, by simp, ZE _, h0⟩, ?_⟩
  rintro i m σ H ⟨rfl, hi, p⟩
  have q := hl i σ H hi p
  by_cases hlt : i < xs.length
  . refine .inr ⟨⟨xs, xs[i], q, by simp [hlt]⟩, Pv (i + 1), fun σ' H' p' => ⟨xs.length - (i + 1), by omega, rfl, hlt, p'⟩, fun x H' y => ?_⟩
    obtain ⟨T, x', rfl, hT, rfl, hy⟩ := y;exact hs i x' σ _ T (hy xs q) hT p
  . have e : i = xs.length := by omega
    subst e;exact .inl ⟨⟨xs, q, Zm _⟩, hd σ H p⟩
section
variable {X : Cx}
end
section
variable {X : Cx}
end
end L2
namespace L2
open PySem PySem.Spec PyProof.Rows
section
variable {X : Cx} {pins : List (Addr × Obj)} {σ : St} {H : Hp} {k : Nat} {f : Addr} {fd : FuncData} {ps : List Str} {sp : Sp}
theorem zay {s : Shared} {fp : List Addr} {x : V} {u : Value} {n : Int} {Q : Value -> Shared -> Prop} {E : Value -> Shared -> Prop} (F : FnOk X.prog X.w X.K X.mg X.base CX0 k f fd ps sp) (hb : Binds X.K fd ps []) (hr : Room k X.A.in1)
    (I : Inv X pins σ H s) (hf : ∀ b ∈ fp, FpOk X pins H b) (ho : ∀ b ∈ fp, ∃ o, s.heap.get? b = some o /\ ∀ v, o.data ≠ .cell v) (rx : RelV x u)
    (h : sp [x] H (fun v H' => v = .int n /\ H' = H) E0)
    (q : ∀ t s', Inv X pins σ H s' -> (∀ b ∈ fp, ∀ o, s.heap.get? b = some o -> s'.heap.get? b = some o) -> Q (.int n t) s') :
    wpAny (model X.prog X.w) X.A.in1 (call (.ref f) [u]) Q E s := by
  have I1 := I.pinned hf ho;have hl : [u].length = ps.length := F.len [x] _ _ _ h;refine wpAny_call (codeAny_mono (F.run X.A.in1 X.stack s H ⟨[u], []⟩ [u] [x] _ E0 hr I1.env0.in1 (hb s [u] I.kIn hl) (.cons rx .nil) h) fun r s' hq => ?_)
  cases r with
  | error e => exact hq.elim
  | ok fl =>
    cases fl with
    | ret u' =>
      obtain ⟨v, H', I2, rv, e1, e2⟩ := I1.after hq;subst e1 e2;obtain ⟨t, rfl⟩ := rv;refine q t s' I2.unpinned fun b hb o e => ?_
      exact (I2.pin (b, o) (Zu _ (Zu _ (sy hb e)))).1
    | next => exact False.elim hq
    | brk => exact False.elim hq
    | cont => exact False.elim hq
theorem Inv.turned1 {s : Shared} {h' : Heap} {it : Addr} {t' : Nat} (I : Inv X pins σ H s) (hf : FpOk X pins H it) (k : ∀ b o, b ≠ it -> s.heap.get? b = some o -> h'.get? b = some o) : Inv X pins σ H { s with heap := h', toks := t' } := by
  obtain ⟨f0, f1, f2, f3, f4, f5⟩ := hf;exact I.turned k f0 f1 f3 f4 f5
theorem ze9 (kf : Nat -> Int) {l I0 S : Addr} {xs : List V} {R : Result -> Shared -> Prop} (hc : X.calm = true) (F : FnOk X.prog X.w X.K X.mg X.base CX0 k f fd ps sp) (hb : Binds X.K fd ps []) (hr : Room k X.A.in1)
    (hlI : l ≠ I0) (hlS : l ≠ S) (hSI : S ≠ I0) (hl : SqL X.K H l xs) (fS : FpOk X pins H S) (fI : FpOk X pins H I0)
    (turn : ∀ i x, xs[i]? = some x -> sp [x] H (fun v H' => v = .int (kf i) /\ H' = H) E0)
    (hR : ∀ i x u s', xs[i]? = some x -> RelV x u -> (∀ j, j < xs.length -> kf i <= kf j /\ (j < i -> kf i < kf j)) -> Inv X pins σ H s' -> R (.ok (.ret u)) s') :
    ∀ (r j i : Nat) (s : Shared) (x : V) (vb : Value) (tb : Tok) (c : Nat), xs.length - (j + 1) = r -> j + 1 <= xs.length -> Inv X pins σ H s -> s.heap.get? S = some (seqObj "list" #[vb, .int (kf i) tb] c) ->
      s.heap.IsListIter I0 l (j + 1) -> xs[i]? = some x -> RelV x vb -> i <= j -> (∀ j', j' <= j -> kf i <= kf j' /\ (j' < i -> kf i < kf j')) ->
      codeAny (model X.prog X.w) X.A (.builtin "min.loop" ⟨[.ref I0, .ref f, .ref S], []⟩) R s := by
  have hname : (toString "min" ++ toString ".loop" : String) = "min.loop" := by decide
  intro r
  induction r with
  | zero =>
    intro j i s x vb tb c hr' hj I hS hit hx rx hij hbest;have hin : j + 1 = xs.length := by omega
    obtain ⟨its, rv, pl, hz⟩ := I.list hl;have hlen := rv.length;have W := Walks.list (prog := X.prog) (w := X.w) (A := X.A.in1) (I.ok.hd hc) I0 l hlI its.toArray;refine codeAny_builtin PySem.F.entry_min_loop ?_;rw [Around.under_plainId PySem.F.plain_min_loop _]
    show wpAny _ X.A.in1 (seqItems? (.ref S) >>= _) _ _ _
    refine wpAny_bind (wpAny_seqItems hS rfl ?_)
    show wpAny _ X.A.in1 (tryCatch (pyNext (.ref I0)) _ >>= _) _ _ _
    refine wpAny_bind (wpAny_tryCatch (W.done _ _ _ ⟨by rw [Zr, <- hlen, <- hin]; exact hit, pl.isList⟩ fun h' tk' hk' => ?_));have I1 : Inv X pins σ H { s with heap := h', toks := tk' } := I.turned1 fI fun b o hb e => hk' b o (by simpa using hb) e
    have hS' := hk' S _ (by simpa using hSI) hS;have s1 := Heap.SameBut.update h' S (Obj.mapSeq fun _ => (#[] : Array Value))
    show wpAny _ X.A.in1 (updateSeq S (fun _ => #[]) >>= _) _ _ _
    refine wpAny_bind ?_;refine wpAny_updateSeq hS' rfl (wpAny_bind (wpAny_letGo (wpAny_pure ?_)));exact hR i x vb _ hx rx (fun j' hj' => hbest j' (by omega)) (I1.turned1 (t' := tk') fS fun b o hb e => (s1.2 b hb).trans e)
  | succ r ih =>
    intro j i s x vb tb c hr' hj I hS hit hx rx hij hbest;have hlt : j + 1 < xs.length := by omega
    obtain ⟨its, rv, pl, hz⟩ := I.list hl;have hlen := rv.length;have W := Walks.list (prog := X.prog) (w := X.w) (A := X.A.in1) (I.ok.hd hc) I0 l hlI its.toArray;refine codeAny_builtin PySem.F.entry_min_loop ?_;rw [Around.under_plainId PySem.F.plain_min_loop _]
    show wpAny _ X.A.in1 (seqItems? (.ref S) >>= _) _ _ _
    refine wpAny_bind (wpAny_seqItems hS rfl ?_)
    show wpAny _ X.A.in1 (tryCatch (pyNext (.ref I0)) _ >>= _) _ _ _
    refine wpAny_bind (wpAny_tryCatch (W.item (j + 1) _ _ _ (by rw [Zr, <- hlen]; exact hlt) ⟨hit, pl.isList⟩ fun v h' tk' hP hst' hk' => ?_));have hv : its[j + 1]? = some v := by simpa using hP
    have ey : xs[j + 1]? = some xs[j + 1] := by simp [hlt]
    obtain ⟨v', hv', ry⟩ := rv.get ey;rw [hv] at hv';cases hv';have I1 : Inv X pins σ H { s with heap := h', toks := tk' } := I.turned1 fI fun b o hb e => hk' b o (by simpa using hb) e
    have hS' := hk' S _ (by simpa using hSI) hS;obtain ⟨oI', hoI', hoc, hod⟩ := id hst'.1
    show wpAny _ X.A.in1 (tryCatch (holding [v] (call (.ref f) [v])) _ >>= _) _ _ _
    refine wpAny_bind (wpAny_tryCatch (wpAny_holding (zay (fp := [S, I0]) F hb hr I1 (fun b hb => ?_) (fun b hb => ?_) ry (turn (j + 1) _ ey) fun t2 s2 I2 kp => ?_)))
    . simp only [ZK, Zx, or_false] at hb
      rcases hb with rfl | rfl
      . exact fS
      . exact fI
    . simp only [ZK, Zx, or_false] at hb
      rcases hb with rfl | rfl
      . exact ⟨_, hS', fun v q => by cases q⟩
      . exact ⟨oI', hoI', fun v q => by rw [hod] at q; cases q⟩
    have nS2 := kp S (by simp) _ hS';have nI2 := kp I0 (by simp) _ hoI';have hit2 : s2.heap.IsListIter I0 l (j + 1 + 1) := ⟨oI', nI2, hoc, hod⟩
    show wpAny _ X.A.in1 (tryCatch (holding [v, .int (kf (j + 1)) t2] (richCompare .Lt (.int (kf (j + 1)) t2) (.int (kf i) tb) >>= _)) _ >>= _) _ _ _
    refine wpAny_bind (wpAny_tryCatch (wpAny_holding (wpAny_bind (CmpOf.ints_lt (prog := X.prog) (w := X.w) (A := X.A.in1) (P := fun i v => ∃ t, v = .int (kf i) t) kf (fun i v h => h) (j + 1) i _ _ _ _ _ ⟨t2, rfl⟩ ⟨tb, rfl⟩ ?_))));refine wpAny_bind (wpAny_holding (wpAny_truthy_bool ?_));refine wpAny_bind (wpAny_letGo (wpAny_pure ?_))
    by_cases hb' : kf (j + 1) < kf i
    . have s1 := Heap.SameBut.update s2.heap S (Obj.mapSeq fun _ => #[v, .int (kf (j + 1)) t2])
      obtain ⟨c2, hc2⟩ : ∃ c2, (s2.heap.update S (Obj.mapSeq fun _ => #[v, .int (kf (j + 1)) t2])).get? S = some (seqObj "list" #[v, .int (kf (j + 1)) t2] c2) := ⟨_, get?_update_seq nS2 fun _ => #[v, .int (kf (j + 1)) t2]⟩;simp only [hb', decide_true, if_true];refine wpAny_bind ?_;refine wpAny_updateSeq nS2 rfl (wpAny_bind (wpAny_letGo ?_));rw [hname];refine wpAny_pure ⟨plainId_quiet PySem.F.plain_min_loop _, ih (j + 1) (j + 1) _ _ v t2 c2 (by omega) hlt (I2.turned1 (t' := s2.toks) fS fun b o hb e => (s1.2 b hb).trans e) hc2 ⟨oI', (s1.2 I0 hSI.symm).trans nI2, hoc, hod⟩ ey ry (Zm _) fun j' hj' => ?_⟩
      by_cases e : j' = j + 1
      . subst e
        exact ⟨by omega, fun _ => by omega⟩
      . have hb1 := hbest j' (by omega)
        have hb2 := hb1.1;exact ⟨by omega, fun _ => by omega⟩
    . simp only [hb', decide_false, Bool.false_eq_true, if_false]
      refine wpAny_bind (wpAny_letGo ?_);rw [hname];refine wpAny_pure ⟨plainId_quiet PySem.F.plain_min_loop _, ih (j + 1) i s2 x vb tb c (by omega) hlt I2 nS2 hit2 hx rx (by omega) fun j' hj' => ?_⟩
      by_cases e : j' = j + 1
      . subst e
        exact ⟨by omega, fun _ => by omega⟩
      . exact hbest j' (by omega)
theorem zgd (kf : Nat -> Int) {s : Shared} {l : Addr} {xs : List V} {Q : VK} {E : Value -> Shared -> Prop} (hc : X.calm = true) (F : FnOk X.prog X.w X.K X.mg X.base CX0 k f fd ps sp) (hb : Binds X.K fd ps []) (hr : Room k X.A.in1)
    (I : Inv X pins σ H s) (hl : SqL X.K H l xs) (hne : 0 < xs.length)
    (turn : ∀ i x, xs[i]? = some x -> sp [x] H (fun v H' => v = .int (kf i) /\ H' = H) E0)
    (hQ : ∀ i x, xs[i]? = some x -> (∀ j, j < xs.length -> kf i <= kf j /\ (j < i -> kf i < kf j)) -> Q x H) :
    wpAny (model X.prog X.w) X.A (call (.builtin "min") [.ref l] [(Str.ofString "key", .ref f)]) (EP X pins σ Q) E s := by
  have hname : (toString "min" ++ toString ".loop" : String) = "min.loop" := by decide
  obtain ⟨its, rv, pl, hz⟩ := I.list hl;have hlen := rv.length;have hls := pl.isList;obtain ⟨ol, hol, _⟩ := id hls;have hll : l < s.heap.objs.size := Heap.lt_size hol;refine kmk_tree PySem.F.kind_min PySem.F.plain_min PySem.F.entry_min (kmk_min_key _ _) ?_
  show wpAny _ X.A.in1 (Builtin.Builtins.bindParams "min" ["key", "default"] 0 ⟨[], [(Str.ofString "key", .ref f)]⟩ >>= _) _ _ s
  refine wpAny_bind (wpAny_of_eq (show Builtin.Builtins.bindParams "min" ["key", "default"] 0 ⟨[], [(Str.ofString "key", .ref f)]⟩ = pure [some (.ref f), none] from rfl) ?_);refine wpAny_bind (wpAny_pure ?_);refine wpAny_bind (wpAny_pyIter_list hls ?_);refine wpAny_bind (wpAny_newList ?_ (ZE _));rw [hname];generalize hP : s.heap.push { cls := .type "list_iterator", data := .fields #[.ref l, .int 0 0] } = HP;have hS : HP.objs.size = s.heap.objs.size + 1 := by rw [<- hP]; exact size_push' ..
  have hlI : l ≠ s.heap.objs.size := Zs hll;have hSI : HP.objs.size ≠ s.heap.objs.size := by rw [hS]; exact YG (YB _)
  have hlS : l ≠ HP.objs.size := by rw [hS]; exact Zs (Yy hll)
  refine wpAny_pure ⟨plainId_quiet PySem.F.plain_min_loop _, ?_⟩;have old : ∀ b o, s.heap.get? b = some o -> (HP.push (seqObj "list" #[] 0)).get? b = some o := fun b o e => Heap.get?_push_of_some _ (by rw [<- hP]; exact Heap.get?_push_of_some _ e)
  have I0 : Inv X pins σ H { s with heap := HP.push (seqObj "list" #[] 0), toks := s.toks } := I.kept old
  have gI : (HP.push (seqObj "list" #[] 0)).get? s.heap.objs.size = some { cls := .type "list_iterator", data := .fields #[.ref l, .int 0 0] } :=
    Heap.get?_push_of_some _ (by rw [<- hP]; exact Heap.get?_push_size _ rfl)
  have gS : (HP.push (seqObj "list" #[] 0)).get? HP.objs.size = some (seqObj "list" #[] 0) := Heap.get?_push_size _ rfl;have fI : FpOk X pins H s.heap.objs.size := I.fpOk (Zm _) (I.hok.fresh (Zm _));have fS : FpOk X pins H HP.objs.size := I.fpOk (by rw [hS]; exact YL _) (I.hok.fresh (by rw [hS]; exact YL _));have W := Walks.list (prog := X.prog) (w := X.w) (A := X.A.in1) (I.ok.hd hc) s.heap.objs.size l hlI its.toArray;refine codeAny_builtin PySem.F.entry_min_loop ?_;rw [Around.under_plainId PySem.F.plain_min_loop _]
  show wpAny _ X.A.in1 (seqItems? (.ref _) >>= _) _ _ _
  refine wpAny_bind (wpAny_seqItems gS rfl ?_)
  show wpAny _ X.A.in1 (tryCatch (pyNext (.ref s.heap.objs.size)) _ >>= _) _ _ _
  have hlist : (HP.push (seqObj "list" #[] 0)).IsList l its.toArray := by
    obtain ⟨o, e, r⟩ := hls;exact ⟨o, old l o e, r⟩
  refine wpAny_bind (wpAny_tryCatch (W.item 0 _ _ _ (by rw [Zr, <- hlen]; exact hne) ⟨⟨_, gI, rfl, rfl⟩, hlist⟩ fun v h' tk' hP' hst' hk' => ?_));have hv : its[0]? = some v := by simpa using hP'
  have ey : xs[0]? = some xs[0] := by simp [hne]
  obtain ⟨v', hv', ry⟩ := rv.get ey;rw [hv] at hv';cases hv';have I1 : Inv X pins σ H { s with heap := h', toks := tk' } := I0.turned1 fI fun b o hb e => hk' b o (by simpa using hb) e
  have hS' := hk' HP.objs.size _ (by simpa using hSI) gS;obtain ⟨oI', hoI', hoc, hod⟩ := id hst'.1
  show wpAny _ X.A.in1 (tryCatch (holding [v] (call (.ref f) [v])) _ >>= _) _ _ _
  refine wpAny_bind (wpAny_tryCatch (wpAny_holding (zay (fp := [HP.objs.size, s.heap.objs.size]) F hb hr I1 (fun b hb => ?_) (fun b hb => ?_) ry (turn 0 _ ey) fun t2 s2 I2 kp => ?_)))
  . simp only [ZK, Zx, or_false] at hb
    rcases hb with rfl | rfl
    . exact fS
    . exact fI
  . simp only [ZK, Zx, or_false] at hb
    rcases hb with rfl | rfl
    . exact ⟨_, hS', fun v q => by cases q⟩
    . exact ⟨oI', hoI', fun v q => by rw [hod] at q; cases q⟩
  have nS2 := kp HP.objs.size (by simp) _ hS';have nI2 := kp s.heap.objs.size (by simp) _ hoI';have s1 := Heap.SameBut.update s2.heap HP.objs.size (Obj.mapSeq fun _ => #[v, .int (kf 0) t2]);obtain ⟨c2, hc2⟩ : ∃ c2, (s2.heap.update HP.objs.size (Obj.mapSeq fun _ => #[v, .int (kf 0) t2])).get? HP.objs.size = some (seqObj "list" #[v, .int (kf 0) t2] c2) := ⟨_, get?_update_seq nS2 fun _ => #[v, .int (kf 0) t2]⟩
  show wpAny _ X.A.in1 (updateSeq HP.objs.size (fun _ => #[v, .int (kf 0) t2]) >>= _) _ _ _
  refine wpAny_bind ?_;refine wpAny_updateSeq nS2 rfl ?_;rw [hname];refine wpAny_pure ⟨plainId_quiet PySem.F.plain_min_loop _, ze9 kf hc F hb hr hlI hlS hSI hl fS fI turn (fun i x u s' h1 h2 h3 h4 => ⟨x, H, h4, h2, hQ i x h1 h3⟩) _ 0 0 _ _ v t2 c2 rfl hne (I2.turned1 (t' := s2.toks) fS fun b o hb e => (s1.2 b hb).trans e) hc2 ⟨oI', (s1.2 _ hSI.symm).trans nI2, hoc, hod⟩ ey ry (Zm _) fun j' hj' => ?_⟩;have e : j' = 0 := by omega
  subst e;exact ⟨by omega, fun _ => by omega⟩
def tMinK (K : Fg) (sp : Sp) (ta : TA) : TE := fun σ H Q => ta σ H fun vs H1 => ∃ (l : Addr) (xs : List V) (kf : Nat -> Int), vs = [.ref l] /\ SqL K H1 l xs /\ 0 < xs.length /\
  (∀ i x, xs[i]? = some x -> sp [x] H1 (fun v H' => v = .int (kf i) /\ H' = H1) E0) /\ ∀ i x, xs[i]? = some x -> (∀ j, j < xs.length -> kf i <= kf j /\ (j < i -> kf i < kf j)) -> Q x H1
theorem e_minK {K : Fg} {ta : TA} {Q : VK} : tMinK K sp ta σ H Q = ta σ H fun vs H1 => ∃ (l : Addr) (xs : List V) (kf : Nat -> Int), vs = [.ref l] /\ SqL K H1 l xs /\ 0 < xs.length /\
  (∀ i x, xs[i]? = some x -> sp [x] H1 (fun v H' => v = .int (kf i) /\ H' = H1) E0) /\ ∀ i x, xs[i]? = some x -> (∀ j, j < xs.length -> kf i <= kf j /\ (j < i -> kf i < kf j)) -> Q x H1 := rfl
theorem zb5 {y : Str} {e : Expr} {t : TA} {p p2 pos kpos : Pos} (F : FnAt X.prog X.w X.K X.mg X.base y k ps sp) (hr : Room (k + 1) X.A) (hc : X.calm = true) (hgm : Gl X "min") (hm : X.mg "min" = none) (hg : Gl X y) (ha : PA X [e] t)
    (hdb : (y == ("__debug__" : Str)) = false := by decide)
    (he : backTo pos (starEach [e] X.env) = (false, eval e X.env) :: backTo pos (starEach [] X.env) := by rfl) (hpl : (backTo pos (starEach [e] X.env)).any (·.1) = false := by rfl) :
    PE X (.Call (.Name "min" p) [e] [⟨some (Str.ofString "key"), .Name y p2, kpos⟩] pos) (tMinK X.K sp t) := by
  intro pins s σ H Q I h;obtain ⟨f, fd, hmy, hk, hb, G⟩ := F.ex;refine wpAny_Call_Name_kw (ul I hgm hm a7 ?_);refine PyProof.Rows.callWith_kw (thn (ha pos pins s σ H _ I h) fun us s1 ⟨vs, H1, I1, r1, q1⟩ => ?_) he hpl rfl rfl;obtain ⟨l, xs, kf, ev, hl, hne, turn, q⟩ := q1;subst ev;obtain ⟨u, rfl, ru⟩ := Vals.one r1;cases ru;refine thn ((zh2 (nm := some (Str.ofString "key")) (kpos := kpos) (zcg (v := .ref f) hg hmy rfl hdb) pk_nil) pos pins s1 σ H1 (fun zs H2 => zs = [.ref f] /\ H2 = H1) I1 ⟨rfl, rfl⟩) fun ws s2 ⟨zs, H2, I2, rz, ez, eh⟩ => ?_
  subst ez eh;obtain ⟨w1, rfl, rw1⟩ := Vals.one rz;cases rw1;exact zgd kf hc G hb hr.in1 I2 hl hne turn q
end
end L2
namespace L2
open PySem PySem.Spec PyProof.Rows
def CX1 (P : Program) (w : World) : CXT := fun outer H s E e s' => ∃ (ea C : Addr) (a0 : Value) (B : Heap) (H' : Hp), e = .ref ea /\ s'.os = s.os /\ AllBare s'.gens /\ Un (frs outer) [] H H' s.heap s'.heap /\ HOk P w H' s'.heap /\
  Heap.FlyingW B outer ea (.ref C) a0 s'.heap /\ H' ea = none /\ (∀ b o, H' b = some o -> ∃ ob, B.get? b = some ob) /\ (∀ b o, s.heap.get? b = some o -> b ∉ frs outer -> ∃ ob, B.get? b = some ob /\ (H b = none -> ob = o)) /\ E (.ref C) none H'
theorem pass1 {P : Program} {w : World} {X : Cx} : jc (CX1 P w) X E0 := fun _ _ _ _ _ _ _ h => by
  obtain ⟨_, _, _, _, _, _, _, _, _, _, _, _, _, _, z⟩ := h;exact z.elim
theorem UpToSlots.get {h h' : Heap} (u : h.UpToSlots h') {b : Addr} {o : Obj} (e : h.get? b = some o) (n : ∀ vs, o.data ≠ .fields vs) : ∃ sl, h'.get? b = some { o with slots := sl } := u b o e n
theorem HOk.flown {P : Program} {w : World} {H : Hp} {h h' B : Heap} (x : HOk P w H h) (bh : B.StaysIn h) (bh' : B.StaysIn h') (dom : ∀ b o, H b = some o -> ∃ ob, B.get? b = some ob) : HOk P w H h' := fun a o e =>
  (x a o e).stay (fun b u hb q => by
    have hB : ∃ ob, B.get? b = some ob := by
      rcases hb with rfl | hb
      . exact dom _ _ e
      . exact dom _ _ hb
    obtain ⟨ob, hob⟩ := hB;have := bh b ob hob;rw [q] at this;cases this
    exact bh' b u hob) (fun _ q => q) fun _ _ q => q
theorem j7 {P : Program} {w : World} {H : Hp} {h : Heap} {a : Addr} {o : HO} (x : ObjOk P w H h a o) : ∃ ob, h.get? a = some ob := by
  cases o with
  | lst xs => obtain ⟨_, _, _, _, e⟩ := x; exact ⟨_, e⟩
  | tup xs => obtain ⟨_, _, _, o, e, _⟩ := x; exact ⟨_, e⟩
  | dK kvs => obtain ⟨_, _, _, _, o, _, _, e, _⟩ := x; exact ⟨_, e⟩
  | dT kvs => obtain ⟨_, _, _, _, o, _, _, e, _⟩ := x; exact ⟨_, e⟩
  | set S n => obtain ⟨o, _, _, _, e, _⟩ := x; exact ⟨_, e⟩
  | ins C dx fs => obtain ⟨_, _, _, e, _⟩ := x; exact ⟨_, e⟩
  | own y => exact x
  | xd fs => obtain ⟨_, ⟨_, _, _, e, _⟩, _⟩ := x; exact ⟨_, e⟩
  | rng lo hi => obtain ⟨_, _, _, e⟩ := x; exact ⟨_, e⟩
  | frz ob u => obtain ⟨e, _⟩ := x; exact ⟨_, e⟩
  | tbl ps => exact ⟨_, (show h.get? a = some _ from x)⟩
  | met f y => exact ⟨_, (show h.get? a = some _ from x)⟩
  | ext φ => obtain ⟨_, e, _⟩ := x; exact e
section
variable {X : Cx} {pins : List (Addr × Obj)} {σ : St} {H : Hp} {s : Shared}
theorem a8 {fs : List Addr} {H0 H1 : Hp} {h0 h1 h2 B : Heap} (u : Un fs [] H0 H1 h0 h1) (dom2 : ∀ b o, h0.get? b = some o -> b ∉ fs -> ∃ ob, B.get? b = some ob /\ (H0 b = none -> ob = o))
    (bh' : B.StaysIn h2) (sl : h1.UpToSlots h2) (hfr : ∀ b ∈ fs, ∀ o, h1.get? b = some o -> ∀ vs, o.data ≠ .fields vs) : Un fs [] H0 H1 h0 h2 where
  keep := fun b o e n hb _ => by
    obtain ⟨ob, e1, e2⟩ := dom2 b o e hb;rw [e2 n] at e1;exact bh' b o e1
  slot := fun b o e n hb hx => by
    obtain ⟨s1, e1⟩ := u.slot b o e n hb hx;obtain ⟨s2, e2⟩ := sl b _ e1 (hfr b hb _ e1);exact ⟨s2, e2⟩
  free := u.free
  there := fun b o e hx => by
    by_cases hb : b ∈ fs
    . obtain ⟨o1, e1⟩ := u.there b o e hx
      obtain ⟨s2, e2⟩ := sl b _ e1 (hfr b hb _ e1);exact ⟨_, e2⟩
    . obtain ⟨ob, e1, _⟩ := dom2 b o e hb
      exact ⟨ob, bh' b ob e1⟩
  tups := u.tups
  frzs := u.frzs
  tbls := u.tbls
theorem zav {P : Program} {w : World} {K : Fg} {mg : Str -> Option Value} {base : Heap} {N : List Str} {qual : Str} {scope : Scope} {f : Addr} {cd : Value} {A : Around} {outer : List Env} {s0 : Shared} {H0 : Hp} {E : XK} {h' : Heap} {e C : Addr} {args : List Value}
    (hX : X = cxOf (CX1 P w) P w K mg base N qual scope f cd A outer s0 H0 E) (I : Inv X pins σ H s) (hx : Heap.MadeExcOf s.heap h' e (.ref C) args) (hE : E (.ref C) none H) (tk : Nat) : X.xe (.ref e) { s with heap := h', toks := tk } := by
  subst hX
  show wpAny _ _ (leaving _ (.ref e)) _ _ _
  have hst : s.heap.FunFrames base (envOfC qual scope s0.heap.objs.size f cd :: outer) := I.stack;have hin : ∀ env ∈ (envOfC qual scope s0.heap.objs.size f cd :: outer), ∀ b, env.frame = some b -> b ∈ (envOfC qual scope s0.heap.objs.size f cd :: outer).filterMap (·.frame) := fun env he b hb => ZY.mpr ⟨env, he, hb⟩
  have getB : ∀ b o, s.heap.get? b = some o -> b ∉ (envOfC qual scope s0.heap.objs.size f cd :: outer).filterMap (·.frame) -> (PySem.W.hideAll s.heap ((envOfC qual scope s0.heap.objs.size f cd :: outer).filterMap (·.frame))).get? b = some o := fun b o q n => PySem.W.hideAll_get _ q n
  refine wpAny_leaves_madeW (s := { s with heap := h', toks := tk }) (h := s.heap) I.ok.frames rfl (fun b o q => PySem.W.of_hideAll _ q) (PySem.W.funFrames_hide hst hin) hx fun h'' t x1 x2 x3 x4 => ?_
  have dom : ∀ b o, H b = some o -> ∃ ob, (PySem.W.hideAll s.heap ((envOfC qual scope s0.heap.objs.size f cd :: outer).filterMap (·.frame))).get? b = some ob := fun b o q => by
    have hlt := I.hok.lt q
    have hnf : b ∉ (envOfC qual scope s0.heap.objs.size f cd :: outer).filterMap (·.frame) := fun z => by
      have := I.stkFree b z;rw [q] at this; cases this
    obtain ⟨ob, hob⟩ := j7 (I.hok b o q);exact ⟨ob, getB b ob hob hnf⟩
  have un : Un (frs outer) [] H0 H s0.heap s.heap := I.base
  have dom2 : ∀ b o, s0.heap.get? b = some o -> b ∉ frs outer -> ∃ ob, (PySem.W.hideAll s.heap ((envOfC qual scope s0.heap.objs.size f cd :: outer).filterMap (·.frame))).get? b = some ob /\ (H0 b = none -> ob = o) := fun b o q n => by
    have hnf : b ∉ (envOfC qual scope s0.heap.objs.size f cd :: outer).filterMap (·.frame) := fun z => by
      rcases ZK.mp (I.stkSub b z) with y | y
      . have h1 : s0.heap.objs.size <= b := by rw [y]; exact I.ok.above
        exact absurd (Zh (Heap.lt_size q) h1) (ZJ _)
      . exact n y
    obtain ⟨o1, e1⟩ := un.there b o q (by simp);refine ⟨o1, getB b o1 e1 hnf, fun z => ?_⟩;have := un.keep b o q z n (by simp);rw [e1] at this;exact Option.some.inj this
  have hfr : ∀ b ∈ frs outer, ∀ o, s.heap.get? b = some o -> ∀ vs, o.data ≠ .fields vs := fun b hb o q => by
    obtain ⟨_, o', e', n'⟩ := hst.mem (b := b) (by
      obtain ⟨env, he, hf⟩ := ZY.mp hb
      exact ZY.mpr ⟨env, Zv _ he, hf⟩)
    rw [q] at e'; cases e';exact n'
  have sl : s.heap.UpToSlots h'' := (Heap.UpToSlots.of_keeps hx.keeps).trans x4;refine ⟨e, C, _, _, H, rfl, I.os, I.bare, a8 un dom2 x1.1 sl hfr, HOk.flown I.hok (fun b o q => PySem.W.of_hideAll _ q) x1.1 dom, x1, ?_, dom, dom2, hE⟩
  cases q : H e with
  | none => rfl
  | some o =>
    obtain ⟨ob, hob⟩ := j7 (I.hok e o q);rw [hx.new] at hob; cases hob
theorem passX {P : Program} {w : World} {K : Fg} {mg : Str -> Option Value} {base : Heap} {N : List Str} {qual : Str} {scope : Scope} {f : Addr} {cd : Value} {A : Around} {outer : List Env} {s0 : Shared} {H0 : Hp} {E E1 : XK}
    (hX : X = cxOf (CX1 P w) P w K mg base N qual scope f cd A outer s0 H0 E) (hE : ∀ c H', E1 c none H' -> E c none H') : jc (CX1 P w) X E1 := by
  subst hX;intro pins σ H s e s' I h;obtain ⟨ea, C, a0, B, H', rfl, os, bare, un, hok, fl, hea, dom, dom2, hE1⟩ := h
  show wpAny _ _ (leaving _ (.ref ea)) _ _ _
  have hst : s'.heap.FunFrames B (envOfC qual scope s0.heap.objs.size f cd :: outer) := fl.2.2.1;have un0 : Un (frs outer) [] H0 H s0.heap s.heap := I.base
  have sub : ∀ b ∈ frs outer, b ∈ frs (envOfC qual scope s0.heap.objs.size f cd :: outer) := fun b hb => by
    obtain ⟨env, he, hf⟩ := ZY.mp hb;exact ZY.mpr ⟨env, Zv _ he, hf⟩
  have notL : ∀ b o, s0.heap.get? b = some o -> b ∉ frs outer -> b ∉ frs (envOfC qual scope s0.heap.objs.size f cd :: outer) := fun b o q n z => by
    rcases ZK.mp (I.stkSub b z) with y | y
    . have h1 : s0.heap.objs.size <= b := by rw [y]; exact I.ok.above
      exact absurd (Zh (Heap.lt_size q) h1) (ZJ _)
    . exact n y
  refine wpAny_leaves_onW I.ok.frames rfl fl fun h'' x1 x2 => ?_
  have ut := (un0.mono sub (fun _ z => z)).trans un;have un1 : Un (frs outer) [] H0 H' s0.heap s'.heap := ⟨fun b o e n hb hx => ut.keep b o e n (notL b o e hb) hx, fun b o e n hb hx => ut.slot b o e n (sub b hb) hx, ut.free, ut.there, ut.tups, ut.frzs, ut.tbls⟩
  have dom2' : ∀ b o, s0.heap.get? b = some o -> b ∉ frs outer -> ∃ ob, B.get? b = some ob /\ (H0 b = none -> ob = o) := fun b o q n => by
    obtain ⟨o1, e1⟩ := un0.there b o q (by simp);obtain ⟨ob, k1, k2⟩ := dom2 b o1 e1 (notL b o q n);refine ⟨ob, k1, fun z => ?_⟩;have e2 := un0.keep b o q z n (by simp);rw [e1] at e2;cases e2;exact k2 (un0.free b _ q z (by simp))
  have hfr : ∀ b ∈ frs outer, ∀ o, s'.heap.get? b = some o -> ∀ vs, o.data ≠ .fields vs := fun b hb o q => by
    obtain ⟨_, o', e', n'⟩ := hst.mem (b := b) (sub b hb);rw [q] at e'; cases e';exact n'
  exact ⟨ea, C, a0, B, H', rfl, os.trans I.os, bare, a8 un1 dom2' x1.1 x2 hfr, HOk.flown hok fl.1 x1.1 dom, x1, hea, dom, dom2', hE _ _ hE1⟩
def ExcO (ea C : Addr) : HO := .ext fun h => ∃ o, h.get? ea = some o /\ o.cls = .ref C /\ ∃ vs, o.data = .fields vs
abbrev Cx.suite (X : Cx) (e : Value) : Cx := { X with A := X.A.mark (some e), calm := false, xe := fun _ _ => False }
theorem Inv.suite (I : Inv X pins σ H s) (e : Value) : Inv (X.suite e) pins σ H s :=
  ⟨⟨I.ok.mod, I.ok.kind, I.ok.glob, I.ok.blt, I.ok.above, I.ok.inj, I.ok.has, I.ok.cab, (fun z => by cases z), I.ok.frames, I.ok.stk, I.ok.exf, I.ok.bs, I.ok.bsz, I.ok.noex, I.ok.exfs, I.ok.funs, I.ok.frf⟩, I.os, I.bare, I.base, I.loc, I.cell, I.free, I.freeC, I.pin, I.hok, I.len⟩
end
abbrev VE : List Value := [.type "ValueError", .type "Exception", .type "BaseException", .type "object"]
structure Err (K : Fg) (C : Addr) : Prop where
  ok : PySem.W.excIn K C VE "ValueError.__new__" = true
theorem Err.obj {K : Fg} {C : Addr} {h : Heap} (c : Err K C) (X : K.In h) : ∃ bm N nm q bs hdct sn sub ab col dd k0 k1 k2 k3 k5 mN, h.get? C = some (excClassObj nm q C N bs bm hdct sn sub ab col dd k0 k1 k2 k3 k5 "ValueError.__new__") /\
    h.Ns N mN /\ mN "__init__" = none /\ OwnTail h VE bm /\ ∀ v b, PySem.W.mroIn K C v = some b -> (Value.ref C :: bm).contains v = b := by
  have q := c.ok;unfold PySem.W.excIn at q
  split at q
  case h_2 => cases q
  case h_1 dd cd sl ho =>
    split at q
    case h_2 => cases q
    case h_1 C' bm k0 k1 k2 k3 n k5 hm hs =>
      simp only [Bool.and_eq_true, beq_iff_eq, Bool.not_eq_true'] at q
      have hmro : ∀ v b, PySem.W.mroIn K C v = some b -> (Value.ref C' :: bm).contains v = b := fun v b e => by
        unfold PySem.W.mroIn PySem.W.clsIn at e;rw [ho] at e;simp only [Option.bind_some, hm, List.isEmpty_cons, Bool.false_eq_true, if_false, Option.some.injEq] at e;exact e
      obtain ⟨⟨⟨⟨⟨e1, e2⟩, hdel⟩, ht⟩, hok⟩, hni⟩ := q;subst e1;subst e2;obtain ⟨nm, bs, mro, ns, qn, hd, sn, sub, ab, col, del⟩ := cd;have hm' : mro = Value.ref C' :: bm := hm;have hdel' : del = false := hdel;subst hm';subst hdel'
      have hsl : sl = #[k0, k1, k2, k3, some (.builtin "ValueError.__new__"), k5] := by
        cases sl with
        | mk l =>
          have hs' : l = [k0, k1, k2, k3, some (.builtin "ValueError.__new__"), k5] := hs;rw [hs']
      subst hsl;exact ⟨bm, ns, nm, qn, bs, hd, sn, sub, ab, col, dd, k0, k1, k2, k3, k5, _, X _ _ ho, .of_isNs (PySem.W.isNs_of_in X hok), PySem.W.nsMap_none_of_in X hok hni, PySem.W.tail_of_in X ht, hmro⟩
section
variable {M : Model} {A : Around} {E : Value -> Shared -> Prop}
end
end L2
namespace L2
open PySem PySem.Spec PyProof.Rows
theorem PS.nox {X : Cx} {st : Stmt} {t : TS} (h : PS X.nox st t) : PS X st t := fun pins s σ H D I hw =>
  wpAny_mono (h pins s σ H D (I.wish _) hw) (fun _ _ z => z.unwish) fun _ _ z => z.elim
def tryXe (X : Cx) (pn : List (Addr × Obj)) (J : St -> Value -> Hp -> Prop) : Value -> Shared -> Prop := fun e s' =>
  ∃ pins σ H s, Inv { X with pn := pn, xe := fun _ _ => False } pins σ H s /\ CX1 X.prog X.w X.stack H s (fun c _ H' => J σ c H') e s'
abbrev tryCx (X : Cx) (pn : List (Addr × Obj)) (J : St -> Value -> Hp -> Prop) : Cx := { X with pn := pn, xe := tryXe X pn J }
def Takes (X : Cx) (J : St -> Value -> Hp -> Prop) : Prop := ∀ pins σ H s e s', Inv X pins σ H s -> CX1 X.prog X.w X.stack H s (fun c _ H' => J σ c H') e s' -> X.xe e s'
theorem zea {X : Cx} {P : Program} {w : World} {K : Fg} {mg : Str -> Option Value} {base : Heap} {N : List Str} {qual : Str} {scope : Scope} {f : Addr} {cd : Value} {A : Around} {outer : List Env} {s0 : Shared} {H0 : Hp} {E : XK}
    (hX : X = cxOf (CX1 P w) P w K mg base N qual scope f cd A outer s0 H0 E) : Takes X (fun _ c H' => E c none H') := fun pins σ H s e s' I h => by
  have q := passX (X := X) (E1 := fun c _ H' => E c none H') hX (fun _ _ z => z) pins σ H s e s' I;subst hX;exact q h
structure FnAtX (P : Program) (w : World) (K : Fg) (mg : Str -> Option Value) (base : Heap) (name : Str) (k : Nat) (ps : List Str) (sp : Sp) : Prop where
  ex : ∃ f fd, mg name = some (.ref f) /\ PySem.W.keepIn K (.ref f) = true /\ Binds K fd ps [] /\ FnOk P w K mg base (CX1 P w) k f fd ps sp
theorem FnAtX.of {P : Program} {w : World} {K : Fg} {mg : Str -> Option Value} {base : Heap} {name : Str} {st : Stmt} {N ps : List Str} {k : Nat} {sp : Sp} (D : zi K mg name st ps) (S : zr N ps (zl st)) (len : ∀ vs H Q E, sp vs H Q E -> vs.length = ps.length)
    (hbody : ∀ (f : Addr) (cdv : Value) (A : Around) (outer : List Env) (s : Shared) (H : Hp) (vs : List V) (Q : VK) (E : XK), Room k (A.deeper (envOfC name (zl st) s.heap.objs.size f cdv)) -> sp vs H Q E ->
      ∃ t, PSs (cxOf (CX1 P w) P w K mg base N name (zl st) f cdv A outer s H E) (y1 st) t /\ t { nx := fun _ H' => Q .non H', rt := Q } (start N vs) H) : FnAtX P w K mg base name (k + 1) ps sp := by
  obtain ⟨f, fd, hm, F, hb⟩ := D.ex;refine ⟨f, fd, hm, F.kp, hb, ?_⟩;obtain ⟨oc, od, kV, doc, pm, an, cdv, ct, osl, rfl, lk, hcd⟩ := F.ex;exact fn_of lk hcd S len (hbody f cdv)
section
variable {X : Cx} {x : Str} {k : Nat} {ps : List Str} {sp : Sp} {p pos : Pos} {e : Expr} {es : List Expr} {t : TA}
def zeg (sp : Sp) (J : St -> Value -> Hp -> Prop) (t : TA) : TE := fun σ H Q => t σ H fun vs H1 => sp vs H1 Q fun c _ H' => J σ c H'
theorem zig {J : St -> Value -> Hp -> Prop} {σ : St} {H : Hp} {Q : VK} : zeg sp J t σ H Q = t σ H fun vs H1 => sp vs H1 Q fun c _ H' => J σ c H' := rfl
theorem zgi {J : St -> Value -> Hp -> Prop} (F : FnAtX X.prog X.w X.K X.mg X.base x k ps sp) (hr : Room k X.A) (hx : Takes X J) (hg : Gl X x) (ha : PA X (e :: es) t) (hdb : (x == ("__debug__" : Str)) = false := by decide) (he : starEach (e :: es) X.env = (false, eval e X.env) :: starEach es X.env := by rfl)
    (hpl : (backTo pos (starEach es X.env)).any (·.1) = false := by rfl) : PE X (.Call (.Name x p) (e :: es) [] pos) (zeg sp J t) := by
  obtain ⟨f, fd, hm, hk, hb, G⟩ := F.ex;intro pins s σ H Q I h;refine wpAny_Call_Name_kw (j1 I hg hm ?_ hdb);refine PySem.W.callWith_K (h₀ := X.base) I.ok.mod.kin hk (thn (ha pos pins s σ H _ I h) fun us s1 ⟨vs, H1, I1, r, q⟩ => ⟨I1.kIn, ?_⟩) he hpl;have hl : (us ++ []).length = ps.length := by rw [Ye, <- r.length]; exact G.len _ _ _ _ q
  refine wpAny_call (codeAny_mono (G.run X.A X.stack s1 H1 ⟨us, []⟩ us vs Q _ hr I1.env0 (by have := hb s1 us I1.kIn hl; rw [Ye] at this; exact this) r q) fun r' s' hq => ?_)
  cases r' with
  | error e => exact hx pins σ H1 s1 e s' I1 hq
  | ok fl =>
    cases fl with
    | ret u => exact I1.after hq
    | next => exact False.elim hq
    | brk => exact False.elim hq
    | cont => exact False.elim hq
theorem bv (F : FnAtX X.prog X.w X.K X.mg X.base x k ps sp) (hr : Room k X.A) (hg : Gl X x) (ha : PA X (e :: es) t) (hdb : (x == ("__debug__" : Str)) = false := by decide) (he : starEach (e :: es) X.env = (false, eval e X.env) :: starEach es X.env := by rfl)
    (hpl : (backTo pos (starEach es X.env)).any (·.1) = false := by rfl) : PE X (.Call (.Name x p) (e :: es) [] pos) (bd sp [] E0 t) := by
  obtain ⟨f, fd, hm, hk, hb, G⟩ := F.ex;exact zcf G hr hg hm hk hb .nil pass1 ha hdb he hpl
end
section
variable {X : Cx} {C : Addr} {x : Str} {np cpos pos : Pos}
def zgb (X : Cx) (C : Addr) (R : Hp -> Prop) : Prop := ∀ pins σ H s h' e args tk, Inv X pins σ H s -> Heap.MadeExcOf s.heap h' e (.ref C) args -> R H -> X.xe (.ref e) { s with heap := h', toks := tk }
theorem m9 {P : Program} {w : World} {K : Fg} {mg : Str -> Option Value} {base : Heap} {N : List Str} {qual : Str} {scope : Scope} {f : Addr} {cd : Value} {A : Around} {outer : List Env} {s0 : Shared} {H0 : Hp} {E : XK}
    (hX : X = cxOf (CX1 P w) P w K mg base N qual scope f cd A outer s0 H0 E) : zgb X C (fun H => E (.ref C) none H) := fun pins σ H s h' e args tk I hx hE => zav hX I hx hE tk
def zet (R : Hp -> Prop) (ta : TA) : TS := fun _ σ H => ta σ H fun vs H1 => vs.length <= sizeLine /\ R H1
theorem zil {R : Hp -> Prop} {ta : TA} {D : Ends} {σ : St} {H : Hp} : zet R ta D σ H = ta σ H fun vs H1 => vs.length <= sizeLine /\ R H1 := rfl
theorem iq {e : Expr} {es : List Expr} {R : Hp -> Prop} {ta : TA} (hc : X.calm = true) (c : Err X.K C) (hg : Gl X x) (hm : X.mg x = some (.ref C)) (hr : zgb X C R) (ha : PA X (e :: es) ta) (hdb : (x == ("__debug__" : Str)) = false := by decide)
    (he : starEach (e :: es) X.env = (false, eval e X.env) :: starEach es X.env := by rfl) (hpl : (backTo cpos (starEach es X.env)).any (·.1) = false := by rfl) :
    PS X (.Raise (some (.Call (.Name x np) (e :: es) [] cpos)) none pos) (zet R ta) := by
  intro pins s σ H D I h;obtain ⟨bm, N, nm, q, bs, hdct, sn, sub, ab, col, dd, k0, k1, k2, k3, k5, mN, hC, hN, hni, T, _⟩ := c.obj I.ok.mod.kin
  refine wpAny_Raise_call_subU (C := C) (nm := nm) (q := q) (N := N) (bs := bs) (bm := bm) (hdct := hdct) (sn := sn) (sub := sub) (ab := ab) (col := col) (dd := dd) (k0 := k0) (k1 := k1) (k2 := k2) (k3 := k3) (k5 := k5)
    PySem.F.excBase_ValueError (by decide +kernel) PySem.F.excBase_ValueError (mN := mN) (T.hasType PySem.F.excBase_ValueError.hasBase) (I.ok.hd hc) (by rw [he]; show (false || (backTo cpos (starEach es X.env)).any (·.1)) = false; rw [hpl]; rfl) hni (j1 I hg hm ⟨rfl, ?_⟩ hdb)
  have hrun := ha cpos pins s σ H _ I h;rw [he] at hrun ⊢;refine Calls.evalArgs_plain (wpAny_mono hrun (fun us s1 h1 => ?_) fun _ _ z => z);obtain ⟨vs, H1, I1, r1, hz, q1⟩ := h1;exact ⟨rfl, by rw [<- r1.length]; exact hz, I1.bk _ _ hC, hN.keeps I1.bk, T.keeps I1.bk, fun h' e hx => hr pins σ H1 s1 h' e us s1.toks I1 hx q1⟩
end
section
variable {X : Cx} {pins : List (Addr × Obj)} {σ : St} {H : Hp} {s : Shared}
def zeu (i : Nat) (D : Ends) : Ends := { nx := fun σ H => D.nx (σ.set i none) H, rt := D.rt, bk := fun σ H => D.bk (σ.set i none) H, ct := fun σ H => D.ct (σ.set i none) H }
def tTryAs (K : Fg) (D0 : Addr) (i : Nat) (tb : (St -> Value -> Hp -> Prop) -> List (Addr × Obj) -> TS) (ts : Value -> TS) : TS := fun D σ H => ∃ J : St -> Value -> Hp -> Prop, (∀ pn, tb J pn D σ H) /\
  ∀ σ1 c H1, J σ1 c H1 -> ∃ C, c = .ref C /\ Err K C /\ PySem.W.mroIn K C (.ref D0) = some true /\ ∀ e ea, H1 ea = none -> ts e (zeu i D) (σ1.set i (some (.ref ea))) (upd H1 ea (ExcO ea C))
def tTry0 (K : Fg) (D0 : Addr) (tb : (St -> Value -> Hp -> Prop) -> List (Addr × Obj) -> TS) (ts : Value -> TS) : TS := fun D σ H => ∃ J : St -> Value -> Hp -> Prop, (∀ pn, tb J pn D σ H) /\
  ∀ σ1 c H1, J σ1 c H1 -> ∃ C, c = .ref C /\ Err K C /\ PySem.W.mroIn K C (.ref D0) = some true /\ ∀ e, ts e D σ1 H1
theorem suK {e : Value} : (X.suite e).K = X.K := rfl
theorem noxK : X.nox.K = X.K := rfl
theorem tryK {pn : List (Addr × Obj)} {J : St -> Value -> Hp -> Prop} : (tryCx X pn J).K = X.K := rfl
theorem zhs {K : Fg} {D0 : Addr} {i : Nat} {tb : (St -> Value -> Hp -> Prop) -> List (Addr × Obj) -> TS} {ts : Value -> TS} {D : Ends} : tTryAs K D0 i tb ts D σ H = ∃ J : St -> Value -> Hp -> Prop, (∀ pn, tb J pn D σ H) /\
  ∀ σ1 c H1, J σ1 c H1 -> ∃ C, c = .ref C /\ Err K C /\ PySem.W.mroIn K C (.ref D0) = some true /\ ∀ e ea, H1 ea = none -> ts e (zeu i D) (σ1.set i (some (.ref ea))) (upd H1 ea (ExcO ea C)) := rfl
theorem e_try0 {K : Fg} {D0 : Addr} {tb : (St -> Value -> Hp -> Prop) -> List (Addr × Obj) -> TS} {ts : Value -> TS} {D : Ends} : tTry0 K D0 tb ts D σ H = ∃ J : St -> Value -> Hp -> Prop, (∀ pn, tb J pn D σ H) /\
  ∀ σ1 c H1, J σ1 c H1 -> ∃ C, c = .ref C /\ Err K C /\ PySem.W.mroIn K C (.ref D0) = some true /\ ∀ e, ts e D σ1 H1 := rfl
end
end L2
namespace L2
open PySem PySem.Spec PyProof.Rows
structure ErrQ (K : Fg) (C : Addr) : Prop extends Err K C where
  ga : PySem.W.findIn K (.ref C) "__getattribute__" = some (some (.builtin "BaseException.__getattribute__"))
  gn : PySem.W.findIn K (.ref C) "__getattr__" = some none
  gc : PySem.W.findIn K (.ref C) "__class__" = some (some (.builtin "object.__class__"))
section
variable {prog : Program} {w : World} {A : Around} {E : Value -> Shared -> Prop} {h : Heap} {g : Array GenState} {d : Drawn} {t : Nat} {os : OsState} {a C : Addr} {o : Obj} {K : Fg}
end
section
variable {X : Cx} {pins : List (Addr × Obj)} {σ : St} {H : Hp} {s : Shared}
end
theorem zfy {K : Fg} {h : Heap} {mg : Str -> Option Value} (X : K.In h) (G : h.Ns mainGlobals mg) {name : Str} {C : Addr} (e : PySem.W.nsIn K mainGlobals name = some (some (.ref C))) (q : PySem.W.excIn K C VE "ValueError.__new__" = true)
    (g1 : PySem.W.findIn K (.ref C) "__getattribute__" = some (some (.builtin "BaseException.__getattribute__"))) (g2 : PySem.W.findIn K (.ref C) "__getattr__" = some none) (g3 : PySem.W.findIn K (.ref C) "__class__" = some (some (.builtin "object.__class__"))) :
    mg name = some (.ref C) /\ ErrQ K C := ⟨PySem.W.mg_of X G e, ⟨⟨q⟩, g1, g2, g3⟩⟩
theorem kit_self {K : Fg} {C : Addr} : PySem.W.kitOne K (.ref C) (.ref C) = some true := by
  unfold PySem.W.kitOne;rw [if_pos (by simp)]
theorem kit_mk {K : Fg} {C D : Addr} {cd : ClassData} {b : Bool} (h0 : (Value.ref C == Value.ref D) = false) (h1 : PySem.W.clsIn K D = some cd) (h2 : PySem.W.typeIn K (.ref D) = some (.type "type")) (h3 : PySem.W.subIn K (.ref C) (.ref D) = some b) : PySem.W.kitOne K (.ref C) (.ref D) = some b := by
  unfold PySem.W.kitOne PySem.W.kitCls;rw [if_neg (by rw [h0]; simp)]
  show (if ((PySem.W.clsIn K D).isSome && PySem.W.typeIn K (.ref D) == some (.type "type")) = true then PySem.W.subIn K (.ref C) (.ref D) else none) = some b
  rw [h1, h2, if_pos (by simp)];exact h3
theorem kitV_mk {K : Fg} {C : Addr} {b : Bool} (h3 : PySem.W.subIn K (.ref C) (.type "ValueError") = some b) : PySem.W.kitOne K (.ref C) (.type "ValueError") = some b := by
  unfold PySem.W.kitOne PySem.W.kitCls;rw [if_neg (by simp)]
  show (if PySem.W.kitMeta "ValueError" = true then PySem.W.subIn K (.ref C) (.type "ValueError") else none) = some b
  rw [if_pos (by decide +kernel)];exact h3
theorem Same.seqT {K : Fg} {H H' : Hp} {a : Addr} {xs : List V} (e : Same H H') (h : SqT K H a xs) : SqT K H' a xs := by
  rcases h with (h | ⟨o, h⟩) | h
  . exact .inl (.inl (e _ _ h))
  . exact .inl (.inr ⟨o, e _ _ h⟩)
  . exact .inr h
end L2
namespace L2
open PySem PySem.Spec PyProof.Rows
inductive Tr where
  | lf (v : V) | ls (ts : List Tr) | tp (ts : List Tr)
mutual
def TrAt (K : Fg) (H : Hp) : Tr -> V -> Prop
  | .lf v, x => x = v /\ y9 v = true
  | .ls ts, x => ∃ a xs, x = .ref a /\ SqL K H a xs /\ TrsAt K H ts xs
  | .tp ts, x => ∃ a xs, x = .ref a /\ SqT K H a xs /\ TrsAt K H ts xs
def TrsAt (K : Fg) (H : Hp) : List Tr -> List V -> Prop
  | [], xs => xs = []
  | t :: ts, xs => ∃ y ys, xs = y :: ys /\ TrAt K H t y /\ TrsAt K H ts ys
end
mutual
def eqTr : Tr -> Tr -> Bool
  | .lf v, .lf w => eqV v w
  | .ls ts, .ls us => xy ts us
  | .tp ts, .tp us => xy ts us
  | _, _ => false
def xy : List Tr -> List Tr -> Bool
  | [], [] => true
  | t :: ts, u :: us => eqTr t u && xy ts us
  | _, _ => false
end
mutual
def deep : Tr -> Nat
  | .lf _ => 0
  | .ls ts => v7 ts + 1
  | .tp ts => v7 ts + 1
def v7 : List Tr -> Nat
  | [] => 0
  | t :: ts => max (deep t) (v7 ts)
end
theorem wg : ∀ {ts : List Tr} {t : Tr}, t ∈ ts -> deep t <= v7 ts
  | t :: ts, u, h => by
    rw [v7]
    rcases ZK.mp h with z | z
    . rw [z]; omega
    . have := wg z; omega
theorem rp : ∀ {xs ys : List Tr}, xs.length = ys.length -> ((List.range xs.length).all fun j => eqTr (xs.getD j (.lf .non)) (ys.getD j (.lf .non))) = xy xs ys
  | [], [], _ => by rw [xy]; rfl
  | x :: xs, y :: ys, h => by
    rw [xy, <- rp (xs := xs) (ys := ys) (by simpa using h), ZM, List.range_succ_eq_map, YM, List.all_map];rfl
theorem me : ∀ {xs ys : List Tr}, xs.length ≠ ys.length -> xy xs ys = false
  | [], [], h => absurd rfl h
  | [], _ :: _, _ => by rw [xy] <;> simp
  | _ :: _, [], _ => by rw [xy] <;> simp
  | x :: xs, y :: ys, h => by
    rw [xy, me (xs := xs) (ys := ys) (by simpa using h), Bool.and_false]
theorem zb7 {xs ys : List Tr} : (((List.range (min xs.length ys.length)).all fun j => eqTr (xs.getD j (.lf .non)) (ys.getD j (.lf .non))) && xs.length == ys.length) = xy xs ys := by
  by_cases hl : xs.length = ys.length
  . rw [<- hl, Nat.min_self, rp hl]
    simp
  . rw [me hl, show (xs.length == ys.length) = false by simpa using hl, Bool.and_false]
theorem TrsAt.len {K : Fg} {H : Hp} : ∀ {ts : List Tr} {xs : List V}, TrsAt K H ts xs -> ts.length = xs.length
  | [], xs, h => by rw [TrsAt] at h; rw [h]; rfl
  | t :: ts, xs, h => by
    rw [TrsAt] at h;obtain ⟨y, ys, rfl, _, h⟩ := h;simp [TrsAt.len h]
theorem TrsAt.get {K : Fg} {H : Hp} : ∀ {ts : List Tr} {xs : List V} {j : Nat} {x : V}, TrsAt K H ts xs -> xs[j]? = some x -> ∃ t, ts[j]? = some t /\ TrAt K H t x
  | [], xs, j, x, h, e => by rw [TrsAt] at h; subst h; simp at e
  | t :: ts, xs, 0, x, h, e => by
    rw [TrsAt] at h;obtain ⟨y, ys, rfl, h1, h⟩ := h;cases e;exact ⟨t, rfl, h1⟩
  | t :: ts, xs, j + 1, x, h, e => by
    rw [TrsAt] at h;obtain ⟨y, ys, rfl, h1, h⟩ := h;exact TrsAt.get (ts := ts) (j := j) h e
theorem TrsAt.of {K : Fg} {H : Hp} : ∀ {ts : List Tr} {xs : List V}, ts.length = xs.length -> (∀ (j : Nat) (t : Tr) (x : V), ts[j]? = some t -> xs[j]? = some x -> TrAt K H t x) -> TrsAt K H ts xs
  | [], [], _, _ => by rw [TrsAt]
  | t :: ts, x :: xs, hl, h => by
    rw [TrsAt];exact ⟨x, xs, rfl, h 0 t x rfl rfl, TrsAt.of (by simpa using hl) fun j t x e1 e2 => h (j + 1) t x e1 e2⟩
theorem l6 {v : V} (h : y9 v = true) : eqV v v = true := by
  cases v with
  | non => rfl
  | bl b => exact beq_self_eq_true b
  | int i => exact beq_self_eq_true i
  | str x => exact beq_self_eq_true x
  | _ => exact absurd (show false = true from h) Bool.false_ne_true
section
variable {X : Cx} {pins : List (Addr × Obj)} {σ : St} {H : Hp} {s : Shared}
theorem zcz (I : Inv X pins σ H s) : ∀ (n : Nat) (t t' : Tr) (x : V), deep t <= n -> TrAt X.K H t x -> TrAt X.K H t' x -> eqTr t t' = true := by
  intro n
  induction n with
  | zero =>
    intro t t' x hd h h'
    cases t with
    | ls ts => rw [deep] at hd; omega
    | tp ts => rw [deep] at hd; omega
    | lf v =>
      rw [TrAt] at h;obtain ⟨rfl, f⟩ := h
      cases t' with
      | lf w => rw [TrAt] at h'; obtain ⟨rfl, _⟩ := h'; rw [eqTr]; exact l6 f
      | ls ts => rw [TrAt] at h'; obtain ⟨a, xs, rfl, _⟩ := h'; cases f
      | tp ts => rw [TrAt] at h'; obtain ⟨a, xs, rfl, _⟩ := h'; cases f
  | succ n ih =>
    have all : ∀ (ts us : List Tr) (xs : List V), v7 ts <= n -> TrsAt X.K H ts xs -> TrsAt X.K H us xs -> xy ts us = true := by
      intro ts
      induction ts with
      | nil =>
        intro us xs _ h1 h2
        cases us with
        | nil => rw [xy]
        | cons u us => rw [TrsAt] at h1; rw [TrsAt] at h2; obtain ⟨y, ys, e, _⟩ := h2; rw [h1] at e; cases e
      | cons t ts ih2 =>
        intro us xs hd h1 h2;rw [TrsAt] at h1;obtain ⟨y, ys, rfl, a1, b1⟩ := h1
        cases us with
        | nil => rw [TrsAt] at h2; cases h2
        | cons u us =>
          rw [TrsAt] at h2;obtain ⟨y', ys', e, a2, b2⟩ := h2;cases e;rw [v7] at hd;rw [xy, ih t u y (by omega) a1 a2, ih2 us ys (by omega) b1 b2];rfl
    intro t t' x hd h h'
    cases t with
    | lf v =>
      rw [TrAt] at h;obtain ⟨rfl, f⟩ := h
      cases t' with
      | lf w => rw [TrAt] at h'; obtain ⟨rfl, _⟩ := h'; rw [eqTr]; exact l6 f
      | ls ts => rw [TrAt] at h'; obtain ⟨a, xs, rfl, _⟩ := h'; cases f
      | tp ts => rw [TrAt] at h'; obtain ⟨a, xs, rfl, _⟩ := h'; cases f
    | ls ts =>
      rw [TrAt] at h;obtain ⟨a, xs, rfl, sq, h⟩ := h;rw [deep] at hd
      cases t' with
      | lf w => rw [TrAt] at h'; obtain ⟨rfl, f⟩ := h'; cases f
      | ls us =>
        rw [TrAt] at h';obtain ⟨b, ys, e, sq', h'⟩ := h';cases e;obtain rfl := I.list_inj sq sq';rw [eqTr];exact all ts us xs (by omega) h h'
      | tp us =>
        rw [TrAt] at h';obtain ⟨b, ys, e, sq', h'⟩ := h';cases e;obtain ⟨_, _, p1, _⟩ := I.list sq;obtain ⟨_, _, p2, _⟩ := I.tuple sq';exact (SeqAt.ne_of_list_tuple p1.isList p2 rfl).elim
    | tp ts =>
      rw [TrAt] at h;obtain ⟨a, xs, rfl, sq, h⟩ := h;rw [deep] at hd
      cases t' with
      | lf w => rw [TrAt] at h'; obtain ⟨rfl, f⟩ := h'; cases f
      | tp us =>
        rw [TrAt] at h';obtain ⟨b, ys, e, sq', h'⟩ := h';cases e;obtain rfl := I.tuple_inj sq sq';rw [eqTr];exact all ts us xs (by omega) h h'
      | ls us =>
        rw [TrAt] at h';obtain ⟨b, ys, e, sq', h'⟩ := h';cases e;obtain ⟨_, _, p1, _⟩ := I.list sq';obtain ⟨_, _, p2, _⟩ := I.tuple sq;exact (SeqAt.ne_of_list_tuple p1.isList p2 rfl).elim
theorem dg {A : Around} {a : Addr} {us : Array Value} {v : V} {u : Value} (r : RelV v u) (f : y9 v = true) (hl : s.heap.IsList a us) (hu : A.units < cLine) : SeqAt.EqAt A s u (.ref a) false := by
  cases v with
  | non => cases r; exact SeqAt.EqAt.none_list hl hu
  | bl b => cases r; exact SeqAt.EqAt.bool_list b hl hu
  | int b => obtain ⟨t, rfl⟩ := r; exact SeqAt.EqAt.int_list b t hl hu
  | str b => obtain ⟨t, rfl⟩ := r; exact SeqAt.EqAt.str_list b t hl hu
  | _ => cases f
theorem fu {A : Around} {a : Addr} {us : Array Value} {v : V} {u : Value} (r : RelV v u) (f : y9 v = true) (hl : s.heap.IsList a us) (hu : A.units < cLine) : SeqAt.EqAt A s (.ref a) u false := by
  cases v with
  | non => cases r; exact SeqAt.EqAt.list_none hl hu
  | bl b => cases r; exact SeqAt.EqAt.list_bool b hl hu
  | int b => obtain ⟨t, rfl⟩ := r; exact SeqAt.EqAt.list_int b t hl hu
  | str b => obtain ⟨t, rfl⟩ := r; exact SeqAt.EqAt.list_str b t hl hu
  | _ => cases f
theorem fe {A : Around} {a : Addr} {us : Array Value} {v : V} {u : Value} (r : RelV v u) (f : y9 v = true) (hl : s.heap.IsTuple a us) (hu : A.units < cLine) : SeqAt.EqAt A s u (.ref a) false := by
  cases v with
  | non => cases r; exact SeqAt.EqAt.none_tuple hl hu
  | bl b => cases r; exact SeqAt.EqAt.bool_tuple b hl hu
  | int b => obtain ⟨t, rfl⟩ := r; exact SeqAt.EqAt.int_tuple b t hl hu
  | str b => obtain ⟨t, rfl⟩ := r; exact SeqAt.EqAt.str_tuple b t hl hu
  | _ => cases f
theorem g5 {A : Around} {a : Addr} {us : Array Value} {v : V} {u : Value} (r : RelV v u) (f : y9 v = true) (hl : s.heap.IsTuple a us) (hu : A.units < cLine) : SeqAt.EqAt A s (.ref a) u false := by
  cases v with
  | non => cases r; exact SeqAt.EqAt.tuple_none hl hu
  | bl b => cases r; exact SeqAt.EqAt.tuple_bool b hl hu
  | int b => obtain ⟨t, rfl⟩ := r; exact SeqAt.EqAt.tuple_int b t hl hu
  | str b => obtain ⟨t, rfl⟩ := r; exact SeqAt.EqAt.tuple_str b t hl hu
  | _ => cases f
theorem kw {A : Around} {ts us : List Tr} {xs ys : List V} {vs ws : List Value} (h1 : TrsAt X.K H ts xs) (h2 : TrsAt X.K H us ys) (r1 : Vals xs vs) (r2 : Vals ys ws)
    (ih : ∀ t ∈ ts, ∀ u ∈ us, ∀ x y v w, TrAt X.K H t x -> TrAt X.K H u y -> RelV x v -> RelV y w -> SeqAt.EqAt A s v w (eqTr t u)) :
    ∀ j (h1 : j < vs.toArray.size) (h2 : j < ws.toArray.size), SeqAt.EqAt A s vs.toArray[j] ws.toArray[j] (eqTr (ts.getD j (.lf .non)) (us.getD j (.lf .non))) := by
  intro j k1 k2;obtain ⟨x, ex, rx⟩ := zaw r1 (j := j) (by simpa using k1);obtain ⟨y, ey, ry⟩ := zaw r2 (j := j) (by simpa using k2);obtain ⟨t, et, ht⟩ := h1.get ex;obtain ⟨u, eu, hu⟩ := h2.get ey;rw [List.getElem_toArray, List.getElem_toArray, Zk, Zk, et, eu];exact ih t (Zi et) u (Zi eu) x y _ _ ht hu rx ry
theorem zhe (I : Inv X pins σ H s) : ∀ (n : Nat) (A : Around) (t t' : Tr) (x y : V) (u v : Value), deep t <= n -> deep t' <= n -> A.units + n <= cLine -> TrAt X.K H t x -> TrAt X.K H t' y -> RelV x u -> RelV y v -> SeqAt.EqAt A s u v (eqTr t t') := by
  intro n
  induction n with
  | zero =>
    intro A t t' x y u v d1 d2 hu h h' rx ry
    cases t with
    | ls ts => rw [deep] at d1; omega
    | tp ts => rw [deep] at d1; omega
    | lf v =>
      cases t' with
      | ls ts => rw [deep] at d2; omega
      | tp ts => rw [deep] at d2; omega
      | lf w =>
        rw [TrAt] at h h';obtain ⟨rfl, f⟩ := h;obtain ⟨rfl, f'⟩ := h';rw [eqTr];exact i5 rx ry f f'
  | succ n ih =>
    intro A t t' x y u v d1 d2 hu h h' rx ry;have hc : A.units < cLine := by omega
    have hi : A.in1.units + n <= cLine := by rw [jo]; omega
    cases t with
    | lf v =>
      rw [TrAt] at h;obtain ⟨rfl, f⟩ := h
      cases t' with
      | lf w =>
        rw [TrAt] at h';obtain ⟨rfl, f'⟩ := h';rw [eqTr];exact i5 rx ry f f'
      | ls us =>
        rw [TrAt] at h';obtain ⟨b, ys, rfl, sq, h'⟩ := h';obtain ⟨_, _, p1, _⟩ := I.list sq;cases ry;exact dg rx f p1.isList hc
      | tp us =>
        rw [TrAt] at h';obtain ⟨b, ys, rfl, sq, h'⟩ := h';obtain ⟨_, _, p1, _⟩ := I.tuple sq;cases ry;exact fe rx f p1 hc
    | ls ts =>
      rw [deep] at d1;have h0 := h;rw [TrAt] at h;obtain ⟨a, xs, rfl, sq, h⟩ := h;obtain ⟨vs, r1, p1, _⟩ := I.list sq;cases rx
      cases t' with
      | lf w =>
        rw [TrAt] at h';obtain ⟨rfl, f⟩ := h';exact fu ry f p1.isList hc
      | tp us =>
        rw [TrAt] at h';obtain ⟨b, ys, rfl, sq', h'⟩ := h';obtain ⟨_, _, p2, _⟩ := I.tuple sq';cases ry;exact SeqAt.EqAt.list_tuple p1.isList p2 hc
      | ls us =>
        have h0' := h';rw [TrAt] at h';obtain ⟨b, ys, rfl, sq', h'⟩ := h';obtain ⟨ws, r2, p2, _⟩ := I.list sq';cases ry;rw [deep] at d2
        by_cases e : a = b
        . subst e
          rw [zcz I (n + 1) (.ls ts) (.ls us) (.ref a) (by rw [deep]; omega) h0 h0'];exact SeqAt.EqAt.same _
        . have l1 := h.len
          have l2 := h'.len;have l3 := r1.length;have l4 := r2.length;rw [eqTr];refine .of_refs e ?_
          by_cases hl : ts.length = us.length
          . have q := SeqAt.RcAt.lists p1.isList p2.isList (by simp; omega) hc (kw (A := A.in1) (s := s) h h' r1 r2 fun t ht u hu x y v w k1 k2 k3 k4 => ih A.in1 t u x y v w (by have := wg ht; omega) (by have := wg hu; omega) hi k1 k2 k3 k4)
            rw [Zr, <- l3, <- l1, rp hl] at q;exact q
          . rw [me hl]
            exact SeqAt.RcAt.lists_lengths p1.isList p2.isList (by simp; omega) hc
    | tp ts =>
      rw [deep] at d1;have h0 := h;rw [TrAt] at h;obtain ⟨a, xs, rfl, sq, h⟩ := h;obtain ⟨vs, r1, p1, _⟩ := I.tuple sq;cases rx
      cases t' with
      | lf w =>
        rw [TrAt] at h';obtain ⟨rfl, f⟩ := h';exact g5 ry f p1 hc
      | ls us =>
        rw [TrAt] at h';obtain ⟨b, ys, rfl, sq', h'⟩ := h';obtain ⟨_, _, p2, _⟩ := I.list sq';cases ry;exact SeqAt.EqAt.tuple_list p1 p2.isList hc
      | tp us =>
        have h0' := h';rw [TrAt] at h';obtain ⟨b, ys, rfl, sq', h'⟩ := h';obtain ⟨ws, r2, p2, _⟩ := I.tuple sq';cases ry;rw [deep] at d2
        by_cases e : a = b
        . subst e
          rw [zcz I (n + 1) (.tp ts) (.tp us) (.ref a) (by rw [deep]; omega) h0 h0'];exact SeqAt.EqAt.same _
        . have l1 := h.len
          have l2 := h'.len;have l3 := r1.length;have l4 := r2.length;rw [eqTr];refine .of_refs e ?_;have q := SeqAt.RcAt.tuples (show s.heap.IsTuple a vs.toArray from p1) (show s.heap.IsTuple b ws.toArray from p2) hc (kw (A := A.in1) (s := s) h h' r1 r2 fun t ht u hu x y v w k1 k2 k3 k4 => ih A.in1 t u x y v w (by have := wg ht; omega) (by have := wg hu; omega) hi k1 k2 k3 k4);rw [Zr, Zr, <- l3, <- l4, <- l1, <- l2, zb7] at q;exact q
end
section
variable {X : Cx}
def SameK : Tr -> Tr -> Prop
  | .ls _, .ls _ => True
  | .tp _, .tp _ => True
  | _, _ => False
theorem SameK.of {t t' : Tr} (h : SameK t t') : (∃ ts us, t = .ls ts /\ t' = .ls us) \/ ∃ ts us, t = .tp ts /\ t' = .tp us := by
  cases t <;> cases t' <;> first | exact .inl ⟨_, _, rfl, rfl⟩ | exact .inr ⟨_, _, rfl, rfl⟩ | exact h.elim
def rEqD (K : Fg) (n : Nat) (neg : Bool) (x y : V) (H : Hp) (Q : VK) : Prop := ∃ t t', SameK t t' /\ TrAt K H t x /\ TrAt K H t' y /\ deep t <= n /\ deep t' <= n /\ Q (.bl (neg ^^ eqTr t t')) H
theorem op_neD {n : Nat} (hu : X.A.units + n <= cLine) : OpR X (compareOp .NotEq) (rEqD X.K n true) := by
  intro pins s σ H x y v u Q I rx ry h;obtain ⟨t, t', hk, h1, h2, d1, d2, q⟩ := h;rw [Bool.true_xor] at q;have key := fun (A : Around) (m : Nat) (hA : A.units + m <= cLine) t t' x y u v e1 e2 => zhe I m A t t' x y u v e1 e2 hA
  rcases hk.of with ⟨ts, us, rfl, rfl⟩ | ⟨ts, us, rfl, rfl⟩
  . rw [TrAt] at h1 h2
    obtain ⟨a, xs, rfl, sq, h⟩ := h1;obtain ⟨b, ys, rfl, sq', h'⟩ := h2;cases rx; cases ry;obtain ⟨vs, r1, p1, _⟩ := I.list sq;obtain ⟨ws, r2, p2, _⟩ := I.list sq';rw [deep] at d1 d2;have l1 := h.len;have l2 := h'.len;have l3 := r1.length;have l4 := r2.length;rw [eqTr] at q
    by_cases hl : ts.length = us.length
    . refine SeqAt.RcNeAt.lists p1.isList p2.isList (by simp; omega) (by omega) (kw (A := X.A.in1) (s := s) h h' r1 r2 fun t ht u hu x y v w k1 k2 k3 k4 => key X.A.in1 (n - 1) (by rw [jo]; omega) t u x y v w (by have := wg ht; omega) (by have := wg hu; omega) k1 k2 k3 k4) _ _ _ _ ?_
      rw [Zr, <- l3, <- l1, rp hl];exact ⟨.bl (!xy ts us), H, I, rfl, q⟩
    . refine SeqAt.RcNeAt.lists_lengths p1.isList p2.isList (by simp; omega) (by omega) _ _ _ _ ?_
      rw [me hl] at q;exact ⟨.bl true, H, I, rfl, q⟩
  . rw [TrAt] at h1 h2
    obtain ⟨a, xs, rfl, sq, h⟩ := h1;obtain ⟨b, ys, rfl, sq', h'⟩ := h2;cases rx; cases ry;obtain ⟨vs, r1, p1, _⟩ := I.tuple sq;obtain ⟨ws, r2, p2, _⟩ := I.tuple sq';rw [deep] at d1 d2;have l1 := h.len;have l2 := h'.len;have l3 := r1.length;have l4 := r2.length;rw [eqTr] at q;refine SeqAt.RcNeAt.tuples (show s.heap.IsTuple a vs.toArray from p1) (show s.heap.IsTuple b ws.toArray from p2) (by omega) (kw (A := X.A.in1) (s := s) h h' r1 r2 fun t ht u hu x y v w k1 k2 k3 k4 => key X.A.in1 (n - 1) (by rw [jo]; omega) t u x y v w (by have := wg ht; omega) (by have := wg hu; omega) k1 k2 k3 k4) _ _ _ _ ?_;rw [Zr, Zr, <- l3, <- l4, <- l1, <- l2, zb7];exact ⟨.bl (!xy ts us), H, I, rfl, q⟩
end
mutual
def sg : Tr -> Bool
  | .lf (.int _) => true
  | .lf (.str _) => true
  | .lf .non => true
  | .lf _ => false
  | .ls ts => wy ts
  | .tp ts => wy ts
def wy : List Tr -> Bool
  | [] => true
  | t :: ts => sg t && wy ts
end
mutual
theorem a9 : ∀ {t u : Tr}, sg t = true -> sg u = true -> (eqTr t u = true ↔ t = u)
  | .lf v, .lf w, p, q => by
    rw [eqTr]
    constructor
    . intro h
      cases v <;> cases w <;> first | (cases h; done) | (cases p; done) | (cases q; done) | skip
      . rfl
      . rw [beq_iff_eq.mp h]
      . rw [beq_iff_eq.mp h]
    . intro h
      cases h;cases v <;> first | (cases p; done) | exact l6 rfl
  | .ls ts, .ls us, p, q => by
    rw [eqTr];rw [sg] at p q;rw [js p q]
    constructor
    . intro h; rw [h]
    . intro h; cases h; rfl
  | .tp ts, .tp us, p, q => by
    rw [eqTr];rw [sg] at p q;rw [js p q]
    constructor
    . intro h; rw [h]
    . intro h; cases h; rfl
  | .lf v, .ls us, p, q => by rw [eqTr] <;> simp
  | .lf v, .tp us, p, q => by rw [eqTr] <;> simp
  | .ls ts, .lf w, p, q => by rw [eqTr] <;> simp
  | .ls ts, .tp us, p, q => by rw [eqTr] <;> simp
  | .tp ts, .lf w, p, q => by rw [eqTr] <;> simp
  | .tp ts, .ls us, p, q => by rw [eqTr] <;> simp
theorem js : ∀ {ts us : List Tr}, wy ts = true -> wy us = true -> (xy ts us = true ↔ ts = us)
  | [], [], _, _ => by rw [xy]; simp
  | [], u :: us, _, _ => by rw [xy] <;> simp
  | t :: ts, [], _, _ => by rw [xy] <;> simp
  | t :: ts, u :: us, p, q => by
    rw [wy, Bool.and_eq_true] at p q;rw [xy, Bool.and_eq_true, a9 p.1 q.1, js p.2 q.2]
    constructor
    . rintro ⟨rfl, rfl⟩; rfl
    . intro h; cases h; exact ⟨rfl, rfl⟩
end
section
variable {X : Cx} {pins : List (Addr × Obj)} {σ : St} {H : Hp} {s : Shared}
open Classical in
end
section
variable {X : Cx}
def inTr (t : Tr) (ts : List Tr) : Bool := ts.any fun u => eqTr u t
def rInD (K : Fg) (n : Nat) (neg : Bool) : R2 := fun x y H Q => ∃ p xs ts t, y = .ref p /\ (SqL K H p xs \/ SqT K H p xs) /\ TrsAt K H ts xs /\ TrAt K H t x /\ deep t <= n /\ v7 ts <= n /\ Q (.bl (neg ^^ inTr t ts)) H
end
mutual
theorem TrAt.mono {K : Fg} {H H' : Hp} (S : Same H H') : ∀ {t : Tr} {x : V}, TrAt K H t x -> TrAt K H' t x
  | .lf v, x, h => by rw [TrAt] at h ⊢; exact h
  | .ls ts, x, h => by
    rw [TrAt] at h ⊢;obtain ⟨a, xs, e, sq, h⟩ := h;exact ⟨a, xs, e, S.seq sq, TrsAt.mono S h⟩
  | .tp ts, x, h => by
    rw [TrAt] at h ⊢;obtain ⟨a, xs, e, sq, h⟩ := h;exact ⟨a, xs, e, Same.seqT S sq, TrsAt.mono S h⟩
theorem TrsAt.mono {K : Fg} {H H' : Hp} (S : Same H H') : ∀ {ts : List Tr} {xs : List V}, TrsAt K H ts xs -> TrsAt K H' ts xs
  | [], xs, h => by rw [TrsAt] at h ⊢; exact h
  | t :: ts, xs, h => by
    rw [TrsAt] at h ⊢;obtain ⟨y, ys, e, h1, h2⟩ := h;exact ⟨y, ys, e, TrAt.mono S h1, TrsAt.mono S h2⟩
end
theorem TrAt.lf {K : Fg} {H : Hp} {v : V} (f : y9 v = true) : TrAt K H (.lf v) v := by rw [TrAt]; exact ⟨rfl, f⟩
theorem TrAt.ls {K : Fg} {H : Hp} {a : Addr} {xs : List V} {ts : List Tr} (h : SqL K H a xs) (q : TrsAt K H ts xs) : TrAt K H (.ls ts) (.ref a) := by rw [TrAt]; exact ⟨a, xs, rfl, h, q⟩
theorem TrAt.tp {K : Fg} {H : Hp} {a : Addr} {xs : List V} {ts : List Tr} (h : SqT K H a xs) (q : TrsAt K H ts xs) : TrAt K H (.tp ts) (.ref a) := by rw [TrAt]; exact ⟨a, xs, rfl, h, q⟩
theorem TrsAt.nil {K : Fg} {H : Hp} : TrsAt K H [] [] := by rw [TrsAt]
theorem TrsAt.cons {K : Fg} {H : Hp} {t : Tr} {ts : List Tr} {x : V} {xs : List V} (h : TrAt K H t x) (q : TrsAt K H ts xs) : TrsAt K H (t :: ts) (x :: xs) := by rw [TrsAt]; exact ⟨x, xs, rfl, h, q⟩
theorem TrsAt.flat {K : Fg} {H : Hp} : ∀ {xs : List V}, xs.all y9 = true -> TrsAt K H (xs.map Tr.lf) xs
  | [], _ => TrsAt.nil
  | x :: xs, f => by
    rw [YM, Bool.and_eq_true] at f;exact TrsAt.cons (TrAt.lf f.1) (TrsAt.flat f.2)
theorem TrsAt.append {K : Fg} {H : Hp} : ∀ {ts us : List Tr} {xs ys : List V}, TrsAt K H ts xs -> TrsAt K H us ys -> TrsAt K H (ts ++ us) (xs ++ ys)
  | [], us, xs, ys, h, q => by rw [TrsAt] at h; subst h; exact q
  | t :: ts, us, xs, ys, h, q => by
    rw [TrsAt] at h;obtain ⟨y, zs, rfl, h1, h2⟩ := h;exact TrsAt.cons h1 (TrsAt.append h2 q)
theorem i9 : ∀ {ts : List Tr}, (∀ t ∈ ts, sg t = true) -> wy ts = true
  | [], _ => by rw [wy]
  | t :: ts, h => by
    rw [wy, h t ZA, i9 (ts := ts) fun u hu => h u (Zv _ hu)];rfl
theorem e_eqD {K : Fg} {n : Nat} {neg : Bool} {x y : V} {H : Hp} {Q : VK} : rEqD K n neg x y H Q = ∃ t t', SameK t t' /\ TrAt K H t x /\ TrAt K H t' y /\ deep t <= n /\ deep t' <= n /\ Q (.bl (neg ^^ eqTr t t')) H := rfl
theorem e_inD {K : Fg} {n : Nat} {neg : Bool} {x y : V} {H : Hp} {Q : VK} : rInD K n neg x y H Q = ∃ p xs ts t, y = .ref p /\ (SqL K H p xs \/ SqT K H p xs) /\ TrsAt K H ts xs /\ TrAt K H t x /\ deep t <= n /\ v7 ts <= n /\ Q (.bl (neg ^^ inTr t ts)) H := rfl
end L2
namespace L2
open PySem PySem.Spec PyProof.Rows
def chr1 (c : Nat) : Str := ⟨#[c]⟩
def Itw (x : Str) : It := ⟨fun i _ => i < x.cps.size, fun i H v H' => H' = H /\ ∃ c, x.cps[i]? = some c /\ v = .str (chr1 c), fun i _ => x.cps.size <= i⟩
theorem zfb {P : Program} {w : World} {K : Fg} {tg : Expr} (it : Addr) (x : Str) (t : Tok) : Turn P w K tg (Itw x) [it] it (fun i h => h.IsStrIter it "str_ascii_iterator" x t i) where
  mem := by simp
  obj := fun i h st b hb => by
    have e : b = it := by simpa using hb
    subst e;obtain ⟨o, e, c, d⟩ := st;exact ⟨o, e, fun v z => by rw [d] at z; cases z⟩
  keep := fun i h h' st k => by
    obtain ⟨o, e, r⟩ := st;exact ⟨o, k it (by simp) o e, r⟩
  item := by
    intro X hP hw hK hc i pins s σ H E I hf st hg;subst hP hw hK;have hi : i < x.cps.size := hg;obtain ⟨f0, f1, f2, f3, f4, f5⟩ := hf it (by simp);refine wpAny_pyNext_ascii_item st (c := x.cps[i]) (by simp [hi]) fun h' st' sb => ?_
    have I1 : Inv X pins σ H { s with heap := h', toks := s.toks + 1 } := I.turned (t' := s.toks + 1) (fun b o hb e => (sb.2 b hb).trans e) f0 f1 f3 f4 f5;obtain ⟨o, e, c, d⟩ := id st';exact ⟨_, rfl, gh (s := { s with heap := h', toks := s.toks + 1 }) e c d (by decide) ⟨.str (chr1 x.cps[i]), H, I1, ⟨_, rfl⟩, ⟨rfl, _, by simp [hi], rfl⟩, st', fun b hb => (hf b hb).1⟩⟩
  done := by
    intro X hP hw hK hc i pins s σ H E I hf st hg;subst hP hw hK;have hi : x.cps.size <= i := hg;obtain ⟨f0, f1, f2, f3, f4, f5⟩ := hf it (by simp);exact wpAny_pyNext_ascii_end (I.ok.hd hc) st (by simp [hi]) fun h' eb => ⟨rfl, I.turned (t' := s.toks) (fun b o hb e => eb b o hb e) f0 f1 f3 f4 f5⟩
  self := fun _ _ _ _ _ st h => wpAny_pyIter_striter_ascii st h
theorem zf7 {P : Program} {w : World} {K : Fg} {tg : Expr} (it : Addr) (x : Str) (t : Tok) : Turn P w K tg (Itw x) [it] it (fun i h => h.IsStrIter it "str_iterator" x t i) where
  mem := by simp
  obj := fun i h st b hb => by
    have e : b = it := by simpa using hb
    subst e;obtain ⟨o, e, c, d⟩ := st;exact ⟨o, e, fun v z => by rw [d] at z; cases z⟩
  keep := fun i h h' st k => by
    obtain ⟨o, e, r⟩ := st;exact ⟨o, k it (by simp) o e, r⟩
  item := by
    intro X hP hw hK hc i pins s σ H E I hf st hg;subst hP hw hK;have hi : i < x.cps.size := hg;obtain ⟨f0, f1, f2, f3, f4, f5⟩ := hf it (by simp);refine wpAny_pyNext_wide_item st (c := x.cps[i]) (by simp [hi]) fun h' st' sb => ?_
    have I1 : Inv X pins σ H { s with heap := h', toks := s.toks + 1 } := I.turned (t' := s.toks + 1) (fun b o hb e => (sb.2 b hb).trans e) f0 f1 f3 f4 f5;obtain ⟨o, e, c, d⟩ := id st';exact ⟨_, rfl, gh (s := { s with heap := h', toks := s.toks + 1 }) e c d (by decide) ⟨.str (chr1 x.cps[i]), H, I1, ⟨_, rfl⟩, ⟨rfl, _, by simp [hi], rfl⟩, st', fun b hb => (hf b hb).1⟩⟩
  done := by
    intro X hP hw hK hc i pins s σ H E I hf st hg;subst hP hw hK;have hi : x.cps.size <= i := hg;obtain ⟨f0, f1, f2, f3, f4, f5⟩ := hf it (by simp);exact wpAny_pyNext_wide_end (I.ok.hd hc) st (by simp [hi]) fun h' eb => ⟨rfl, I.turned (t' := s.toks) (fun b o hb e => eb b o hb e) f0 f1 f3 f4 f5⟩
  self := fun _ _ _ _ _ st h => wpAny_pyIter_striter_wide st h
def iStr (a : TE) : TI := fun σ H R => a σ H fun x H1 => ∃ z, x = .str z /\ R (Itw z) H1
theorem pi_str {X : Cx} {tg l : Expr} {tl : TE} (hl : PE X l tl) : PI X tg l (iStr tl) := by
  intro pins s σ H R I h;refine thn (hl pins s σ H _ I h) fun v s1 ⟨x, H1, I1, r1, q1⟩ => ?_
  obtain ⟨z, e, q⟩ := q1;subst e;obtain ⟨t, rfl⟩ := r1;refine wpAny_pyIter_strU ?_
  have fin : ∀ {tn : Nat -> Heap -> Prop}, Turn X.prog X.w X.K tg (Itw z) [s1.heap.objs.size] s1.heap.objs.size tn -> tn 0 (s1.heap.push { cls := .type (strIterType z), data := .fields #[.str z t, .int 0 0] }) ->
      PIE X pins σ tg R (.ref s1.heap.objs.size) { s1 with heap := s1.heap.push { cls := .type (strIterType z), data := .fields #[.str z t, .int 0 0] } } := fun {tn} T h0 => by
    refine ⟨s1.heap.objs.size, [s1.heap.objs.size], _, _, H1, rfl, I1.kept (t' := s1.toks) fun b o e => Heap.get?_push_of_some _ e, T, h0, fun b hb => ?_, q⟩;have e : b = s1.heap.objs.size := by simpa using hb
    subst e;exact I1.fpOk (Zm _) (I1.hok.fresh (Zm _))
  cases ha : z.cps.all (· < 128) with
  | true =>
    have e : strIterType z = "str_ascii_iterator" := by simp [strIterType, ha]
    refine fin (zfb _ z t) ?_;exact ⟨_, Heap.get?_push_size _ rfl, by rw [e], rfl⟩
  | false =>
    have e : strIterType z = "str_iterator" := by simp [strIterType, ha]
    refine fin (zf7 _ z t) ?_;exact ⟨_, Heap.get?_push_size _ rfl, by rw [e], rfl⟩
theorem e_iStr {a : TE} {σ : St} {H : Hp} {R : It -> Hp -> Prop} : iStr a σ H R = a σ H fun x H1 => ∃ z, x = .str z /\ R (Itw z) H1 := rfl
def xl (z : Str) (n : Nat) : Str := ⟨(List.replicate n z.cps.toList).flatten.toArray⟩
theorem zej : ∀ (n : Nat) (a acc : Array Nat), (List.replicate n a).foldl (· ++ ·) acc = acc ++ (List.replicate n a.toList).flatten.toArray := by
  intro n
  induction n with
  | zero => intro a acc; simp
  | succ n ih =>
    intro a acc;rw [YJ, List.foldl_cons, ih, YJ, List.flatten_cons]
    apply Array.ext'
    simp
theorem mul_is (z : Str) (n : Int) : Txt.mul z n = xl z n.toNat := by
  unfold Txt.mul xl
  by_cases h : n < 1
  . rw [if_pos h, show n.toNat = 0 by omega]; rfl
  . rw [if_neg h]
    by_cases h2 : (n == 1 || z.length == 0) = true
    . rw [if_pos h2]
      rcases Bool.or_eq_true _ _ ▸ h2 with q | q
      . have : n = 1 := by simpa using q
        subst this
        show z = _
        have : (1 : Int).toNat = 1 := rfl;rw [this];simp
      . have e : z.cps.size = 0 := by simpa [Str.length] using q
        have e2 : z.cps = #[] := Array.eq_empty_of_size_eq_zero e;obtain ⟨c⟩ := z;simp only at e2;subst e2;simp
    . rw [if_neg h2, zej]
      simp
section
variable {X : Cx}
def rMulS : R2 := fun x y H Q => ∃ z n, x = .str z /\ y = .int n /\ -(2 ^ 62) <= n /\ n < 2 ^ 31 /\ z.length * n.toNat <= 2 ^ 20 /\ Q (.str (xl z n.toNat)) H
theorem f7 : OpR X (binaryOp .Mult) rMulS := by
  intro pins s σ H x y v u Q I rx ry h;obtain ⟨z, n, rfl, rfl, h1, h2, h3, q⟩ := h;obtain ⟨t, rfl⟩ := rx;obtain ⟨t', rfl⟩ := ry;refine SB.mul ⟨?_, fun h4 h5 => ?_, fun h4 h5 => ?_⟩ fun tk k => ?_
  . rw [decide_eq_false (by omega), decide_eq_false (by omega)]; rfl
  . intro h6
    have h7 : (z.length : Int) * n <= 2 ^ 20 := by
      have : ((z.length * n.toNat : Nat) : Int) <= ((2 ^ 20 : Nat) : Int) := by exact_mod_cast h3
      rw [Int.natCast_mul, ZW (by omega)] at this;exact this
    have h8 : (2 ^ 63 - 1 : Int) / n * n <= z.length * n := Int.mul_le_mul_of_nonneg_right (by omega) (by omega);have h9 := Int.emod_add_mul_ediv (2 ^ 63 - 1 : Int) n;have h10 : (2 ^ 63 - 1 : Int) % n < n := ZR _ (by omega);rw [Int.mul_comm] at h8;omega
  . have : z.length * n.toNat <= sizeLine := Zd h3 (by decide)
    show decide (z.length * n.toNat > sizeLine) = false
    exact decide_eq_false (by omega)
  . rw [mul_is]
    exact ⟨.str (xl z n.toNat), H, I.tok _, ⟨_, rfl⟩, q⟩
theorem e_mulS {x y : V} {H : Hp} {Q : VK} : rMulS x y H Q = ∃ z n, x = .str z /\ y = .int n /\ -(2 ^ 62) <= n /\ n < 2 ^ 31 /\ z.length * n.toNat <= 2 ^ 20 /\ Q (.str (xl z n.toNat)) H := rfl
end
theorem hu8 {A : Around} {k : Nat} (hr : Room k A) : A.units + 8 <= cLine := by have := hr.un; omega
theorem hu9 {A : Around} {k : Nat} (hr : Room k A) : A.units + 1 + 8 <= cLine := by have := hr.un; omega
theorem e_ixS {x y : V} {H : Hp} {Q : VK} : rIxS x y H Q = ∃ z i c, x = .str z /\ y = .int i /\ z.length <= sizeLine /\ atI z.cps.toList i = some c /\ Q (.str ⟨#[c]⟩) H := rfl
theorem e_rev {x : V} {vs : List V} {H : Hp} {Q : VK} : az x vs H Q = ∃ l xs, x = .ref l /\ vs = [] /\ H l = some (.lst xs) /\ Q .non (upd H l (.lst xs.reverse)) := rfl
theorem zh3 {x : V} {vs : List V} {H : Hp} {Q : VK} : ze2 x vs H Q = ∃ l xs, x = .ref l /\ vs = [] /\ H l = some (.lst xs) /\ Q .non (upd H l (.lst [])) := rfl
theorem e_iT {K : Fg} {a : TE} {σ : St} {H : Hp} {R : It -> Hp -> Prop} : iTup K a σ H R = a σ H fun x H1 => ∃ p, x = .ref p /\ (∃ xs, SqT K H1 p xs) /\ R (Itt K p) H1 := rfl
section
variable {X : Cx}
def rJoin (K : Fg) : V -> List V -> Hp -> VK -> Prop := fun x vs H Q => ∃ sep b texts, x = .str sep /\ vs = [.ref b] /\ SqL K H b (texts.map V.str) /\ JoinOk sep texts = true /\ Q (.str (Txt.join sep texts)) H
theorem e_join {K : Fg} {x : V} {vs : List V} {H : Hp} {Q : VK} : rJoin K x vs H Q = ∃ sep b texts, x = .str sep /\ vs = [.ref b] /\ SqL K H b (texts.map V.str) /\ JoinOk sep texts = true /\ Q (.str (Txt.join sep texts)) H := rfl
end
section
variable {σ : St} {k : Nat} {g : TG} {tt : TT} {te : TE} {H1 : Hp} {Fin : List V -> Hp -> Prop}
theorem ik {K : Fg} {a : Addr} {xs : List V} (Pv : Nat -> List V -> Hp -> Prop) (h0 : Pv 0 [] H1) (hz : ∀ i ys H, i <= xs.length -> Pv i ys H -> ys.length <= sizeLine /\ SqT K H a xs)
    (hs : ∀ i x ys H, xs[i]? = some x -> Pv i ys H -> g x (List.replicate k none ++ σ) H fun σ2 H2 => σ2.drop k = σ /\ tt σ2 H2 fun b H3 => if b = true then te σ2 H3 fun v H4 => Pv (i + 1) (ys ++ [v]) H4 else Pv (i + 1) ys H3)
    (hd : ∀ ys H, Pv xs.length ys H -> Fin ys H) : pq (Itt K a) σ k g tt te H1 Fin := by
  refine ⟨fun i m ys H => m = xs.length - i /\ i <= xs.length /\ Pv i ys H, ⟨xs.length, by simp, ZE _, h0⟩, ?_⟩
  rintro i m ys H ⟨rfl, hi, p⟩
  have q := (hz i ys H hi p).2;refine ⟨(hz i ys H hi p).1, ?_⟩
  by_cases hlt : i < xs.length
  . refine .inr ⟨⟨xs, xs[i], q, by simp [hlt]⟩, Pv (i + 1), fun ys' H' p' => ⟨xs.length - (i + 1), by omega, rfl, hlt, p'⟩, fun x H' y => ?_⟩
    obtain ⟨e, y⟩ := y;subst e;exact hs i x ys _ (y xs q) p
  . have e : i = xs.length := by omega
    subst e;exact .inl ⟨⟨xs, q, Zm _⟩, hd ys H p⟩
end
theorem z8 {e : Expr} {es : List Expr} {env : Env} (h : ∀ e' p, e ≠ .Starred e' p) : starEach (e :: es) env = (false, eval e env) :: starEach es env := by
  cases e <;> first | rfl | exact absurd rfl (h _ _)
def iSeq (K : Fg) (tl : TE) : TI := fun σ H R => tl σ H fun x H1 => ∃ a, x = .ref a /\ (((∃ xs, SqL K H1 a xs) /\ R (Itl K a) H1) \/ ((∃ xs, SqT K H1 a xs) /\ R (Itt K a) H1))
theorem e_iSeq {K : Fg} {tl : TE} {σ : St} {H : Hp} {R : It -> Hp -> Prop} : iSeq K tl σ H R = tl σ H fun x H1 => ∃ a, x = .ref a /\ (((∃ xs, SqL K H1 a xs) /\ R (Itl K a) H1) \/ ((∃ xs, SqT K H1 a xs) /\ R (Itt K a) H1)) := rfl
section
variable {X : Cx}
def rTupL (K : Fg) : List V -> Hp -> VK -> Prop := fun xs H Q => ∃ p ys, xs = [.ref p] /\ SqL K H p ys /\ ∀ l, H l = none -> Q (.ref l) (upd H l (.tup ys))
theorem x5 : CallR X (.type "tuple") (rTupL X.K) := fun pins s σ H xs us Q I r h => by
  obtain ⟨p, ys, e, hq, q⟩ := h;exact c0 pins s σ H xs us Q I r ⟨p, ys, e, .inl ⟨hq, q⟩⟩
theorem e_tupL {K : Fg} {xs : List V} {H : Hp} {Q : VK} : rTupL K xs H Q = ∃ p ys, xs = [.ref p] /\ SqL K H p ys /\ ∀ l, H l = none -> Q (.ref l) (upd H l (.tup ys)) := rfl
end
end L2
namespace L2
open PySem PySem.Spec PyProof.Rows
section
variable {X : Cx}
def rMinL (K : Fg) (xs : List V) (H : Hp) (Q : VK) : Prop := ∃ (p : Addr) (ns : List Int), xs = [.ref p] /\ SqL K H p (ns.map V.int) /\ 0 < ns.length /\ ∀ m, m ∈ ns -> (∀ a ∈ ns, m <= a) -> Q (.int m) H
def rMaxL (K : Fg) (xs : List V) (H : Hp) (Q : VK) : Prop := ∃ (p : Addr) (ns : List Int), xs = [.ref p] /\ SqL K H p (ns.map V.int) /\ 0 < ns.length /\ ∀ m, m ∈ ns -> (∀ a ∈ ns, a <= m) -> Q (.int m) H
theorem e_minL {K : Fg} {xs : List V} {H : Hp} {Q : VK} : rMinL K xs H Q = ∃ (p : Addr) (ns : List Int), xs = [.ref p] /\ SqL K H p (ns.map V.int) /\ 0 < ns.length /\ ∀ m, m ∈ ns -> (∀ a ∈ ns, m <= a) -> Q (.int m) H := rfl
theorem e_maxL {K : Fg} {xs : List V} {H : Hp} {Q : VK} : rMaxL K xs H Q = ∃ (p : Addr) (ns : List Int), xs = [.ref p] /\ SqL K H p (ns.map V.int) /\ 0 < ns.length /\ ∀ m, m ∈ ns -> (∀ a ∈ ns, a <= m) -> Q (.int m) H := rfl
theorem zfv (hc : X.calm = true) : CallR X (.builtin "min") (rMinL X.K) := by
  intro pins s σ H xs us Q I r h;obtain ⟨p, ns, rfl, hq, hne, q⟩ := h;obtain ⟨u, rfl, rx⟩ := Vals.one r;cases rx;obtain ⟨its, rv, pl, hz⟩ := I.list hq;have hi : IntsAre its ns := g9 rv;obtain ⟨zs, hx⟩ := hi.allInts.items;have hl' : s.heap.IsList p (intItems zs) := hx ▸ pl.isList
  have hns : ns = zs.toList.map (·.1) := by
    rw [<- nums_intItems, <- hx];exact (show numsOf its.toArray.toList = ns from hi.numsOf).symm
  have hsz : 0 < zs.size := by
    have h3 := hne; rw [hns, Za, ZP] at h3; exact h3
  refine min_intList (I.ok.hd hc) hl' hsz fun v h' tk hv hk => ?_
  obtain ⟨t, rfl⟩ := intItems_at hv;obtain ⟨h1, h2⟩ := argBest_lt (numAt zs) (zs.size - 1);refine ⟨V.int _, H, I.kept hk, ⟨_, rfl⟩, q _ ?_ fun a ha => ?_⟩
  . rw [hns, numAt_eq]; exact getD_mem (by rw [Za, ZP]; omega)
  . rw [hns] at ha
    obtain ⟨j, hj, rfl⟩ := mem_getD ha;rw [Za, ZP] at hj;rw [<- numAt_eq]; exact h2 j (by omega)
theorem zf0 (hc : X.calm = true) : CallR X (.builtin "max") (rMaxL X.K) := by
  intro pins s σ H xs us Q I r h;obtain ⟨p, ns, rfl, hq, hne, q⟩ := h;obtain ⟨u, rfl, rx⟩ := Vals.one r;cases rx;obtain ⟨its, rv, pl, hz⟩ := I.list hq;have hi : IntsAre its ns := g9 rv;obtain ⟨zs, hx⟩ := hi.allInts.items;have hl' : s.heap.IsList p (intItems zs) := hx ▸ pl.isList
  have hns : ns = zs.toList.map (·.1) := by
    rw [<- nums_intItems, <- hx];exact (show numsOf its.toArray.toList = ns from hi.numsOf).symm
  have hsz : 0 < zs.size := by
    have h3 := hne; rw [hns, Za, ZP] at h3; exact h3
  refine max_intList (I.ok.hd hc) hl' hsz fun v h' tk hv hk => ?_
  obtain ⟨t, rfl⟩ := intItems_at hv;obtain ⟨h1, h2⟩ := argBest_gt (numAt zs) (zs.size - 1);refine ⟨V.int _, H, I.kept hk, ⟨_, rfl⟩, q _ ?_ fun a ha => ?_⟩
  . rw [hns, numAt_eq]; exact getD_mem (by rw [Za, ZP]; omega)
  . rw [hns] at ha
    obtain ⟨j, hj, rfl⟩ := mem_getD ha;rw [Za, ZP] at hj;rw [<- numAt_eq]; exact h2 j (by omega)
end
end L2
namespace L2
open PySem PySem.Spec PyProof.Rows
section
variable {prog : Program} {w : World} {A : Around} {E : Value -> Shared -> Prop} {s : Shared}
end
section
variable {X : Cx}
end
end L2
namespace L2
open PySem PySem.Spec PyProof.Rows
def seen (val : Nat -> Str) : Nat -> List Str
  | 0 => []
  | i + 1 => if val i ∈ seen val i then seen val i else seen val i ++ [val i]
theorem zar (val : Nat -> Str) : ∀ i, (seen val i).length <= i
  | 0 => Zm _
  | i + 1 => by
    have := zar val i;unfold seen
    split
    . omega
    . rw [Zo, Yg]; omega
theorem zgk (val : Nat -> Str) (i : Nat) (k : Str) : (decide (k ∈ seen val i) || decide (k = val i)) = decide (k ∈ seen val (i + 1)) := by
  conv => rhs; unfold seen
  split
  . rename_i h
    by_cases e : k = val i
    . subst e; simp [h]
    . simp [e]
  . simp
theorem zd5 (val : Nat -> Str) (i : Nat) : (if decide (val i ∈ seen val i) = true then (seen val i).length else (seen val i).length + 1) = (seen val (i + 1)).length := by
  conv => rhs; unfold seen
  by_cases h : val i ∈ seen val i
  . simp [h]
  . simp [h]
section
variable {prog : Program} {w : World} {A : Around} {R : Result -> Shared -> Prop} {I : Addr} {fp wr : List Addr} {G : Array GenState -> Array GenState -> Prop} {n : Nat} {P : Nat -> Value -> Prop} {St : Nat -> Shared -> Prop}
theorem br (W : WalksS prog w A.in1 I fp wr G n P St) (T : Addr) (hT : T ∉ fp) (val : Nat -> Str) (hval : ∀ i v, P i v -> ∃ t, v = .str (val i) t) (hb : n + 1 < scanBound) :
    ∀ (k i : Nat) (s : Shared), n - i = k -> i <= n -> St i s -> s.heap.SetOf (PySem.strKind prog w) T (fun k' => decide (k' ∈ seen val i)) (seen val i).length ->
      (∀ s', Moved (T :: wr) G s s' -> s'.heap.SetOf (PySem.strKind prog w) T (fun k' => decide (k' ∈ seen val n)) (seen val n).length -> R (.ok (.ret .none)) s') ->
      codeAny (model prog w) A (.builtin "set.update.loop" ⟨[.ref T, .ref I], []⟩) R s := by
  have hTw : T ∉ wr := fun h => hT (W.sub _ h)
  have sub : ∀ b ∈ wr, b ∈ T :: wr := fun b h => Zv _ h
  intro k
  induction k with
  | zero =>
    intro i s hk hi hst hS hR;obtain rfl : i = n := by omega
    refine codeAny_builtin PyProof.Rows.F.entry_set_update_loop ?_;rw [Around.under_plainId PyProof.Rows.F.plain_set_update_loop _]
    show wpAny _ A.in1 (pyNext (.ref I) >>= _) _ _ s
    refine wpAny_bind (W.done s _ _ hst fun s' hm => ?_);refine wpAny_pure (hR s' (hm.mono sub) ?_);obtain ⟨o, es, ep, t, ho, r⟩ := hS;exact ⟨o, es, ep, t, hm.heap T _ hTw ho, r⟩
  | succ k ih =>
    intro i s hk hi hst hS hR;have hlt : i < n := by omega
    refine codeAny_builtin PyProof.Rows.F.entry_set_update_loop ?_;rw [Around.under_plainId PyProof.Rows.F.plain_set_update_loop _]
    show wpAny _ A.in1 (pyNext (.ref I) >>= _) _ _ s
    refine wpAny_bind (W.item i s _ _ hlt hst fun v s' hP hst' hm => ?_);obtain ⟨t, rfl⟩ := hval i v hP
    have hS' : s'.heap.SetOf (PySem.strKind prog w) T (fun k' => decide (k' ∈ seen val i)) (seen val i).length := by
      obtain ⟨o, es, ep, tb, ho, r⟩ := hS;exact ⟨o, es, ep, tb, hm.heap T _ hTw ho, r⟩
    show wpAny _ A.in1 (holding [Value.str (val i) t] (setAdd T (.str (val i) t)) >>= _) _ _ s'
    refine wpAny_bind (wpAny_holding ?_);unfold setAdd;refine wpAny_holding (wpAny_bind ((PySem.strKind prog w).pyHash (k := val i) (strKind_is _ _ _ _) ?_));have room : (seen val i).length + 1 < scanBound := by have := zar val i; omega
    refine wpAny_setAddHashed_of (knd := PySem.strKind prog w) (s := { s' with toks := s'.toks + 1 }) (strKind_is _ _ _ _) rfl hS' room fun h' hsb hS2 => ?_
    have hSi : h'.SetOf (PySem.strKind prog w) T (fun k' => decide (k' ∈ seen val (i + 1))) (seen val (i + 1)).length := by
      have e1 := zd5 val i;have e2 : (fun k' => decide (k' ∈ seen val (i + 1))) = fun k' => (decide (k' ∈ seen val i) || decide (k' = val i)) := funext fun k' => (zgk val i k').symm
      rw [<- e1, e2];exact hS2
    refine wpAny_pure ⟨plainId_quiet PyProof.Rows.F.plain_set_update_loop _, ih (i + 1) _ (by omega) hlt (W.frame _ s' _ _ hst' (YL _) fun b hb o e => ?_) hSi fun s2 hm2 hS2' => ?_⟩
    . rw [hsb.2 b (fun z : b = T => hT (z ▸ hb))]; exact e
    . refine hR s2 (Moved.trans W.gtrans ((hm.mono sub).then_heap (YL _) fun b o hb e => ?_) hm2) hS2'
      rw [hsb.2 b (fun z : b = T => hb (z ▸ ZA))]; exact e
end
abbrev setO (led : Bool) : Obj := { cls := .type "set", dict := none, data := .set #[] 0 (.fresh 0 0 led) }
section
variable {prog : Program} {w : World} {A : Around} {E : Value -> Shared -> Prop} {s : Shared}
def zci (prog : Program) (w : World) (s : Shared) (val : Nat -> Str) (n : Nat) (h' : Heap) : Prop :=
  h'.SetOf (PySem.strKind prog w) s.heap.objs.size (fun k' => decide (k' ∈ seen val n)) (seen val n).length /\ ∀ b o, b < s.heap.objs.size -> s.heap.get? b = some o -> h'.get? b = some o
set_option maxHeartbeats 3200000 in
theorem cq {l : Addr} {items : Array Value} {val : Nat -> Str} {Q : Value -> Shared -> Prop} (hh : A.handled = none) (hl : s.heap.IsList l items) (hv : ∀ (i : Nat) v, items[i]? = some v -> ∃ t, v = .str (val i) t) (hb : items.size + 1 < scanBound)
    (h : ∀ (h' : Heap) (tk : Nat), zci prog w s val items.size h' -> Q (.ref s.heap.objs.size) { s with heap := h', toks := tk }) : wpAny (model prog w) A (call (.type "set") [.ref l]) Q E s := by
  obtain ⟨c, tl, hmro⟩ := F.called_set.mro;have hmade := F.called_set.made;have hsub := F.called_set.sub;refine wpAny_call (codeAny_of_tree ?_)
  show wpAny _ _ (callAny (.type "set") _) _ _ _
  refine wpAny_pure ⟨Code.quiet_builtin _ (by decide +kernel), codeAny_builtin F.entry_type_call ?_⟩;rw [Around.under_plain (weight_type_call_type "set" [.ref l] []) rfl];have h1 := F.called_set.notType;have h2 := F.called_set.canCreate;have hct := F.typeCall_set_1 (.ref l)
  repeat (any_goals (first | assumption | wp_step))
  refine codeAny_mono (code_set_new_1 (.ref l) (E := E) (Q₁ := fun obj s₁ => ∃ led : Bool, obj = .ref s.heap.objs.size /\ s₁ = { s with heap := s.heap.push (setO led) }) fun led => ⟨led, rfl, rfl⟩) fun r s₁ hr => ?_
  match r, hr with
  | .error e, hr => exact hr
  | .ok .next, hr => exact hr.elim
  | .ok .brk, hr => exact hr.elim
  | .ok .cont, hr => exact hr.elim
  | .ok (.ret obj), hr =>
    obtain ⟨led, rfl, rfl⟩ := hr;have hS : (s.heap.push (setO led)).get? s.heap.objs.size = some (setO led) := Heap.get?_push_size _ rfl;have hT : Shared.TypeIs { s with heap := s.heap.push (setO led) } (.ref s.heap.objs.size) "set" := ⟨_, hS, rfl⟩;have hli := F.called_set.init.lookup;have hbi := F.called_set.init.bind (.ref s.heap.objs.size)
    repeat (any_goals (first | assumption | wp_step))
    refine codeAny_mono (codeAny_call_builtin (R := wants (fun r s₂ => r = .none /\ ∃ h' tk, s₂ = { s with heap := h', toks := tk } /\ zci prog w s val items.size h') E) F.called_set.init.plain F.entry_set_init (check_set_init_1 hT ?_)) fun r₂ s₂ hr₂ => ?_
    . obtain ⟨ol, hol, hcl, nl, hdl⟩ := id hl
      have hl1 : (s.heap.push (setO led)).IsList l items := hl.push _;obtain ⟨ocls, odict, odata, oslots⟩ := ol;simp only at hcl hdl;subst hcl; subst hdl;have hol' : (s.heap.push (setO led)).get? l = some { cls := .type "list", dict := odict, data := .seq items nl, slots := oslots } := Heap.get?_push_of_some _ hol;have hsls := F.sub_list_set;have hslf := F.sub_list_frozenset;have hne : (Value.type "list" == Value.type "dict") = false := by decide
      unfold Builtin.«set.__init__» noKeywords Builtin.Frozenset.updateFrom;generalize hPI : pyIter = PI
      wp_walk
      subst hPI;refine wpAny_pyIter_list hl1 ?_;refine wpAny_bind (wpAny_runValue ?_);have hlS : l < s.heap.objs.size := Heap.lt_size hol;have hsz : (s.heap.push (setO led)).objs.size = s.heap.objs.size + 1 := size_push' ..;have hneI : l ≠ (s.heap.push (setO led)).objs.size := by rw [hsz]; exact Zs (Yy hlS)
      have hSf : s.heap.objs.size ∉ [(s.heap.push (setO led)).objs.size, l] := by
        rw [hsz];simp only [ZK, Zx, or_false, not_or];exact ⟨Zs (YB _), YG hlS⟩
      refine br ((Walks.list (by simp [hh]) _ l hneI items).toS) s.heap.objs.size hSf val hv hb (items.size - 0) 0 _ (by omega) (ZE _) ⟨⟨_, Heap.get?_push_size _ rfl, rfl, rfl⟩, hl1.push _⟩ ?_ ?_
      . have hget : ((s.heap.push (setO led)).push { cls := .type "list_iterator", data := .fields #[.ref l, .int 0 0] }).get? s.heap.objs.size = some (setO led) := Heap.get?_push_of_some _ hS
        exact (PyProof.Rows.setObjOf_fresh (knd := PySem.strKind prog w) led).setOf hget (by unfold scanBound; omega)
      . intro s' hm hS'
        rw [Moved.eq_with hm];refine wpAny_pure ?_;refine wpAny_pure ⟨rfl, s'.heap, s'.toks, rfl, hS', fun b o hb e => hm.heap b o ?_ (Heap.get?_push_of_some _ (Heap.get?_push_of_some _ e))⟩;rw [hsz];simp only [ZK, Zx, or_false, not_or];exact ⟨Zs hb, Zs (Yy hb)⟩
    . match r₂, hr₂ with
      | .error e, hr₂ => exact hr₂
      | .ok .next, hr₂ => exact hr₂.elim
      | .ok .brk, hr₂ => exact hr₂.elim
      | .ok .cont, hr₂ => exact hr₂.elim
      | .ok (.ret r), hr₂ =>
        obtain ⟨rfl, h', tk, rfl, hd⟩ := hr₂
        repeat (any_goals (first | assumption | wp_step))
        exact h _ _ hd
end
end L2
namespace L2
open PySem PySem.Spec PyProof.Rows
theorem zha {zs : List Str} {us : List Value} (r : Vals (zs.map V.str) us) (i : Nat) (v : Value) (h : us[i]? = some v) : ∃ t, v = .str (zs.getD i ⟨#[]⟩) t := by
  have hl := r.length;rw [Za] at hl;have hi : i < zs.length := by rw [hl]; exact (Zc.mp h).1
  obtain ⟨u, hu, ru⟩ := r.get (i := i) (x := V.str zs[i]) (by simp [hi]);rw [h] at hu;cases hu;obtain ⟨t, rfl⟩ := ru;exact ⟨t, by simp [Zk, hi]⟩
section
variable {X : Cx}
def zcl (K : Fg) (t : TA) : TE := fun σ H Q => t σ H fun vs H1 => ∃ (p : Addr) (zs : List Str), vs = [.ref p] /\ SqL K H1 p (zs.map V.str) /\ zs.length <= 1000 /\ Q (.int (seen (fun i => zs.getD i ⟨#[]⟩) zs.length).length) H1
theorem zgm {K : Fg} {t : TA} {σ : St} {H : Hp} {Q : VK} : zcl K t σ H Q = t σ H fun vs H1 => ∃ (p : Addr) (zs : List Str), vs = [.ref p] /\ SqL K H1 p (zs.map V.str) /\ zs.length <= 1000 /\ Q (.int (seen (fun i => zs.getD i ⟨#[]⟩) zs.length).length) H1 := rfl
theorem zfr {e : Expr} {t : TA} {p1 p2 q1 q2 : Pos} (hc : X.calm = true) (hgL : Gl X "len") (hmL : X.mg "len" = none) (hgR : Gl X "set") (hmR : X.mg "set" = none) (ha : PA X [e] t)
    (he : starEach [e] X.env = (false, eval e X.env) :: starEach [] X.env := by rfl) (he2 : starEach [.Call (.Name "set" p2) [e] [] q2] X.env = (false, eval (.Call (.Name "set" p2) [e] [] q2) X.env) :: starEach [] X.env := by rfl) :
    PE X (.Call (.Name "len" p1) [.Call (.Name "set" p2) [e] [] q2] [] q1) (zcl X.K t) := by
  intro pins s σ H Q I h;refine wpAny_Call_Name_kw (ul I hgL hmL ya ?_);refine PyProof.Rows.callWith_builtin1 ?_ he2 rfl;rw [he2]
  show wpAny _ _ (spliced ((false, eval (.Call (.Name "set" p2) [e] [] q2) X.env) :: backTo q1 (starEach [] X.env))) _ _ s
  refine Calls.spliced_cons ?_;refine wpAny_Call_Name_kw (ul I hgR hmR bt_set ?_);refine PyProof.Rows.callWith_type1 (thn (ha q2 pins s σ H _ I h) fun us s1 ⟨vs, H1, I1, r1, q⟩ => ?_) he rfl;obtain ⟨p, zs, rfl, hq, hz, q⟩ := q;obtain ⟨u, rfl, rx⟩ := Vals.one r1;cases rx;obtain ⟨its, rv, pl, _⟩ := I1.list hq;have hlen : its.length = zs.length := by have := rv.length; rw [Za] at this; exact this.symm
  refine cq (val := fun i => zs.getD i ⟨#[]⟩) (I1.ok.hd hc) pl.isList (fun i v hv => zha rv i v (by simpa using hv)) (by rw [Zr, hlen]; exact ZQ (YR hz) (by decide)) fun h' tk hd => ?_
  refine Calls.spliced_nil ?_;obtain ⟨hS, kp⟩ := hd;rw [show its.toArray.size = zs.length by rw [Zr, hlen]] at hS;have I2 : Inv X pins σ H1 { s1 with heap := h', toks := tk } := I1.kept fun b o e => kp b o (Heap.lt_size e) e
  obtain ⟨o, es, ep, t, ho, ex, hd, _, _, hz2, hf, hn⟩ := hS;have h3 : ((es.size : Nat) : Int) < 2 ^ 63 := by unfold scanBound at hz2; omega
  refine call_len_set ho ex hd hf h3 ⟨.int es.size, H1, I2.tok _, ⟨_, rfl⟩, ?_⟩;rw [hn];exact q
def rLeS (x y : V) (H : Hp) (Q : VK) : Prop := ∃ i j, x = .str i /\ y = .str j /\ Q (.bl (!decide (j.cps.toList < i.cps.toList))) H
theorem e_leS {x y : V} {H : Hp} {Q : VK} : rLeS x y H Q = ∃ i j, x = .str i /\ y = .str j /\ Q (.bl (!decide (j.cps.toList < i.cps.toList))) H := rfl
theorem ze7 : OpR X (compareOp .LtE) rLeS := by
  intro pins s σ H x y v u Q I rx ry h;obtain ⟨i, j, rfl, rfl, q⟩ := h;obtain ⟨t, rfl⟩ := rx;obtain ⟨t', rfl⟩ := ry;exact PySem.P.le_str (yn I q rfl)
end
section
variable {σ : St} {k : Nat} {g : TG} {tt : TT} {te : TE} {H1 : Hp} {Fin : List V -> Hp -> Prop}
theorem zgn {z : Str} (Pv : Nat -> List V -> Hp -> Prop) (h0 : Pv 0 [] H1) (hz : ∀ i ys H, i <= z.cps.size -> Pv i ys H -> ys.length <= sizeLine)
    (hs : ∀ i c ys H, z.cps[i]? = some c -> Pv i ys H -> g (.str (chr1 c)) (List.replicate k none ++ σ) H fun σ2 H2 => σ2.drop k = σ /\ tt σ2 H2 fun b H3 => if b = true then te σ2 H3 fun v H4 => Pv (i + 1) (ys ++ [v]) H4 else Pv (i + 1) ys H3)
    (hd : ∀ ys H, Pv z.cps.size ys H -> Fin ys H) : pq (Itw z) σ k g tt te H1 Fin := by
  refine ⟨fun i m ys H => m = z.cps.size - i /\ i <= z.cps.size /\ Pv i ys H, ⟨z.cps.size, by simp, ZE _, h0⟩, ?_⟩
  rintro i m ys H ⟨rfl, hi, p⟩
  refine ⟨hz i ys H hi p, ?_⟩
  by_cases hlt : i < z.cps.size
  . refine .inr ⟨hlt, Pv (i + 1), fun ys' H' p' => ⟨z.cps.size - (i + 1), by omega, rfl, hlt, p'⟩, fun x H' y => ?_⟩
    obtain ⟨e, c, e2, y⟩ := y;subst e y;exact hs i c ys _ e2 p
  . have e : i = z.cps.size := by omega
    subst e;exact .inl ⟨Zm _, hd ys H p⟩
end
def intE : Expr -> Option Int
  | .Constant (.int i) _ _ => some i
  | _ => none
def bf : List Expr -> Option (List Int)
  | [] => some []
  | e :: es => (intE e).bind fun i => (bf es).map fun is => i :: is
def jz : List Int -> List V
  | [] => []
  | i :: is => .int i :: jz is
theorem e_vI0 : jz [] = [] := rfl
theorem e_vI {i : Int} {is : List Int} : jz (i :: is) = .int i :: jz is := rfl
def tInts (ns : List Int) : TA := fun _ H Q => Q (jz ns) H
theorem e_ints {ns : List Int} {σ : St} {H : Hp} {Q : List V -> Hp -> Prop} : tInts ns σ H Q = Q (jz ns) H := rfl
theorem zcy {X : Cx} : ∀ {es : List Expr} {ns : List Int}, bf es = some ns -> PA X es (tInts ns)
  | [], ns, h => by
    cases h;exact zb
  | e :: es, ns, h => by
    unfold bf at h
    cases e with
    | Constant c j p =>
      cases c with
      | int i =>
        cases e2 : bf es with
        | none => rw [e2] at h; cases h
        | some is =>
          rw [e2] at h;cases h;exact za ze (zcy e2)
      | _ => cases h
    | _ => cases h
end L2
namespace L2
open PySem PySem.Spec PyProof.Rows
section
variable {X : Cx}
def rIsB (x y : V) (H : Hp) (Q : VK) : Prop := ∃ b c, x = .bl b /\ y = .bl c /\ Q (.bl (b == c)) H
theorem e_isB {x y : V} {H : Hp} {Q : VK} : rIsB x y H Q = ∃ b c, x = .bl b /\ y = .bl c /\ Q (.bl (b == c)) H := rfl
end
end L2
namespace L2
open PySem PySem.Spec PyProof.Rows
theorem zb1 {α : Type} {l : List α} {k : Nat} {x : α} (h : l[k]? = some x) : l.drop k = x :: l.drop (k + 1) := by
  obtain ⟨hk, e⟩ := Zc.mp h;rw [List.drop_eq_getElem_cons hk, e]
theorem ui {X : Cx} {body : List Stmt} {k : Nat} {st : Stmt} {t ts : TS} (hs : PS X st t) (h : body[k]? = some st) (hr : PSs X (body.drop (k + 1)) ts) : PSs X (body.drop k) (tSeq t ts) := by
  rw [zb1 h];exact zj hs hr
theorem zif {X : Cx} {body : List Stmt} {k : Nat} {st : Stmt} {t : TS} (hs : PS X st t) (h : body[k]? = some st) (hl : body[k + 1]? = none) : PSs X (body.drop k) t := by
  rw [zb1 h, List.drop_eq_nil_of_le (List.getElem?_eq_none_iff.mp hl)];exact zh hs
theorem zhx {X : Cx} {body : List Stmt} {t : TS} (h : PSs X (body.drop 0) t) : PSs X body t := h
end L2
namespace L2
open PySem PySem.Spec PyProof.Rows
section
variable {prog : Program} {w : World} {A : Around} {E : Value -> Shared -> Prop} {s : Shared}
theorem zg5 {t b : Addr} {vs ws : List Value} {Q : Value -> Shared -> Prop} (ht : IsTup s.heap t vs.toArray) (hb : IsTup s.heap b ws.toArray) (hv : vs = []) (h0 : Q (.ref b) s) :
    wpAny (model prog w) A (binaryOp .Add (.ref t) (.ref b)) Q E s := by
  obtain ⟨⟨cls, dd, data, sl⟩, ho, hc, n, hd⟩ := id ht;obtain ⟨⟨cls2, dd2, data2, sl2⟩, ho2, hc2, n2, hd2⟩ := id hb;simp only at hc hd hc2 hd2;subst hc hd hc2 hd2
  exact concat_meets ⟨_, ho, rfl⟩ ⟨_, ho2, rfl⟩ noFill_tuple_add seq_tuple_add PySem.F.slot_tuple_add PySem.F.entry_tuple_add (PySem.F.args_tuple_add_2 _ _)
    (tuple_addW0 t b vs.toArray ws.toArray n n2 dd dd2 sl sl2 (by simp [hv])) ⟨ho, ho2, h0⟩
end
theorem ad {H : Hp} {a : Addr} {o : HO} (n : H a = none) : Same H (upd H a o) := fun b u e => by
  rw [zx (fun z => by rw [z, n] at e; cases e)]; exact e
section
variable {X : Cx}
def rCatH : R2 := fun x y H Q => ∃ a b xs ys, x = .ref a /\ y = .ref b /\ H a = some (.tup xs) /\ H b = some (.tup ys) /\ xs.length + ys.length <= sizeLine /\ ∀ H' p, Same H H' -> H' p = some (.tup (xs ++ ys)) -> Q (.ref p) H'
theorem e_catH {x y : V} {H : Hp} {Q : VK} : rCatH x y H Q = ∃ a b xs ys, x = .ref a /\ y = .ref b /\ H a = some (.tup xs) /\ H b = some (.tup ys) /\ xs.length + ys.length <= sizeLine /\ ∀ H' p, Same H H' -> H' p = some (.tup (xs ++ ys)) -> Q (.ref p) H' := rfl
theorem rb : OpR X (binaryOp .Add) rCatH := by
  intro pins s σ H x y v u Q I rx ry h;obtain ⟨a, b, xs, ys, rfl, rfl, ha, hb, hz, q⟩ := h
  by_cases e1 : xs = []
  . subst e1
    cases rx;cases ry;obtain ⟨its, r1, p1, _⟩ := I.tuple (SqT.of ha);obtain ⟨its2, r2, p2, _⟩ := I.tuple (SqT.of hb);exact zg5 p1 p2 (r1.nil_iff.mpr rfl) ⟨.ref b, H, I, rfl, q H b (Same.refl _) hb⟩
  . refine zh0 pins s σ H (.ref a) (.ref b) v u Q I rx ry ⟨a, b, xs, ys, rfl, rfl, .of ha, .of hb, e1, hz, fun e2 => ?_, fun e2 p hp => ?_⟩
    . subst e2
      exact q H a (Same.refl _) (by rw [ha, Ye])
    . exact q _ p (ad hp) zg
theorem zgg {x : V} {vs : List V} {H : Hp} {Q : VK} : zct x vs H Q = ∃ l b xs zs, x = .ref l /\ vs = [.ref b] /\ H l = some (.lst xs) /\ H b = some (.lst zs) /\ xs.length + zs.length <= sizeLine /\ Q .non (upd H l (.lst (xs ++ zs))) := rfl
end
section
open HT
variable {prog : Program} {w : World} {A : Around} {E : Value -> Shared -> Prop} {s : Shared}
theorem j5 {t sl : Addr} {items : Array Value} {vl vu : Value} {lo hi : Option Int} {Q : Value -> Shared -> Prop} (ht : IsTup s.heap t items) (hs : s.heap.IsSliceOf sl vl vu .none) (pl : IsPart vl lo) (pu : IsPart vu hi)
    (hw : sIx items.size 0 lo = 0 /\ sIx items.size items.size hi = items.size) (h : Q (.ref t) s) : wpAny (model prog w) A (getItem (.ref t) (.ref sl)) Q E s := by
  obtain ⟨os, hos, hcs, hds⟩ := id hs;have hTs : s.TypeIs (.ref sl) "slice" := ⟨os, hos, hcs⟩;unfold getItem
  try with_reducible refine wpAny_holding ?_
  first | refine wpAny_bind (wpAny_pure ?_) | skip
  refine wpAny_bind (wpAny_sequenceKey ht.typeIs (by decide) ?_)
  refine wpAny_bind (wpAny_callSpecial?_slot (name := Str.ofString "__getitem__") ht.typeIs PyProof.Rows.slot_tuple_getitem
    (wpAny_call_entry PyProof.Rows.slot_tuple_getitem ht.typeIs entry_tuple_getitem ?_ (args_tuple_getitem _ _)))
  show wpAny _ _ (Builtin.Tuple.tupleItemsOf (.ref t) >>= _) _ _ s
  refine wpAny_bind (tupleItemsOf_ ht ?_);refine wpAny_bind (wpAny_typeOf hTs ?_);rw [if_pos (by decide)];refine wpAny_bind (nq hs pl pu ?_)
  have hyes : (((sIx items.size 0 lo : Nat) : Int) == 0 && (1 : Int) == 1 && (sIx items.size items.size hi - sIx items.size 0 lo) == items.size) = true := by
    rw [hw.1, hw.2];simp
  show wpAny _ _ (if (((sIx items.size 0 lo : Nat) : Int) == 0 && (1 : Int) == 1 && (sIx items.size items.size hi - sIx items.size 0 lo) == items.size) = true then _ else _) _ _ s
  rw [if_pos hyes];unfold Builtin.Tuple.tupleIsExact;refine wpAny_bind (wpAny_bind (wpAny_typeOf ht.typeIs (wpAny_pure ?_)));rw [if_pos (by decide)];exact wpAny_bind (wpAny_rule (wpAny_pure ⟨_, rfl, wpAny_pure h⟩))
end
section
variable {X : Cx}
def rSlH : V -> Option Int -> Option Int -> Hp -> VK -> Prop := fun x lo hi H Q => ∃ a xs, x = .ref a /\ H a = some (.tup xs) /\ ∀ H' p, Same H H' -> H' p = some (.tup (cutV xs lo hi)) -> Q (.ref p) H'
theorem e_slH {x : V} {lo hi : Option Int} {H : Hp} {Q : VK} : rSlH x lo hi H Q = ∃ a xs, x = .ref a /\ H a = some (.tup xs) /\ ∀ H' p, Same H H' -> H' p = some (.tup (cutV xs lo hi)) -> Q (.ref p) H' := rfl
theorem ju : SlR X rSlH := by
  intro pins s σ H x v vl vu lo hi sl Q I rx hs pl pu h;obtain ⟨a, xs, rfl, hx, q⟩ := h
  by_cases hw : HT.sIx xs.length 0 lo = 0 /\ HT.sIx xs.length xs.length hi = xs.length
  . cases rx
    obtain ⟨its, r, ht, hz⟩ := I.tuple (SqT.of hx);have hlen : its.toArray.size = xs.length := by rw [Zr]; exact r.length.symm
    refine ⟨"tuple", _, PyProof.Rows.slot_tuple_getitem.lookup, ht.typeIs, ?_⟩;refine j5 ht hs pl pu (by rw [hlen]; exact hw) ⟨.ref a, H, I, rfl, q H a (Same.refl _) ?_⟩;rw [hx];unfold cutV;rw [hw.1, hw.2];simp
  . exact zak pins s σ H _ v vl vu lo hi sl Q I rx hs pl pu ⟨a, xs, rfl, .of hx, hw, fun p hp => q _ p (ad hp) zg⟩
theorem e_slT {K : Fg} {x : V} {lo hi : Option Int} {H : Hp} {Q : VK} : rSlT K x lo hi H Q = ∃ a xs, x = .ref a /\ SqT K H a xs /\ ¬ (HT.sIx xs.length 0 lo = 0 /\ HT.sIx xs.length xs.length hi = xs.length) /\ ∀ p, H p = none -> Q (.ref p) (upd H p (.tup (cutV xs lo hi))) := rfl
theorem dc {xs : List V} {k : Nat} (h : k <= xs.length) : cutV xs none (some (k : Int)) = xs.take k := by
  unfold cutV;rw [HT.sIx_none, HT.sIx_nat];simp [YV h]
theorem jl {xs : List V} {k : Nat} (h : k <= xs.length) : cutV xs (some (k : Int)) none = xs.drop k := by
  unfold cutV;rw [HT.sIx_none, HT.sIx_nat, YV h];exact ZG (by rw [Yh]; omega)
end
end L2
namespace L2
open PySem PySem.Spec PyProof.Rows
section
variable {σ : St} {k : Nat} {g : TG} {tt : TT} {te : TE} {H1 : Hp} {Fin : List V -> Hp -> Prop}
theorem ze6 {K : Fg} {a : Addr} {xs : List V} (Pv : Nat -> List V -> Hp -> Prop) (h0 : Pv 0 [] H1) (hz : ∀ i ys H, i <= xs.length -> Pv i ys H -> ys.length <= sizeLine /\ SqL K H a xs)
    (hs : ∀ i x ys H T, xs[i]? = some x -> H T = none -> Pv i ys H -> g (.ref T) (List.replicate k none ++ σ) (upd H T (.tup [.int i, x])) fun σ2 H2 => σ2.drop k = σ /\ tt σ2 H2 fun b H3 => if b = true then te σ2 H3 fun v H4 => Pv (i + 1) (ys ++ [v]) H4 else Pv (i + 1) ys H3)
    (hd : ∀ ys H, Pv xs.length ys H -> Fin ys H) : pq (Ite K a) σ k g tt te H1 Fin := by
  refine ⟨fun i m ys H => m = xs.length - i /\ i <= xs.length /\ Pv i ys H, ⟨xs.length, by simp, ZE _, h0⟩, ?_⟩
  rintro i m ys H ⟨rfl, hi, p⟩
  obtain ⟨q0, qa⟩ := hz i ys H hi p;refine ⟨q0, ?_⟩
  by_cases hlt : i < xs.length
  . refine .inr ⟨⟨xs, xs[i], qa, by simp [hlt]⟩, Pv (i + 1), fun ys' H' p' => ⟨xs.length - (i + 1), by omega, rfl, hlt, p'⟩, fun x H' y => ?_⟩
    obtain ⟨T, x', rfl, hT, rfl, hy⟩ := y;exact hs i x' ys _ T (hy xs qa) hT p
  . have e : i = xs.length := by omega
    subst e;exact .inl ⟨⟨xs, qa, Zm _⟩, hd ys H p⟩
end
end L2
namespace L2
open PySem PySem.Spec PyProof.Rows
theorem cu (l : Addr) (items : Array Value) (n : Nat) (dd : Option Addr) (sl : Array (Option Value)) (x : Value) (e : Value -> Bool) (j : Nat) (hj : j < items.size)
    (hit : e items[j] = true) (hno : ∀ m (hm : m < items.size), m < j -> e items[m] = false) :
    Meets (Builtin.«tuple.index» ⟨[.ref l, x], []⟩)
      (fun A R s => s.heap.get? l = some { cls := .type "tuple", dict := dd, data := .seq items n, slots := sl } /\ (∀ y, y ∈ items -> SeqAt.EqAt A.in1 s y x (e y)) /\ R (.ok (.ret (.int j s.toks))) { s with toks := s.toks + 1 }) :=
  .of_wp fun prog w A R s h => by
    obtain ⟨hp, g, d, tk, os⟩ := s; obtain ⟨hl, he, h⟩ := h
    wp_walk using AutoSeq1.wpAny_loadPart' hl
    show wpAny (model prog w) A.in1 (forIn [:min items.size items.size] ((none, ()) : Option PySem.Fin × Unit) fun (i : Nat) _ => (match items[i]? with
      | some y => do
        let __do_lift <- eqBool y x
        if __do_lift = true then do
            let __do_lift <- retInt (i : Int)
            pure (ForInStep.done (some __do_lift, ()))
          else pure (ForInStep.yield (none, ()))
      | _ => pure (ForInStep.yield (none, ())) : Sem (ForInStep (Option PySem.Fin × Unit)))) _ _ _
    rw [Std.Legacy.Range.forIn_eq_forIn_range'];refine wpAny_forIn_list _ (fun rest b s' => b = (none, ()) /\ s' = (⟨hp, g, d, tk, os⟩ : Shared) /\ ∃ i, i <= j /\ rest = List.range' i (items.size - i)) _ ?turn ?fin _ _ ⟨rfl, rfl, 0, ZE _, by simp [Std.Legacy.Range.size]⟩
    case turn =>
      rintro k rest b s' ⟨rfl, rfl, i, hi, er⟩
      have hlt : i < items.size := by omega
      rw [show items.size - i = (items.size - (i + 1)) + 1 by omega, List.range'_succ] at er
      injection er with e1 e2
      subst e1;have ei : items[k]? = some items[k] := by simp [hlt]
      rw [ei];refine wpAny_bind (he _ (Array.getElem_mem hlt) prog w _ _ ?_)
      by_cases hk : k = j
      . subst hk
        rw [hit, if_pos rfl];refine wpAny_bind ?_;unfold retInt
        wp_walk
        exact ⟨_, rfl, h⟩
      . rw [hno k hlt (by omega)]
        wp_walk
        exact ⟨rfl, rfl, k + 1, by omega, e2⟩
    case fin =>
      rintro b s' ⟨rfl, rfl, i, hi, er⟩
      have : (List.range' i (items.size - i)).length = 0 := by rw [<- er]; rfl
      rw [List.length_range'] at this;omega
section
variable {X : Cx}
structure FirstAt (xs : List V) (y : V) (j : Nat) : Prop where
  flat : y9 y = true
  flats : xs.all y9 = true
  hit : ∃ z, xs[j]? = some z /\ eqV z y = true
  no : ∀ (m : Nat) (z : V), m < j -> xs[m]? = some z -> eqV z y = false
theorem FirstAt.lt {xs : List V} {y : V} {j : Nat} (h : FirstAt xs y j) : j < xs.length := by
  obtain ⟨z, e, _⟩ := h.hit;exact (Zc.mp e).1
theorem fq {xs : List V} {us : List Value} {y z : V} {m : Nat} (r : Vals xs us) (fs : xs.all y9 = true) (e : xs[m]? = some z) (hm : m < us.toArray.size) : eqU y us.toArray[m] = eqV z y := by
  obtain ⟨w, hw, rw'⟩ := r.get e
  have : us.toArray[m] = w := by
    have h2 := (Zc.mp hw).2
    simpa using h2
  rw [this];exact za2 rw' (ZS.mp fs _ (Zi e))
def zb8 (K : Fg) : V -> List V -> Hp -> VK -> Prop := fun x vs H Q => ∃ p xs y j, x = .ref p /\ vs = [y] /\ SqT K H p xs /\ FirstAt xs y j /\ Q (.int (j : Nat)) H
def zcr (K : Fg) : V -> List V -> Hp -> VK -> Prop := fun x vs H Q => ∃ p xs y j, x = .ref p /\ vs = [y] /\ SqL K H p xs /\ FirstAt xs y j /\ Q (.int (j : Nat)) H
theorem zgo {K : Fg} {x : V} {vs : List V} {H : Hp} {Q : VK} : zb8 K x vs H Q = ∃ p xs y j, x = .ref p /\ vs = [y] /\ SqT K H p xs /\ FirstAt xs y j /\ Q (.int (j : Nat)) H := rfl
theorem zgc {K : Fg} {x : V} {vs : List V} {H : Hp} {Q : VK} : zcr K x vs H Q = ∃ p xs y j, x = .ref p /\ vs = [y] /\ SqL K H p xs /\ FirstAt xs y j /\ Q (.int (j : Nat)) H := rfl
theorem zec : MtR X "tuple.index" (zb8 X.K) := by
  intro pins s σ H x vs v us Q I rx rvs h;obtain ⟨p, xs, y, j, rfl, rfl, hq, hF, q⟩ := h;cases rx;obtain ⟨u, rfl, ru⟩ := sv rvs;obtain ⟨its, r, pl, hz⟩ := I.tuple hq;obtain ⟨⟨cls, dd, data, sl⟩, ho, hc, n, hd⟩ := id pl;simp only at hc hd;subst hc hd;have hl := r.length;have hjl : j < its.toArray.size := by rw [Zr, <- hl]; exact hF.lt
  obtain ⟨z, e, hit⟩ := hF.hit;refine call_meets PySem.F.slot_tuple_index ⟨_, ho, rfl⟩ PySem.F.entry_tuple_index (PySem.F.args_tuple_index_2 _ _) (cu p its.toArray n dd sl u (eqU y) j hjl ?_ ?_) ⟨ho, fun w hw => l9 ru hF.flat r hF.flats w (by simpa using hw), ⟨.int j, H, I.tok _, ⟨_, rfl⟩, q⟩⟩
  . rw [fq r hF.flats e]; exact hit
  . intro m hm hmj
    have hml : m < xs.length := by rw [hl]; simpa using hm
    rw [fq r hF.flats (Zb hml)];exact hF.no m _ hmj (Zb hml)
theorem ck : MtR X "list.index" (zcr X.K) := by
  intro pins s σ H x vs v us Q I rx rvs h;obtain ⟨p, xs, y, j, rfl, rfl, hq, hF, q⟩ := h;cases rx;obtain ⟨u, rfl, ru⟩ := sv rvs;obtain ⟨its, r, pl, hz⟩ := I.list hq;obtain ⟨⟨cls, dd, data, sl⟩, ho, hc, n, hd⟩ := id pl.isList;simp only at hc hd;subst hc hd;have hl := r.length;have hjl : j < its.toArray.size := by rw [Zr, <- hl]; exact hF.lt
  have hn := o9;obtain ⟨z, e, hit⟩ := hF.hit;refine call_meets PySem.F.slot_list_index ⟨_, ho, rfl⟩ PySem.F.entry_list_index (PySem.F.args_list_index_2 _ _) (SeqAt.list_indexAt p its.toArray n dd sl u (eqU y) j hjl (by have := hF.lt; omega) ?_ ?_) ⟨ho, fun w hw => l9 ru hF.flat r hF.flats w (by simpa using hw), ⟨.int j, H, I.tok _, ⟨_, rfl⟩, q⟩⟩
  . rw [fq r hF.flats e]; exact hit
  . intro m hm hmj
    have hml : m < xs.length := by rw [hl]; simpa using hm
    rw [fq r hF.flats (Zb hml)];exact hF.no m _ hmj (Zb hml)
end
section
variable {X : Cx}
theorem hu10 {A : Around} {k : Nat} (hr : Room k A) : A.units + 1 < cLine := by have := hu9 hr; omega
def rInK (neg : Bool) : R2 := fun y x H Q => ∃ a o, x = .ref a /\ DGet H a y o /\ Q (.bl (neg ^^ o.isSome)) H
theorem e_inK {neg : Bool} {y x : V} {H : Hp} {Q : VK} : rInK neg y x H Q = ∃ a o, x = .ref a /\ DGet H a y o /\ Q (.bl (neg ^^ o.isSome)) H := rfl
def rSetD : TSet := fun o i v H Q => ∃ a H', o = .ref a /\ DPut H a i v H' /\ Q H'
theorem e_setD {o i v : V} {H : Hp} {Q : Hp -> Prop} : rSetD o i v H Q = ∃ a H', o = .ref a /\ DPut H a i v H' /\ Q H' := rfl
theorem ip (hu : X.A.units + 1 < cLine) : PSet X rSetD := by
  intro pins s σ H o i v ov iv u Q I ro ri rv h;obtain ⟨a, H', rfl, g, q⟩ := h;cases ro;exact ze3 hu I g ri rv fun s4 I4 => ⟨H', I4, q⟩
theorem zhk {σ : St} {H : Hp} {Q : VK} : zex σ H Q = ∀ p, H p = none -> Q (.ref p) (upd H p (.dT [])) := rfl
theorem e_dget {td ty : TE} {σ : St} {H : Hp} {Q : VK} : tDGet td ty σ H Q = td σ H fun x H1 => ty σ H1 fun y H2 => ∃ a v, x = .ref a /\ DGet H2 a y (some v) /\ Q v H2 := rfl
theorem cx {prog : Program} {w : World} (d : Addr) (hd : (d == sysModules) = false) :
    MeetsIn prog w (Builtin.«dict.__len__» ⟨[.ref d], []⟩) (fun _ R s => ∃ o es ep, s.heap.get? d = some o /\ o.data = .dict es ep /\ R (.ok (.ret (.int es.size s.toks))) { s with toks := s.toks + 1 }) :=
  .of_wp fun A R s ⟨o, es, ep, ho, hdat, h⟩ => by
    show wpAny _ _ (dictSize d >>= _) _ _ s
    unfold dictSize;refine wpAny_bind (wpAny_bind (wpAny_dictEntries ho hdat (wpAny_pure ?_)))
    show wpAny _ _ (Builtin.Dict.pendingCount d >>= _) _ _ s
    refine wpAny_bind (wpAny_pendingCount_other hd ?_);refine wpAny_ret_mkInt ?_;rw [Nat.add_zero]; exact h
theorem zhj {prog : Program} {w : World} {A : Around} {E : Value -> Shared -> Prop} {s : Shared} {d : Addr} {o : Obj} {es : Array DictEntry} {ep : Nat} {Q : Value -> Shared -> Prop} (hd : (d == sysModules) = false) (ht : s.TypeIs (.ref d) "dict") (ho : s.heap.get? d = some o) (hdat : o.data = .dict es ep) (hfit : (es.size : Int) < 2 ^ 63)
    (h : Q (.int es.size (s.toks + 1)) { s with toks := s.toks + 1 + 1 }) : wpAny (model prog w) A (call (.builtin "len") [.ref d]) Q E s := by
  refine Calls.call_function_entry kind_len plain_len entry_len (args_len1 _) ?_;unfold Builtin.«len»;refine wpAny_bind (m := oneArg "len" _) (wpAny_pure ?_)
  refine wpAny_bind (m := callSpecial? (.ref d) (Str.ofString "__len__")) (wpAny_callSpecial?_slot (name := Str.ofString "__len__") ht PySem.F.slot_dict_len
    (call_meetsIn PySem.F.slot_dict_len ht PySem.F.entry_dict_len (PySem.F.args_dict_len_1 _) (cx d hd) ⟨o, es, ep, ho, hdat, ?_⟩))
  show wpAny _ _ _ _ _ { s with toks := s.toks + 1 }
  refine wpAny_bind (wpAny_holding (wpAny_pure ?_));refine wpAny_bind (wpAny_letGo ?_)
  show wpAny _ _ (if ((es.size : Nat) : Int) < 0 then _ else _) _ _ _
  rw [if_neg (by omega)]
  show wpAny _ _ (if ((es.size : Nat) : Int) ≥ 2 ^ 63 then _ else _) _ _ _
  rw [if_neg (by omega)];exact wpAny_bind (wpAny_mkInt (wpAny_pure ⟨_, rfl, h⟩))
theorem dl : CallR X (.builtin "len") (fun xs H Q => ∃ a kvs, xs = [V.ref a] /\ H a = some (.dT kvs) /\ Q (.int kvs.length) H) := by
  intro pins s σ H xs us Q I r h;obtain ⟨a, kvs, rfl, ha, q⟩ := h;obtain ⟨u, rfl, ru⟩ := sv r;cases ru;obtain ⟨z, hd, ys, rel, dd⟩ := iz I.hok ha;have ht := dd.typeIs (s := s);obtain ⟨o, es, ep, ho, hc, hdat, he, _⟩ := id dd
  have hl : es.size = kvs.length := by
    rw [size_of_entries he];exact (Paired.length rel).symm
  have hn := o9;refine zhj hd ht ho hdat (by omega) ?_;rw [hl];exact ⟨.int kvs.length, H, I.tok _, ⟨_, rfl⟩, q⟩
end
end L2
namespace L2
open PySem PySem.Spec PyProof.Rows
section
variable {X : Cx}
def tBMT (r : V -> List V -> Hp -> VK -> Prop) (to : TE) (t : TA) : TE := fun σ H Q => to σ H fun x H1 => (∃ p xs, x = .ref p /\ Rd H1 p (.tup xs)) /\ t σ H1 fun xs H2 => r x xs H2 Q
theorem e_BMT {r : V -> List V -> Hp -> VK -> Prop} {to : TE} {t : TA} {σ : St} {H : Hp} {Q : VK} : tBMT r to t σ H Q = to σ H fun x H1 => (∃ p xs, x = .ref p /\ Rd H1 p (.tup xs)) /\ t σ H1 fun xs H2 => r x xs H2 Q := rfl
theorem pe_bmT {o e : Expr} {es : List Expr} {to : TE} {t : TA} {name : Str} {apos cpos : Pos} {id : String} {r : V -> List V -> Hp -> VK -> Prop} (pa : PlainAttrs "tuple") (slot : Slot "tuple" name id) (hty : typeOf (.builtin id) = pure (.type "method_descriptor")) (hm : MtR X id r) (ho : PE X o to) (ha : PA X (e :: es) t)
    (hbase : attributeBase o name X.env (eval o X.env) = eval o X.env := by rfl)
    (hfew : ((backTo cpos (starEach (e :: es) X.env)).all (fun x => !x.1) && (backToKw cpos (keywordEach [] X.env)).all (fun x => x.1.isSome)
      && decide ((e :: es).length + ([] : List Keyword).length + (if ([] : List Keyword).isEmpty then 0 else 1) < 30)) = true := by rfl)
    (hline : (apos.endLine == cpos.line) = true := by rfl) (hs : starEach (e :: es) X.env = (false, eval e X.env) :: starEach es X.env := by rfl) (hplain : (backTo cpos (starEach es X.env)).any (·.1) = false := by rfl) :
    PE X (.Call (.Attribute o name apos) (e :: es) [] cpos) (tBMT r to t) := by
  intro pins s σ H Q I h;refine wpAny_Call_method_late hbase hfew hline rfl (thn (ho pins s σ H _ I h) fun v s1 ⟨x, H1, I1, r1, ⟨p, ys, ex, hp⟩, q1⟩ => ?_);subst ex;obtain rfl : v = Value.ref p := r1;obtain ⟨z, its, rr, ob, e1, c1, n1, d1, f1⟩ := (show ObjOk X.prog X.w H1 s1.heap p (.tup ys) from hp.ok I1.hok);have h1 : s1.TypeIs (.ref p) "tuple" := ⟨ob, e1, c1⟩
  have h2 : ∀ a, Value.ref p = .ref a -> ∃ ob, s1.heap.get? a = some ob /\ ob.dict = none := fun a e => by
    cases e;exact ⟨ob, e1, f1⟩
  refine ⟨"tuple", id, pa, slot, hty, h1, h2, ?_⟩;have hA := ha cpos pins s1 σ H1 _ I1 q1;rw [hs] at hA ⊢;refine Calls.callWith_builtin (by show (false || (backTo cpos (starEach es X.env)).any (·.1)) = false; rw [hplain] <;> rfl) (Calls.evalArgs_plain ?_);exact thn hA fun us s2 ⟨vs, H2, I2, r2, q2⟩ => hm pins s2 σ H2 (.ref p) vs (.ref p) us Q I2 rfl r2 q2
end
end L2
namespace L2
open PySem PySem.Spec PyProof.Rows
theorem zb2 {i : Int} {n : Nat} (h1 : -(2 ^ n) < i) (h2 : i < 2 ^ n) : Builtin.Int.intBits i <= n := by
  unfold Builtin.Int.intBits
  split
  . exact ZE _
  . rename_i h
    have h0 : i ≠ 0 := fun e => h (by rw [e]; rfl)
    have hn : i.natAbs < 2 ^ n := by
      have e : ((2 ^ n : Nat) : Int) = (2 : Int) ^ n := by rw [Int.natCast_pow]; rfl
      have : (i.natAbs : Int) < ((2 ^ n : Nat) : Int) := by rw [e]; omega
      exact_mod_cast this
    exact (Nat.log2_lt (by omega)).mpr hn
def CMulB (i j : Int) : Prop := (-(10 ^ 60) <= i /\ i <= 10 ^ 60) /\ -(10 ^ 60) <= j /\ j <= 10 ^ 60
theorem CMulB.ok {i j : Int} (h : CMulB i j) : IntMulOk i j := by
  have e : (10 : Int) ^ 60 < 2 ^ 200 := by decide
  obtain ⟨⟨a, b⟩, c, d⟩ := h;exact .of_bits (Zd (zb2 (n := 200) (by omega) (by omega)) (by decide)) (Zd (zb2 (n := 200) (by omega) (by omega)) (by decide))
theorem zhu {X : Cx} : OpR X (binaryOp .Mult) (rI CMulB fun i j => .int (i * j)) := opI fun _ _ _ _ _ _ _ hc q => mul_int q hc.ok
end L2
namespace L2
open PySem
def SeqH (h : Heap) (l : Addr) (xs : Array Value) : Prop := ∃ o n, h.get? l = some o /\ o.data = .seq xs n
section
variable {prog : Program} {w : World} {A : Around} {E : Value -> Shared -> Prop} {s : Shared}
end
structure Drw where
  it : Addr
  l : Addr
  xs : Array Value
def DrAt (h : Heap) (d : Drw) (k : Nat) : Prop := (h.IsListIter d.it d.l k \/ h.IsTupleIter d.it d.l k) /\ SeqH h d.l d.xs
theorem DrAt.ext {h h' : Heap} {d : Drw} {k : Nat} (q : DrAt h d k) (h1 : ∀ o, h.get? d.it = some o -> h'.get? d.it = some o) (h2 : ∀ o, h.get? d.l = some o -> h'.get? d.l = some o) : DrAt h' d k := by
  obtain ⟨a, o', n, e', r'⟩ := q;refine ⟨?_, o', n, h2 o' e', r'⟩
  rcases a with ⟨o, e, r⟩ | ⟨o, e, r⟩
  . exact .inl ⟨o, h1 o e, r⟩
  . exact .inr ⟨o, h1 o e, r⟩
theorem DrAt.itAt {h : Heap} {d : Drw} {k : Nat} (q : DrAt h d k) : ∃ o, h.get? d.it = some o /\ o.data = .fields #[.ref d.l, .int k 0] := by
  rcases q.1 with ⟨o, e, c, r⟩ | ⟨o, e, c, r⟩ <;> exact ⟨o, e, r⟩
theorem DrAt.ne {h : Heap} {d : Drw} {k : Nat} (q : DrAt h d k) : d.l ≠ d.it := fun e => by
  obtain ⟨o, e1, r1⟩ := q.itAt;obtain ⟨o', n, e2, r2⟩ := q.2;rw [e, e1] at e2;cases e2;rw [r1] at r2;cases r2
section
variable {prog : Program} {w : World} {A : Around} {E : Value -> Shared -> Prop} {s : Shared}
end
def SrcAt (h : Heap) (b : Bool) (l : Addr) (xs : Array Value) : Prop := if b = true then h.IsList l xs else h.IsTuple l xs
def itObj (b : Bool) (l : Addr) : Obj := { cls := .type (if b = true then "list_iterator" else "tuple_iterator"), data := .fields #[.ref l, .int 0 0] }
theorem SrcAt.push {h : Heap} {b : Bool} {l : Addr} {xs : Array Value} (q : SrcAt h b l xs) (o : Obj) : SrcAt (h.push o) b l xs := by
  cases b
  . obtain ⟨p, e, r⟩ := (show h.IsTuple l xs from q)
    exact ⟨p, Heap.get?_push_of_some _ e, r⟩
  . obtain ⟨p, e, r⟩ := (show h.IsList l xs from q)
    exact ⟨p, Heap.get?_push_of_some _ e, r⟩
theorem DrAt.start {h : Heap} {b : Bool} {n l : Addr} {xs : Array Value} (e : h.get? n = some (itObj b l)) (q : SrcAt h b l xs) : DrAt h ⟨n, l, xs⟩ 0 := by
  cases b
  . obtain ⟨o, e', c, n, r⟩ := (show h.IsTuple l xs from q)
    exact ⟨.inr ⟨_, e, rfl, rfl⟩, o, n, e', r⟩
  . obtain ⟨o, e', c, n, r⟩ := (show h.IsList l xs from q)
    exact ⟨.inl ⟨_, e, rfl, rfl⟩, o, n, e', r⟩
theorem SrcAt.keeps {h h' : Heap} {b : Bool} {l : Addr} {xs : Array Value} (q : SrcAt h b l xs) (k : ∀ c o, h.get? c = some o -> h'.get? c = some o) : SrcAt h' b l xs := by
  cases b
  . obtain ⟨p, e, r⟩ := (show h.IsTuple l xs from q)
    exact ⟨p, k _ _ e, r⟩
  . obtain ⟨p, e, r⟩ := (show h.IsList l xs from q)
    exact ⟨p, k _ _ e, r⟩
section
variable {prog : Program} {w : World} {A : Around} {E : Value -> Shared -> Prop} {s : Shared}
end
end L2
namespace L2
open PySem PySem.Spec PyProof.Rows
section
variable {X : Cx} {pins : List (Addr × Obj)} {σ : St} {H : Hp} {s : Shared}
end
theorem Vals.three {x y z : V} {us : List Value} (r : Vals [x, y, z] us) : ∃ u v w, us = [u, v, w] /\ RelV x u /\ RelV y v /\ RelV z w := by
  cases r with
  | cons r1 r => cases r with
    | cons r2 r => cases r with
      | cons r3 r =>
        cases r;exact ⟨_, _, _, rfl, r1, r2, r3⟩
section
variable {σ : St} {k : Nat} {g : TG} {tt : TT} {te : TE} {H1 : Hp} {Fin : List V -> Hp -> Prop}
end
end L2
namespace L2
open PySem PySem.Spec PyProof.Rows
section
variable {prog : Program} {w : World} {K : Type} [DecidableEq K] {knd : KeyKind prog w K}
end
end L2
namespace L2
open PySem PySem.Spec PyProof.Rows
section
variable {X : Cx} {pins : List (Addr × Obj)} {σ : St} {H : Hp} {s : Shared}
end
end L2
namespace L2
open PySem
end L2
namespace L2
open PySem PySem.Spec PyProof.Rows
section
variable {X : Cx} {pins : List (Addr × Obj)} {σ : St} {H : Hp} {k : Nat} {f : Addr} {fd : FuncData} {ps : List Str} {sp : Sp}
end
end L2
namespace L2
open PySem PySem.Spec PyProof.Rows
section
variable {X : Cx}
end
end L2
namespace L2
open PySem PySem.Spec PyProof.Rows
section
variable {X : Cx}
theorem di {y : V} : ∀ {xs : List V} {us : List Value}, Vals xs us -> xs.all y9 = true -> us.countP (eqU y) = xs.countP fun z => eqV z y
  | _, _, .nil, _ => rfl
  | _, _, .cons r rr, f => by
    rw [YM, Bool.and_eq_true] at f;rw [YS, YS, di rr f.2, za2 r f.1]
end
end L2
namespace L2
open PySem PySem.Spec PyProof.Rows
section
variable {X : Cx} {pins : List (Addr × Obj)} {σ : St} {H2 : Hp} {s₂ : Shared} {scope : Scope} {ts N2 : List Str} {cl : List (Str × Addr)} {C D : Addr} {fp : List Addr}
end
end L2
namespace L2
open PySem PySem.Spec PyProof.Rows
end L2
namespace L2
open PySem PySem.Spec PyProof.Rows
section
variable {X : Cx}
end
end L2
namespace L2
open PySem PySem.Spec PyProof.Rows
section
variable {M : Model} {A : Around} {E : Value -> Shared -> Prop} {s : Shared}
end
section
variable {X : Cx} {pins : List (Addr × Obj)} {σ : St} {H : Hp} {s : Shared}
end
section
variable {X : Cx} {pins : List (Addr × Obj)} {σ : St} {H2 : Hp} {s₂ : Shared} {scope : Scope} {ts N2 : List Str} {cl : List (Str × Addr)} {C D : Addr} {fp : List Addr}
end
end L2
namespace L2
open PySem PySem.Spec PyProof.Rows
section
variable {X : Cx}
end
end L2
namespace L2
open PySem PySem.Spec PyProof.Rows
end L2
namespace L2
open PySem PySem.Spec PyProof.Rows
def TupIn (K : Fg) (mg : Str -> Option Value) (name : Str) (xs : List V) : Prop := ∃ p, mg name = some (.ref p) /\ ∀ H, SqT K H p xs
theorem tup_mk {K : Fg} {h : Heap} {mg : Str -> Option Value} (X : K.In h) (G : h.Ns mainGlobals mg) {name : Str} {p : Addr} {od : Option Addr} {its : Array Value} {n : Nat} {osl : Array (Option Value)} {xs : List V} (e : PySem.W.nsIn K mainGlobals name = some (some (.ref p))) (l : K.lookup p = some ⟨.type "tuple", od, .seq its n, osl⟩) (hz : its.size <= sizeLine) (r : Vals xs its.toList) : TupIn K mg name xs :=
  ⟨p, PySem.W.mg_of X G e, fun H => .inr ⟨_, its, n, l, rfl, rfl, hz, r⟩⟩
end L2
namespace L2
open PySem PySem.Spec PyProof.Rows
section
variable {X : Cx}
end
section
variable {a b c d t e u : TS} {tc : TT} {D : Ends} {σ : L2.St} {H : Hp}
theorem uo (h : ∀ T : TS, T = t -> tSeq a T D σ H) : tSeq a t D σ H := h t rfl
theorem j2 (h : ∀ T : TS, T = t -> tSeq a (tSeq b T) D σ H) : tSeq a (tSeq b t) D σ H := h t rfl
theorem hide4 (h : ∀ T : TS, T = t -> tSeq a (tSeq b (tSeq c (tSeq d T))) D σ H) : tSeq a (tSeq b (tSeq c (tSeq d t))) D σ H := h t rfl
theorem hideL (h : ∀ T U : TS, T = t -> U = u -> tSeq (tIfS tc T e) U D σ H) : tSeq (tIfS tc t e) u D σ H := h t u rfl rfl
end
end L2
namespace L2
open PySem PySem.Spec PyProof.Rows
section
variable {P : Program} {w : World} {A : Around} {E : Value -> Shared -> Prop} {s : Shared}
def RawAt (h : Heap) (d : Addr) (es : Array DictEntry) (ep : Nat) : Prop := ∃ o, h.get? d = some o /\ o.ExactDict /\ o.data = .dict es ep
theorem RawAt.ty {d : Addr} {es : Array DictEntry} {ep : Nat} (x : RawAt s.heap d es ep) : s.TypeIs (.ref d) "dict" := let ⟨o, ho, hc, _⟩ := x; ⟨o, ho, hc.1⟩
theorem RawAt.mv {h h' : Heap} {d : Addr} {es : Array DictEntry} {ep : Nat} (x : RawAt h d es ep) (k : ∀ o, h.get? d = some o -> h'.get? d = some o) : RawAt h' d es ep := let ⟨o, ho, r⟩ := x; ⟨o, k _ ho, r⟩
theorem zgu {d : Addr} {es : Array DictEntry} {ep : Nat} {Q : Value -> Shared -> Prop} (hd : (d == sysModules) = false) (hm : RawAt s.heap d es ep)
    (hQ : Q (.ref s.heap.objs.size) { s with heap := s.heap.push { cls := .type "dict_keyiterator", data := .fields #[.ref d, .int 0 0, .int es.size 0, .int ep 0] } }) :
    wpAny (model P w) A (pyIter (.ref d)) Q E s := by
  obtain ⟨o, ho, hc, hdat⟩ := id hm;refine wpAny_pyIter_slot hm.ty F.slot_dict_iter (wpAny_call_entry F.slot_dict_iter hm.ty F.entry_dict_iter ?_ (F.args_dict_iter_1 _));unfold Builtin.«dict.__iter__»;refine wpAny_bind ?_;unfold Builtin.Dict.dictSlotNone;refine wpAny_bind (wpAny_notOrdered_dict hm.ty ?_)
  show wpAny _ _ (pure (Value.ref d)) _ _ s
  refine wpAny_pure ?_
  show wpAny _ _ (Builtin.Dict.showsAll d >>= _) _ _ s
  unfold Builtin.Dict.showsAll;rw [if_neg (by rw [hd]; exact Bool.false_ne_true)];refine wpAny_bind (wpAny_pure (wpAny_bind (wpAny_dictEntries ho hdat (wpAny_bind (wpAny_dictEpoch ho hdat ?_)))));refine wpAny_bind (wpAny_newObj_type (wpAny_pure ⟨_, rfl, "dict_keyiterator", _, ⟨_, Heap.get?_push_size _ rfl, rfl⟩, F.slot_dict_keyiterator_next.lookup, ?_⟩))
  simpa [rawInt] using hQ
theorem zhc {it d : Addr} {i ep : Nat} {es : Array DictEntry} {Q : Option Value -> Shared -> Prop} (hit : s.heap.IsKeyIter it d i es.size ep) (hm : RawAt s.heap d es ep) (hi : i < es.size)
    (hQ : ∀ h', h'.IsKeyIter it d (i + 1) es.size ep -> Heap.SameBut it s.heap h' -> Q (some es[i].key) { s with heap := h' }) : wpAny (model P w) A (pyNext (.ref it)) Q E s := by
  obtain ⟨o, ho, hc, hd⟩ := id hit;obtain ⟨od, hod, hcd, hdd⟩ := id hm;have hown : Builtin.Dict_items.ownsTuple "dict_keyiterator" = false := by decide
  unfold pyNext
  refine wpAny_bind (wpAny_attempt (wpAny_callSpecial?_slot (name := Str.ofString "__next__") hit.typeIs F.slot_dict_keyiterator_next
    (wpAny_call_entry F.slot_dict_keyiterator_next hit.typeIs F.entry_dict_keyiterator_next ?_ (F.args_dict_keyiterator_next_1 _))))
  refine wpAny_bind (wpAny_pure (wpAny_bind (wpAny_bind ?_)))
  first | refine wpAny_bind (wpAny_typeNameOfWhole_keyiter hit.typeIs (wpAny_pure ?_)) | refine wpAny_bind (wpAny_typeNameOf_keyiter hit.typeIs (wpAny_pure ?_))
  refine wpAny_bind (wpAny_fieldsOf ho hd ?_);simp only [hown, Bool.false_eq_true, if_false]
  show wpAny _ _ (if (Value.ref d == Value.none) = true then _ else _) _ _ s
  rw [if_neg (show ¬ ((Value.ref d == Value.none) = true) from Bool.false_ne_true)];refine wpAny_bind (wpAny_pure (wpAny_bind (wpAny_dictEntries hod hdd ?_)));rw [if_neg (by simp)];refine wpAny_bind (wpAny_pure (wpAny_bind (wpAny_dictEpoch hod hdd ?_)));rw [if_neg (by simp)];refine wpAny_pure ?_;simp only [show ¬ ((i : Int) < 0) from by omega, if_false, Zw, Array.getElem?_eq_getElem hi];refine wpAny_bind ?_
  first | refine wpAny_bind (wpAny_typeNameOfWhole_keyiter hit.typeIs (wpAny_pure ?_)) | refine wpAny_bind (wpAny_typeNameOf_keyiter hit.typeIs (wpAny_pure ?_))
  refine wpAny_bind (wpAny_isOneOf_keyiter hit.typeIs ?_)
  show wpAny _ _ (setField (.ref it) 1 (rawInt ((i : Int) + 1)) >>= _) _ _ s
  refine wpAny_bind (wpAny_setField ho hd (by simp) ?_)
  have hit' : (s.heap.update it (Obj.mapFields (·.setIfInBounds 1 (rawInt ((i : Int) + 1))))).IsKeyIter it d (i + 1) es.size ep :=
    ⟨_, Heap.get?_update_self _ ho (Obj.isFreed_of_fields (Obj.data_mapFields hd _)), (Obj.cls_mapFields ..).trans hc, by rw [Obj.data_mapFields hd]; simp [rawInt]⟩
  refine wpAny_bind (wpAny_holding (wpAny_bind (wpAny_isOneOf_keyiter (s := { s with heap := s.heap.update it (Obj.mapFields (·.setIfInBounds 1 (rawInt ((i : Int) + 1)))) }) hit'.typeIs ?_)))
  show wpAny _ _ (pure es[i].key) _ _ _
  exact wpAny_pure (wpAny_pure ⟨_, rfl, wpAny_pure (hQ _ hit' (Heap.SameBut.update ..))⟩)
theorem zh5 {it d : Addr} {ep : Nat} {es : Array DictEntry} {Q : Option Value -> Shared -> Prop} (hh : A.handled = none) (hit : s.heap.IsKeyIter it d es.size es.size ep) (hm : RawAt s.heap d es ep)
    (hQ : ∀ h', Heap.ExtBut it s.heap h' -> Q none { s with heap := h' }) : wpAny (model P w) A (pyNext (.ref it)) Q E s := by
  obtain ⟨o, ho, hc, hd⟩ := id hit;obtain ⟨od, hod, hcd, hdd⟩ := id hm;have hown : Builtin.Dict_items.ownsTuple "dict_keyiterator" = false := by decide
  unfold pyNext
  refine wpAny_bind (wpAny_attempt (wpAny_callSpecial?_slot (name := Str.ofString "__next__") hit.typeIs F.slot_dict_keyiterator_next
    (wpAny_call_entry F.slot_dict_keyiterator_next hit.typeIs F.entry_dict_keyiterator_next ?_ (F.args_dict_keyiterator_next_1 _))))
  refine wpAny_bind (wpAny_pure (wpAny_bind (wpAny_bind ?_)))
  first | refine wpAny_bind (wpAny_typeNameOfWhole_keyiter hit.typeIs (wpAny_pure ?_)) | refine wpAny_bind (wpAny_typeNameOf_keyiter hit.typeIs (wpAny_pure ?_))
  refine wpAny_bind (wpAny_fieldsOf ho hd ?_);simp only [hown, Bool.false_eq_true, if_false]
  show wpAny _ _ (if (Value.ref d == Value.none) = true then _ else _) _ _ s
  rw [if_neg (show ¬ ((Value.ref d == Value.none) = true) from Bool.false_ne_true)];refine wpAny_bind (wpAny_pure (wpAny_bind (wpAny_dictEntries hod hdd ?_)));rw [if_neg (by simp)];refine wpAny_bind (wpAny_pure (wpAny_bind (wpAny_dictEpoch hod hdd ?_)));rw [if_neg (by simp)];refine wpAny_pure ?_;simp only [show ¬ ((es.size : Int) < 0) from by omega, if_false, Zw, Array.getElem?_eq_none (Zm es.size)];refine wpAny_bind ?_
  first | refine wpAny_bind (wpAny_typeNameOfWhole_keyiter hit.typeIs (wpAny_pure ?_)) | refine wpAny_bind (wpAny_typeNameOf_keyiter hit.typeIs (wpAny_pure ?_))
  show wpAny _ _ (setField (.ref it) 0 .none >>= _) _ _ s
  refine wpAny_bind (wpAny_setField ho hd (by simp) ?_)
  show wpAny _ _ (newExc (.type "StopIteration") [] >>= _) _ _ _
  refine wpAny_bind ?_;simp only [newExc, newTuple];refine wpAny_bind (wpAny_newObj_type ?_ (by size_fits));refine wpAny_bind (m := firstArgMember _ _) (wpAny_of_eq (a := Value.none) (by first | rfl | (simp only [firstArgMember]; rfl)) ?_);refine wpAny_newObj_type ?_ (by size_fits);simp only [raiseNew];refine wpAny_bind (wpAny_handled ?_);rw [show A.in1.handled = none from hh];refine wpAny_bind (wpAny_pure (wpAny_throw ?_));refine wpAny_bind (wpAny_isInstance (T := "StopIteration") (b := true) ⟨_, Heap.get?_push_size _ rfl, rfl⟩ isSubtype_stop ?_);exact wpAny_pure (hQ _ (((Heap.SameBut.update ..).extBut.push _).push _))
theorem zfp (hh : A.handled = none) (I d : Addr) (hne : d ≠ I) (es : Array DictEntry) (ep : Nat) :
    Walks P w A I [I, d] [I] es.size (fun i v => ∃ e, es[i]? = some e /\ v = e.key) (fun i h => h.IsKeyIter I d i es.size ep /\ RawAt h d es ep) where
  sub := fun b hb => by simp at hb; simp [hb]
  frame := fun _ _ _ st hk => ⟨st.1.at fun o e => hk I (by simp) o e, st.2.mv fun o e => hk d (by simp) o e⟩
  item := fun i s Q E hi st hQ => zhc st.1 st.2 hi fun h' hit' hs' =>
    hQ _ h' s.toks ⟨es[i], by simp [hi], rfl⟩ ⟨hit', st.2.mv fun o e => hs'.extBut d o hne e⟩ fun b o hb e => hs'.extBut b o (fun h => hb (by simp [h])) e
  done := fun s Q E st hQ => zh5 hh st.1 st.2 fun h' he' => hQ h' s.toks fun b o hb e => he' b o (fun h => hb (by simp [h])) e
  self := fun _ _ _ _ st hQ => wpAny_pyIter_keyiter st.1 hQ
theorem zhh {d : Addr} {es : Array DictEntry} {ep : Nat} (lo : (d == sysModules) = false) :
    PySem.W.KdlSrc P w "dict" d d es.size (fun i v => ∃ e, es[i]? = some e /\ v = e.key) (fun h => RawAt h d es ep) where
  type := fun _ hm => hm.ty
  there := fun _ ⟨_, ho, _⟩ => ⟨Heap.lt_size ho, Heap.lt_size ho⟩
  keep := fun _ _ hm hk => hm.mv fun o e => hk d (.inl rfl) o e
  notList := by decide
  notTuple := by decide
  hint := fun _ _ _ _ hm hq => PySem.W.kdl_hint_dict hm.ty hq
  iter := fun _ _ hh hm => ⟨_, _, (fun _ _ hq => zgu lo hm hq), zfp hh _ d (let ⟨_, ho, _⟩ := hm; Zs (Heap.lt_size ho)) es ep, ⟨⟨_, Heap.get?_push_size _ rfl, rfl, rfl⟩, hm.mv fun o e => Heap.get?_push_of_some _ e⟩⟩
end
def jq (H : Hp) (kvs : List (List Key × V)) (as : List Addr) : Prop := Paired (fun (p : List Key × V) (a : Addr) => H a = some (.tup (p.1.map kV))) kvs as
def zfz (xs : List V) (H : Hp) (Q : VK) : Prop := ∃ (a : Addr) (kvs : List (List Key × V)), xs = [.ref a] /\ H a = some (.dT kvs) /\ ∀ as, jq H kvs as -> ∀ p, H p = none -> Q (.ref p) (upd H p (.lst (as.map V.ref)))
theorem zik {xs : List V} {H : Hp} {Q : VK} : zfz xs H Q = ∃ (a : Addr) (kvs : List (List Key × V)), xs = [.ref a] /\ H a = some (.dT kvs) /\ ∀ as, jq H kvs as -> ∀ p, H p = none -> Q (.ref p) (upd H p (.lst (as.map V.ref))) := rfl
section
variable {X : Cx}
theorem gb (hc : X.calm = true) : CallR X (.type "list") zfz := by
  intro pins s σ H xs us Q I r h;obtain ⟨a, kvs, rfl, ha, q⟩ := h;obtain ⟨u, rfl, ru⟩ := sv r;obtain rfl : u = Value.ref a := ru;obtain ⟨z, hd, ys, rel, dd⟩ := iz I.hok ha;obtain ⟨o, es, ep, ho, hce, hdat, he, _⟩ := id dd
  have hl : es.size = kvs.length := by
    rw [size_of_entries he];exact (Paired.length rel).symm
  have hk : jq H kvs (ys.map fun y => y.2.1) := by
    have go : ∀ {l : List (List Key × V)} {m : List (List Key × Addr × Value)}, KT H l m -> jq H l (m.map fun y => y.2.1) := by
      intro l m t
      induction t with
      | nil => exact .nil
      | cons h _ ih => exact .cons h.2.1 ih
    exact go rel
  refine PySem.W.kdl_call (zhh hd) (I.ok.hd hc) ⟨o, ho, hce, hdat⟩ (by omega) fun h' tk acc' c' kp e hacc => ?_
  have hv : acc'.toList = ys.map fun y => Value.ref y.2.1 := by
    refine List.ext_getElem? fun i => ?_
    rcases Nat.lt_or_ge i es.size with hi | hi
    . have hs : acc'.size = es.size := hacc.1
      have h1 : acc'[i]? = some acc'[i] := by simp [hs, hi]
      obtain ⟨e, h2, h3⟩ := hacc.2 i _ h1;rw [entry_at he] at h2;rw [Ze, Array.getElem?_toList, h1, h3]
      cases hy : ys[i]? with
      | none => rw [hy] at h2; cases h2
      | some y => rw [hy] at h2; cases h2; rfl
    . have hs : acc'.size = es.size := hacc.1
      rw [YD (by simp; omega), YD (by rw [Za, <- size_of_entries he]; exact hi)]
  refine ⟨.ref s.heap.objs.size, _, I.laid (t' := tk) kp (Zm _) (show ObjOk X.prog X.w _ h' _ (.lst ((ys.map fun y => y.2.1).map V.ref)) from ⟨?_, ys.map fun y => Value.ref y.2.1, c', ?_, ?_⟩), rfl, q _ hk _ (I.hok.fresh (Zm _))⟩
  . rw [Za, Za, <- size_of_entries he]; omega
  . generalize ys = m
    induction m with
    | nil => exact .nil
    | cons y m ih => exact .cons rfl ih
  . rw [e, <- hv]
end
theorem zd8 (n : Nat) : sliceRange ((n : Int) - 1) (-1) (-1) = (List.range n).map fun k => n - 1 - k := by
  unfold sliceRange;simp only [show ¬ ((-1 : Int) > 0) by decide, if_false, show - (-1 : Int) = 1 by decide, Int.ediv_one]
  have hc : (if ((n : Int) - 1 > -1) then ((n : Int) - 1 - -1 - -1 - 1) else 0).toNat = n := by
    split <;> omega
  rw [hc];refine Yj fun k _ => ?_
  omega
theorem zck {α β : Type} {f : α -> Option β} {g : α -> β} : ∀ {l : List α}, (∀ a ∈ l, f a = some (g a)) -> l.filterMap f = l.map g
  | [], _ => rfl
  | a :: l, h => by rw [Yr, h a (by simp), ZL, zck fun b hb => h b (by simp [hb])]
theorem zfa (its : List Value) : slicePick its.toArray none none (some (-1)) = its.reverse.toArray := by
  have hb : sliceBounds none none (some (-1)) its.toArray.size = (((its.length : Nat) : Int) - 1, -1, -1) := by simp [sliceBounds]
  unfold slicePick;rw [hb, zd8, List.filterMap_map]
  congr 1
  rw [zck (g := fun k => its.getD (its.length - 1 - k) .none) fun k hk => ?_]
  . refine List.ext_getElem (by simp) fun i h1 h2 => ?_
    have hi : i < its.length := by simpa using h2
    have hj : its.length - 1 - i < its.length := by omega
    simp [Zb hj]
  . have hi : k < its.length := ZU.mp hk
    have hj : its.length - 1 - k < its.length := by omega
    simp [Zb hj]
section
variable {X : Cx} {e st : Expr} {te : TE} {ts : TO} {pos p2 : Pos}
def tDown (K : Fg) (te : TE) (ts : TO) : TE := fun σ H Q => te σ H fun x H1 => ts σ H1 fun k H2 => k = some (-1) /\ ∃ a xs, x = .ref a /\ SqL K H2 a xs /\ ∀ p, H2 p = none -> Q (.ref p) (upd H2 p (.lst xs.reverse))
theorem zgj {xs : List V} {vs : List Value} (r : Vals xs vs) : Vals xs.reverse vs.reverse := by
  induction r with
  | nil => exact .nil
  | @cons x v xs vs h _ ih =>
    rw [Yx, Yx];exact ih.append (.cons h .nil)
theorem zih (he : PE X e te) (hs : PO X (some st) ts) : PE X (.Subscript e (.Slice none none (some st) p2) pos) (tDown X.K te ts) := by
  intro pins s σ H Q I h;refine Subscript_ (thn (he pins s σ H _ I h) fun v s1 ⟨x, H1, I1, r1, q1⟩ => ?_);refine wpAny_Slice ?_;rw [evalPart_none];refine wpAny_pure (wpAny_pure ?_);refine thn (hs pins s1 σ H1 _ I1 q1) fun vk s3 ⟨k, H3, I3, pk, q3⟩ => ?_
  obtain ⟨rfl, a, xs, rfl, hx, q⟩ := q3;cases r1;have I4 : Inv X pins σ H3 { s3 with heap := s3.heap.push { cls := .type "slice", data := .fields #[.none, .none, vk] } } := I3.kept (t' := s3.toks) fun b ob q => Heap.get?_push_of_some _ q
  obtain ⟨its, r, ht, hz⟩ := I4.list hx;have hlen := r.length
  show wpAny (model X.prog X.w) X.A (subscriptTail e (.Slice none none (some st) p2) (.ref a) (.ref s3.heap.objs.size)) (EP X pins σ Q) X.xe { s3 with heap := s3.heap.push { cls := .type "slice", data := .fields #[.none, .none, vk] } }
  refine tail_any (ops := [.ref a, .ref s3.heap.objs.size]) ht.isList.typeIs slot_list_getitem.lookup ?_ (by with_unfolding_all rfl);refine wpAny_getItem_list_slice ht.isList (Heap.IsSliceOf.new ..) .none .none pk (by simp) ?_ (by rw [Zr] <;> omega);rw [zfa];refine ⟨.ref _, _, I4.laid (t' := s3.toks) (o := .lst xs.reverse) (fun b ob q => Heap.get?_push_of_some _ q) (Zm _) ?_, rfl, q _ (I4.hok.fresh (Zm _))⟩;exact ⟨by rw [Yd]; exact hz, _, 0, zgj r, Heap.get?_push_size _ rfl⟩
theorem e_down {K : Fg} {σ : St} {H : Hp} {Q : VK} : tDown K te ts σ H Q = te σ H fun x H1 => ts σ H1 fun k H2 => k = some (-1) /\ ∃ a xs, x = .ref a /\ SqL K H2 a xs /\ ∀ p, H2 p = none -> Q (.ref p) (upd H2 p (.lst xs.reverse)) := rfl
end
def zc3 (K : Fg) : V -> List V -> Hp -> VK -> Prop := fun x vs H Q => ∃ p xs y, x = .ref p /\ vs = [y] /\ SqL K H p xs /\ y9 y = true /\ xs.all y9 = true /\ Q (.int ((xs.countP fun z => eqV z y : Nat) : Int)) H
theorem zgz {K : Fg} {x : V} {vs : List V} {H : Hp} {Q : VK} : zc3 K x vs H Q = ∃ p xs y, x = .ref p /\ vs = [y] /\ SqL K H p xs /\ y9 y = true /\ xs.all y9 = true /\ Q (.int ((xs.countP fun z => eqV z y : Nat) : Int)) H := rfl
theorem zf9 {X : Cx} : MtR X "list.count" (zc3 X.K) := by
  intro pins s σ H x vs v us Q I rx rvs h;obtain ⟨p, xs, y, rfl, rfl, hq, hF, hFs, q⟩ := h;cases rx;obtain ⟨u, rfl, ru⟩ := sv rvs;obtain ⟨its, r, pl, hz⟩ := I.list hq;obtain ⟨⟨cls, dd, data, sl⟩, ho, hc, n, hd⟩ := id pl.isList;simp only at hc hd;subst hc hd;refine call_meets PySem.F.slot_list_count ⟨_, ho, rfl⟩ PySem.F.entry_list_count (PySem.F.args_list_count_2 _ _) (SeqAt.list_countAt p its.toArray n dd sl u (eqU y)) ⟨ho, fun w hw => l9 ru hF r hFs w (by simpa using hw), ⟨.int _, H, I.tok _, ⟨_, rfl⟩, ?_⟩⟩
  have e : its.toArray.toList.countP (eqU y) = xs.countP fun z => eqV z y := by
    rw [List.toList_toArray];exact di r hFs
  rw [e];exact q
end L2
namespace L2
open PySem PySem.Spec PyProof.Rows
section
variable {X : Cx} {tg : Expr}
end
end L2
namespace L2
open PySem PySem.Spec PyProof.Rows
section
variable {prog : Program} {w : World} {K : Type} [DecidableEq K] {knd : KeyKind prog w K}
end
section
variable {X : Cx} {pins : List (Addr × Obj)} {σ : St} {H : Hp} {s : Shared}
end
end L2
namespace L2
open PySem PySem.Spec PyProof.Rows
section
variable {prog : Program} {w : World} {K : Type} [DecidableEq K] {knd : KeyKind prog w K} {A : Around} {E : Value -> Shared -> Prop} {s : Shared}
theorem zdl {nm : String} {a b : Addr} {ka kb : List (List K × Addr × Value)} {Q : Bool -> Shared -> Prop} (ha : (a == sysModules) = false) (hb : (b == sysModules) = false) (hu : (tupleKind knd).room A)
    (da : s.heap.DictOfH (tupleKind knd) a ka) (db : s.heap.DictOfH (tupleKind knd) b kb) (hl : ka.length = kb.length)
    (hits : ∀ (i : Nat) (x : List K × Addr × Value), ka[i]? = some x -> ∃ y, kb[i]? = some (x.1, y) /\ SeqAt.EqAt A s x.2.2 y.2 true) (h : Q true s) :
    wpAny (model prog w) A (Builtin.Dict.samePairs nm a b) Q E s := by
  obtain ⟨oa, es, ep, hoa, _, hda, hea, hka, hna⟩ := da;obtain ⟨ob, es', ep', hob, _, hdb, heb, hkb, hnb⟩ := db;have hla : es.size = ka.length := size_of_entries hea;have hlb : es'.size = kb.length := size_of_entries heb;unfold Builtin.Dict.samePairs Builtin.Dict.showsAll;rw [if_neg (show ¬ (a == sysModules) = true by rw [ha]; exact Bool.false_ne_true), if_neg (show ¬ (b == sysModules) = true by rw [hb]; exact Bool.false_ne_true)];refine wpAny_bind (wpAny_pure (wpAny_bind (wpAny_pure ?_)));refine wpAny_bind (wpAny_dictEntries hoa hda ?_);dsimp only;refine wpAny_bind (wpAny_dictEntries hob hdb ?_);rw [if_neg (by rw [hla, hlb, hl]; simp)];refine wpAny_bind (wpAny_dictEpoch hoa hda ?_);refine wpAny_bind ?_;rw [Std.Legacy.Range.forIn_eq_forIn_range'];simp only [Std.Legacy.Range.size, Nat.sub_zero, Nat.add_sub_cancel, Nat.div_one]
  refine wpAny_forIn_list _
    (fun rest q s' => s' = s /\ q = (none, ()) /\ ∃ i, rest = List.range' i (es.size - i) /\ i <= es.size)
    _ ?_ ?_ _ _ ⟨rfl, rfl, 0, by simp, ZE _⟩
  . rintro x rest q s' ⟨rfl, rfl, i, hr, hi⟩
    have hlt : i < es.size := by
      rcases Nat.lt_or_ge i es.size with h | h
      . exact h
      . rw [Nat.sub_eq_zero_of_le h] at hr; simp at hr
    obtain ⟨rfl, hrest⟩ : x = i /\ rest = List.range' (i + 1) (es.size - (i + 1)) := by
      have e : es.size - i = (es.size - (i + 1)) + 1 := by omega
      rw [e, List.range'_succ] at hr
      injection hr with h1 h2
      exact ⟨h1, h2⟩
    refine wpAny_bind (wpAny_dictEntries hoa hda ?_);have hlt' : x < ka.length := by rw [<- hla]; exact hlt
    obtain ⟨k, c, v, ek⟩ : ∃ k c v, ka[x]? = some (k, c, v) := ⟨_, _, _, Zb hlt'⟩;obtain ⟨e, ee, ek1, ek2, ek3⟩ : ∃ e : DictEntry, es[x]? = some e /\ e.key = .ref c /\ e.hash = (tupleKind knd).hash k /\ e.val = v := ⟨entryOfKey (tupleKind knd) (k, c, v), by rw [entry_at hea, ek]; rfl, rfl, rfl, rfl⟩;rw [ee];obtain ⟨y, hy, he⟩ := hits x _ ek
    show wpAny _ _ (holding [e.key, e.val] _ >>= _) _ _ _
    rw [ek1, ek2, ek3];refine wpAny_bind (wpAny_holding (wpAny_bind (wpAny_dictFind_heap hu (hka _ (Zi ek)) hob hdb heb hkb hnb (fun no => absurd hy (no _ _)) fun j p hj => ?_)));have ej : j = x := idxH_unique hnb hj hy;subst ej;rw [hy] at hj;cases hj;refine wpAny_bind (wpAny_dictEntries hob hdb ?_);obtain ⟨e', ee', ek'⟩ : ∃ e' : DictEntry, es'[j]? = some e' /\ e'.val = y.2 := ⟨entryOfKey (tupleKind knd) (k, y), by rw [entry_at heb, hy]; rfl, rfl⟩;rw [ee']
    show wpAny _ _ (holding [e'.val] _) _ _ _
    rw [ek'];refine wpAny_holding (he prog w _ _ ?_)
    show wpAny _ _ (if (!true) = true then _ else _) _ _ _
    rw [if_neg (by decide)];refine wpAny_bind (wpAny_dictEpoch hoa hda ?_);rw [if_neg (by simp)];exact wpAny_pure ⟨rfl, rfl, j + 1, hrest, hlt⟩
  . rintro q s' ⟨rfl, rfl, i, hr, hi⟩
    exact wpAny_pure h
theorem zg7 {a b : Addr} {ka kb : List (List K × Addr × Value)} {Q : Value -> Shared -> Prop} (ha : (a == sysModules) = false) (hb : (b == sysModules) = false) (hu : A.units + 1 < cLine)
    (da : s.heap.DictOfH (tupleKind knd) a ka) (db : s.heap.DictOfH (tupleKind knd) b kb) (hl : ka.length = kb.length)
    (hits : ∀ (i : Nat) (x : List K × Addr × Value), ka[i]? = some x -> ∃ y, kb[i]? = some (x.1, y) /\ SeqAt.EqAt A.in1 s x.2.2 y.2 true) (h : Q (.bool false) s) :
    wpAny (model prog w) A (compareOp .NotEq (.ref a) (.ref b)) Q E s := by
  refine wpAny_richCompare_same_room (op := .NotEq) da.typeIs db.typeIs PySem.F.slot_dict_ne (wpAny_call_entry PySem.F.slot_dict_ne da.typeIs PySem.F.entry_dict_ne ?_ (PySem.F.args_dict_ne_2 _ _)) (Nat.lt_of_succ_lt hu)
  show wpAny _ _ (Builtin.Dict.dictSlotArgs "__ne__" ⟨[.ref a, .ref b], []⟩ >>= _) _ _ s
  refine wpAny_bind ?_;unfold Builtin.Dict.dictSlotArgs;refine wpAny_bind (wpAny_notOrdered_dict da.typeIs ?_)
  show wpAny _ _ (pure (Value.ref a, Value.ref b)) _ _ s
  refine wpAny_pure ?_;refine wpAny_bind (wpAny_isInstance (T := "dict") db.typeIs PySem.F.sub_dict_dict ?_);simp only [Bool.not_true, Bool.false_eq_true, if_false];refine wpAny_bind (wpAny_pure (wpAny_bind (wpAny_pure ?_)));refine wpAny_bind (zdl ha hb (tupleKind_room_in1 hu) da db hl hits ?_);refine wpAny_pure ⟨_, rfl, ?_, ?_⟩
  . exact fun x => nomatch x
  . simpa using h
end
section
variable {X : Cx}
def rEqTT (ne : Bool) (x y : V) (H : Hp) (Q : VK) : Prop := ∃ (a b : Addr) (kvs : List (List Key × V)), x = .ref a /\ y = .ref b /\ H a = some (.dT kvs) /\ H b = some (.dT kvs) /\ (∀ kv ∈ kvs, y9 kv.2 = true) /\ Q (.bl (!ne)) H
theorem e_eqTT {ne : Bool} {x y : V} {H : Hp} {Q : VK} : rEqTT ne x y H Q = ∃ (a b : Addr) (kvs : List (List Key × V)), x = .ref a /\ y = .ref b /\ H a = some (.dT kvs) /\ H b = some (.dT kvs) /\ (∀ kv ∈ kvs, y9 kv.2 = true) /\ Q (.bl (!ne)) H := rfl
theorem gy {A : Around} {H : Hp} {s : Shared} : ∀ {kvs : List (List Key × V)} {ys zs : List (List Key × Addr × Value)}, KT H kvs ys -> KT H kvs zs -> (∀ kv ∈ kvs, y9 kv.2 = true) -> ∀ (i : Nat) (x : List Key × Addr × Value), ys[i]? = some x -> ∃ y, zs[i]? = some (x.1, y) /\ SeqAt.EqAt A s x.2.2 y.2 true
  | [], _, _, .nil, .nil, _ => fun i x e => by simp at e
  | kv :: kvs, y :: ys, z :: zs, .cons hy ty, .cons hz tz, hf => fun i x e => by
    cases i with
    | zero =>
      simp at e;subst e;refine ⟨z.2, by simp [<- hy.1, hz.1], ?_⟩;have f := hf kv ZA;have := i5 (A := A) (s := s) hy.2.2 hz.2.2 f f
      rwa [l6 f] at this
    | succ i =>
      obtain ⟨y', h1, h2⟩ := gy (A := A) (s := s) ty tz (fun kv h => hf kv (Zv _ h)) i x (by simpa using e);exact ⟨y', by simpa using h1, h2⟩
theorem zhz (hu : X.A.units + 1 < cLine) : OpR X (compareOp .NotEq) (rEqTT true) := by
  intro pins s σ H x y v u Q I rx ry h;obtain ⟨a, b, kvs, rfl, rfl, ha, hb, hf, q⟩ := h;cases rx;cases ry;obtain ⟨z, hda, ys, rel, da⟩ := iz I.hok ha;obtain ⟨_, hdb, zs, rel', db⟩ := iz I.hok hb;exact zg7 hda hdb hu da db (by rw [<- Paired.length rel, <- Paired.length rel']) (gy rel rel' hf) ⟨.bl false, H, I, rfl, q⟩
end
end L2
namespace L2
open PySem PySem.Spec PyProof.Rows AutoSeq1
set_option maxHeartbeats 1000000 in
section
variable {prog : Program} {w : World} {A : Around} {E : Value -> Shared -> Prop} {s : Shared}
end
section
variable {σ : St} {k : Nat} {g : TG} {tt : TT} {te : TE} {H1 : Hp} {Fin : List V -> Hp -> Prop}
end
end L2
namespace L2
open PySem PySem.Spec PyProof.Rows
section
variable {X : Cx} {c e : Expr} {te : TE} {x : Str} {p2 pos : Pos}
end
section
variable {X : Cx}
end
end L2
namespace L2
open PySem PySem.Spec PyProof.Rows
section
variable {X : Cx}
end
section
variable {σ : St} {k : Nat} {g : TG} {tt : TT} {te : TE} {H1 : Hp} {Fin : List V -> Hp -> Prop}
end
end L2
namespace L2
open PySem PySem.Spec PyProof.Rows
section
variable {X : Cx} {e st : Expr} {te : TE} {ts : TO} {pos p2 : Pos}
end
section
variable {prog : Program} {w : World} {K : Type} [DecidableEq K] {knd : KeyKind prog w K} {A : Around} {E : Value -> Shared -> Prop} {s : Shared}
end
end L2
namespace L2
open PySem PySem.Spec PyProof.Rows
section
variable {X : Cx} {tg : Expr}
end
section
variable {X : Cx}
end
end L2
namespace L2
open PySem PySem.Spec PyProof.Rows
section
variable {X : Cx}
end
section
variable {X : Cx}
end
section
variable {σ : St} {k : Nat} {g : TG} {tt : TT} {te : TE} {H1 : Hp} {Fin : List V -> Hp -> Prop}
end
end L2
namespace L2
open PySem PySem.Spec PyProof.Rows
def offH {K : Type} [DecidableEq K] (xs : List (K × Addr × Value)) (k : K) : List (K × Addr × Value) := xs.filter fun x => decide (x.1 ≠ k)
section
variable {X : Cx} {pins : List (Addr × Obj)} {σ : St} {H : Hp} {s : Shared} {A : Around} {E : Value -> Shared -> Prop}
theorem KT.off {H : Hp} {kvs : List (List Key × V)} {xs : List (List Key × Addr × Value)} (r : KT H kvs xs) (k : List Key) : KT H (bj kvs k) (offH xs k) := by
  unfold bj offH
  induction r with
  | nil => exact .nil
  | @cons p q ps qs h t ih =>
    by_cases e : p.1 = k
    . rw [List.filter_cons_of_neg (by simp [e]), List.filter_cons_of_neg (by simp [<- h.1, e])]
      exact ih
    . rw [List.filter_cons_of_pos (by simp [e]), List.filter_cons_of_pos (by simp [<- h.1, e])]
      exact .cons h ih
end
section
variable {X : Cx} {o e f : Expr} {apos cpos : Pos} {td ty tx : TE}
end
end L2
namespace L2
open PySem PySem.Spec PyProof.Rows
section
variable {X : Cx}
end
section
variable {X : Cx} {o e f : Expr} {apos cpos : Pos} {td ty tx : TE}
end
end L2
namespace L2
open PySem PySem.Spec PyProof.Rows
section
variable {X : Cx}
end
end L2
namespace Mine
open PySem PySem.Spec PyProof.Rows L2
theorem yv {α β : Type} {g : α -> β} {xs : List α} {i : Nat} {x : β} (h : (xs.map g)[i]? = some x) : ∃ y, xs[i]? = some y /\ g y = x := by
  rw [Ze] at h
  cases e : xs[i]? with
  | none => rw [e] at h; cases h
  | some y => rw [e] at h; cases h; exact ⟨y, rfl, rfl⟩
def zc := And.intro @e_eqTT (And.intro @zgz (And.intro @zik (And.intro @e_down (And.intro @e_var (And.intro @e_C (And.intro @e_op (And.intro @e_un (And.intro @e_rI (And.intro @e_rI0 (And.intro @e_rU (And.intro @e_rEq (And.intro @e_rNe (And.intro @e_ixL (And.intro @e_ixT (And.intro @e_set (And.intro @e_cat (And.intro @e_test (And.intro @e_B (And.intro @e_and (And.intro @e_or (And.intro @e_not (And.intro @e_andV (And.intro @e_orV (And.intro @e_notV (And.intro @e_ifE (And.intro @e_all (And.intro @e_next (And.intro @e_seq (And.intro @e_brk (And.intro @e_cnt (And.intro @e_drop (And.intro @e_ret (And.intro @e_retN (And.intro @e_ifS (And.intro @e_asg (And.intro @zby (And.intro @e_setC (And.intro @e_augS (And.intro @e_ipI (And.intro @e_nil (And.intro @e_cons (And.intro @e_tup (And.intro @e_lst (And.intro @e_call (And.intro @e_CB (And.intro @e_BM (And.intro @e_app (And.intro @e_rng1 (And.intro @e_rng2 (And.intro @e_iL (And.intro @e_for (And.intro @e_comp (And.intro @cxK (And.intro @e_zip (And.intro @e_gTup (And.intro @e_gNil (And.intro @zhg (And.intro @e_rep (And.intro @e_gSub (And.intro @e_slL (And.intro @e_tSl (And.intro @zg6 (And.intro @e_part (And.intro @zhw (And.intro @e_BM0 (And.intro @zic (And.intro @e_in (And.intro @e_enum (And.intro @e_minK (And.intro @zig (And.intro @zil (And.intro @zhs (And.intro @e_try0 (And.intro @suK (And.intro @noxK (And.intro @tryK (And.intro @e_eqD (And.intro @e_inD (And.intro @e_iStr (And.intro @e_mulS (And.intro @e_ixS (And.intro @e_join (And.intro @e_rev (And.intro @zh3 (And.intro @e_iT (And.intro @e_iSeq (And.intro @e_tupL (And.intro @e_minL (And.intro @e_maxL (And.intro @zgm (And.intro @e_leS (And.intro @e_vI0 (And.intro @e_vI (And.intro @e_ints (And.intro @e_isB (And.intro @e_catH (And.intro @zgg (And.intro @e_slH (And.intro @e_slT (And.intro @zgo (And.intro @zgc (And.intro @e_inK (And.intro @e_setD (And.intro @zhk (And.intro @e_dget (@e_BMT))))))))))))))))))))))))))))))))))))))))))))))))))))))))))))))))))))))))))))))))))))))))))))))))))))))))))
def zd := And.intro @ZM.{0} (And.intro @Ym.{0} (And.intro @Nat.zero_add (And.intro @YJ.{0} (And.intro @List.replicate_zero.{0} (And.intro @List.drop_succ_cons.{0} (And.intro @List.drop_zero.{0} (And.intro @Int.zero_add (And.intro @List.getElem?_cons_zero.{0} (And.intro @List.getElem?_cons_succ.{0} (And.intro @List.set_cons_zero.{0} (And.intro @List.set_cons_succ.{0} (And.intro @Option.some.injEq.{0} (And.intro @V.int.injEq (And.intro @V.ref.injEq (And.intro @V.bl.injEq (And.intro @V.ty.injEq (And.intro @V.str.injEq (And.intro @List.cons.injEq.{0} (And.intro @Ye.{0} (And.intro @ZN.{0} (And.intro @ZO.{0} (And.intro @exists_eq.{1} (And.intro @exists_eq'.{1} (And.intro @exists_eq_left.{1} (And.intro @exists_eq_left'.{1} (And.intro @exists_and_left.{1} (And.intro @exists_and_right.{1} (And.intro @and_assoc (And.intro @true_and (@and_true))))))))))))))))))))))))))))))
def top (i : Nat) : Stmt := PySem.Challenge.pw_trueword_k39_pays_told.main.body.getD i (.Pass ⟨0, 0, 0, 0⟩)
abbrev p0 : Stmt := top 6
theorem za7 : zr ["thing"] ["thing"] (zl p0) := ⟨rfl, rfl, rfl, by decide +kernel, rfl, by decide +kernel, by decide +kernel⟩
abbrev tj : Stmt := top 7
theorem cz : zr ["thing"] ["thing"] (zl tj) := ⟨rfl, rfl, rfl, by decide +kernel, rfl, by decide +kernel, by decide +kernel⟩
abbrev ur : Stmt := top 8
theorem fz : zr ["thing", "width"] ["thing", "width"] (zl ur) := ⟨rfl, rfl, rfl, by decide +kernel, rfl, by decide +kernel, by decide +kernel⟩
abbrev g6 : Stmt := top 9
theorem zid : zr ["grid", "s", "t"] ["grid", "s", "t"] (zl g6) := ⟨rfl, rfl, rfl, by decide +kernel, rfl, by decide +kernel, by decide +kernel⟩
abbrev gk : Stmt := top 10
theorem zh8 : zr ["grid", "pays", "t", "s"] ["grid", "pays", "t", "s"] (zl gk) := ⟨rfl, rfl, rfl, by decide +kernel, rfl, by decide +kernel, by decide +kernel⟩
abbrev u9 : Stmt := top 11
theorem sc_first_gain : zr ["grid", "pays", "t", "s", "more"] ["grid", "pays"] (zl u9) := ⟨rfl, rfl, rfl, by decide +kernel, rfl, by decide +kernel, by decide +kernel⟩
abbrev my : Stmt := top 17
theorem zd1 : zr ["thing"] ["thing"] (zl my) := ⟨rfl, rfl, rfl, by decide +kernel, rfl, by decide +kernel, by decide +kernel⟩
abbrev qm : Stmt := top 18
theorem zaf : zr ["thing", "most"] ["thing", "most"] (zl qm) := ⟨rfl, rfl, rfl, by decide +kernel, rfl, by decide +kernel, by decide +kernel⟩
abbrev sh : Stmt := top 19
theorem cv : zr ["thing", "height", "width"] ["thing", "height", "width"] (zl sh) := ⟨rfl, rfl, rfl, by decide +kernel, rfl, by decide +kernel, by decide +kernel⟩
abbrev mj : Stmt := top 20
theorem zdu : zr ["thing", "width"] ["thing", "width"] (zl mj) := ⟨rfl, rfl, rfl, by decide +kernel, rfl, by decide +kernel, by decide +kernel⟩
abbrev mi : Stmt := top 21
theorem zdi : zr ["hand"] ["hand"] (zl mi) := ⟨rfl, rfl, rfl, by decide +kernel, rfl, by decide +kernel, by decide +kernel⟩
abbrev og : Stmt := top 22
theorem zbj : zr ["hands"] ["hands"] (zl og) := ⟨rfl, rfl, rfl, by decide +kernel, rfl, by decide +kernel, by decide +kernel⟩
abbrev wf : Stmt := top 23
theorem nk : zr ["hand"] ["hand"] (zl wf) := ⟨rfl, rfl, rfl, by decide +kernel, rfl, by decide +kernel, by decide +kernel⟩
abbrev wa : Stmt := top 24
theorem ph : zr ["hand"] ["hand"] (zl wa) := ⟨rfl, rfl, rfl, by decide +kernel, rfl, by decide +kernel, by decide +kernel⟩
abbrev vp : Stmt := top 25
theorem sc_count_of_rows : zr ["hands", "count", "hand"] ["hands"] (zl vp) := ⟨rfl, rfl, rfl, by decide +kernel, rfl, by decide +kernel, by decide +kernel⟩
abbrev um : Stmt := top 26
theorem e8 : zr ["outcomes", "hands"] ["outcomes", "hands"] (zl um) := ⟨rfl, rfl, rfl, by decide +kernel, rfl, by decide +kernel, by decide +kernel⟩
abbrev ud : Stmt := top 27
theorem sc_kept_hand : zr ["hand", "worths"] ["hand"] (zl ud) := ⟨rfl, rfl, rfl, by decide +kernel, rfl, by decide +kernel, by decide +kernel⟩
abbrev so : Stmt := top 28
theorem j9 : zr ["outcomes", "hands"] ["outcomes", "hands"] (zl so) := ⟨rfl, rfl, rfl, by decide +kernel, rfl, by decide +kernel, by decide +kernel⟩
abbrev uw : Stmt := top 29
theorem e7 : zr ["house"] ["house"] (zl uw) := ⟨rfl, rfl, rfl, by decide +kernel, rfl, by decide +kernel, by decide +kernel⟩
abbrev p8 : Stmt := top 30
theorem zbl : zr ["house"] ["house"] (zl p8) := ⟨rfl, rfl, rfl, by decide +kernel, rfl, by decide +kernel, by decide +kernel⟩
abbrev rn : Stmt := top 31
theorem sc_with_each : zr ["rows", "words", "longer", "row"] ["rows", "words"] (zl rn) := ⟨rfl, rfl, rfl, by decide +kernel, rfl, by decide +kernel, by decide +kernel⟩
abbrev r6 : Stmt := top 32
theorem sc_rows_over : zr ["hands", "rows", "hand"] ["hands"] (zl r6) := ⟨rfl, rfl, rfl, by decide +kernel, rfl, by decide +kernel, by decide +kernel⟩
abbrev ma : Stmt := top 33
theorem zc4 : zr ["things", "k"] ["things", "k"] (zl ma) := ⟨rfl, rfl, rfl, by decide +kernel, rfl, by decide +kernel, by decide +kernel⟩
abbrev qj : Stmt := top 34
theorem ay : zr ["house", "k"] ["house", "k"] (zl qj) := ⟨rfl, rfl, rfl, by decide +kernel, rfl, by decide +kernel, by decide +kernel⟩
abbrev pp : Stmt := top 35
theorem za6 : zr ["others", "k", "word"] ["others", "k", "word"] (zl pp) := ⟨rfl, rfl, rfl, by decide +kernel, rfl, by decide +kernel, by decide +kernel⟩
abbrev pi : Stmt := top 37
theorem za4 : zr ["walk"] ["walk"] (zl pi) := ⟨rfl, rfl, rfl, by decide +kernel, rfl, by decide +kernel, by decide +kernel⟩
abbrev oh : Stmt := top 38
theorem zbf : zr ["walk"] ["walk"] (zl oh) := ⟨rfl, rfl, rfl, by decide +kernel, rfl, by decide +kernel, by decide +kernel⟩
abbrev we : Stmt := top 39
theorem ky : zr ["grid", "s"] ["grid", "s"] (zl we) := ⟨rfl, rfl, rfl, by decide +kernel, rfl, by decide +kernel, by decide +kernel⟩
abbrev tf : Stmt := top 40
theorem sc_least_to : zr ["grid", "walks", "t", "longer"] ["grid", "walks", "t"] (zl tf) := ⟨rfl, rfl, rfl, by decide +kernel, rfl, by decide +kernel, by decide +kernel⟩
abbrev vz : Stmt := top 41
theorem k9 : zr ["grid", "walks"] ["grid", "walks"] (zl vz) := ⟨rfl, rfl, rfl, by decide +kernel, rfl, by decide +kernel, by decide +kernel⟩
abbrev ua : Stmt := top 42
theorem gm : zr ["grid", "totals", "t"] ["grid", "totals", "t"] (zl ua) := ⟨rfl, rfl, rfl, by decide +kernel, rfl, by decide +kernel, by decide +kernel⟩
abbrev t8 : Stmt := top 43
theorem sc_has_honest : zr ["grid", "totals", "size"] ["grid"] (zl t8) := ⟨rfl, rfl, rfl, by decide +kernel, rfl, by decide +kernel, by decide +kernel⟩
abbrev wb : Stmt := top 44
theorem sc_closed_below_zero : zr ["rows", "s", "walks"] ["rows"] (zl wb) := ⟨rfl, rfl, rfl, by decide +kernel, rfl, by decide +kernel, by decide +kernel⟩
abbrev gi : Stmt := top 45
theorem sc_ring : zr ["grid", "rows", "size", "found"] ["grid"] (zl gi) := ⟨rfl, rfl, rfl, by decide +kernel, rfl, by decide +kernel, by decide +kernel⟩
abbrev ux : Stmt := top 47
theorem e6 : zr ["grid"] ["grid"] (zl ux) := ⟨rfl, rfl, rfl, by decide +kernel, rfl, by decide +kernel, by decide +kernel⟩
abbrev k7 : Stmt := top 48
theorem ze8 : zr ["walk", "longer"] ["walk", "longer"] (zl k7) := ⟨rfl, rfl, rfl, by decide +kernel, rfl, by decide +kernel, by decide +kernel⟩
abbrev up : Stmt := top 49
theorem sc_least_roads : zr ["grid", "walks", "size"] ["grid", "walks"] (zl up) := ⟨rfl, rfl, rfl, by decide +kernel, rfl, by decide +kernel, by decide +kernel⟩
abbrev px : Stmt := top 51
theorem sc_greatest : zr ["grid", "walks"] ["grid"] (zl px) := ⟨rfl, rfl, rfl, by decide +kernel, rfl, by decide +kernel, by decide +kernel⟩
abbrev v8 : Stmt := top 53
theorem sc_dealt_places : zr ["house", "table", "k", "others", "rows"] ["house", "table", "k", "others"] (zl v8) := ⟨rfl, rfl, rfl, by decide +kernel, rfl, by decide +kernel, by decide +kernel⟩
abbrev qk : Stmt := top 54
theorem zah : zr ["worths", "places"] ["worths", "places"] (zl qk) := ⟨rfl, rfl, rfl, by decide +kernel, rfl, by decide +kernel, by decide +kernel⟩
abbrev mh : Stmt := top 55
theorem sc_grid_of : zr ["house", "table", "k", "others", "places"] ["house", "table", "k", "others"] (zl mh) := ⟨rfl, rfl, rfl, by decide +kernel, rfl, by decide +kernel, by decide +kernel⟩
abbrev pj : Stmt := top 57
theorem sc_grids_of : zr ["house", "table", "grids", "k"] ["house", "table"] (zl pj) := ⟨rfl, rfl, rfl, by decide +kernel, rfl, by decide +kernel, by decide +kernel⟩
abbrev j4 : Stmt := top 58
theorem sc_paper : zr ["k", "others", "grid", "told"] ["k", "others", "grid"] (zl j4) := ⟨rfl, rfl, rfl, by decide +kernel, rfl, by decide +kernel, by decide +kernel⟩
abbrev mf : Stmt := top 59
theorem sc_verdict : zr ["house", "table", "papers", "k", "others", "grid", "found"] ["house", "table"] (zl mf) := ⟨rfl, rfl, rfl, by decide +kernel, rfl, by decide +kernel, by decide +kernel⟩
abbrev uq : Stmt := top 61
theorem f8 : zr ["script", "k"] ["script", "k"] (zl uq) := ⟨rfl, rfl, rfl, by decide +kernel, rfl, by decide +kernel, by decide +kernel⟩
abbrev yd : Stmt := top 62
theorem sc_law_pool : zr ["cell", "many", "letters", "number", "filler", "begin", "step", "size", "place", "front", "back"] ["cell", "many"] (zl yd) := ⟨rfl, rfl, rfl, by decide +kernel, rfl, by decide +kernel, by decide +kernel⟩
abbrev qg : Stmt := top 63
theorem sc_law_drawn : zr ["script", "k", "many", "cell", "number"] ["script", "k"] (zl qg) := ⟨rfl, rfl, rfl, by decide +kernel, rfl, by decide +kernel, by decide +kernel⟩
abbrev ql : Stmt := top 64
theorem ak : zr ["cell"] ["cell"] (zl ql) := ⟨rfl, rfl, rfl, by decide +kernel, rfl, by decide +kernel, by decide +kernel⟩
abbrev rm : Stmt := top 65
theorem sc_law_parts : zr ["script", "tops", "first", "shape", "outcomes", "hands", "k", "j", "size", "words", "worths", "word"] ["script", "tops"] (zl rm) := ⟨rfl, rfl, rfl, by decide +kernel, rfl, by decide +kernel, by decide +kernel⟩
abbrev oe : Stmt := top 66
theorem sc_law_rows : zr ["hands", "rows", "hand", "grown", "row"] ["hands"] (zl oe) := ⟨rfl, rfl, rfl, by decide +kernel, rfl, by decide +kernel, by decide +kernel⟩
abbrev qc : Stmt := top 67
theorem sc_law_score : zr ["hands", "row", "weights", "place", "score", "j", "t"] ["hands", "row", "weights", "place"] (zl qc) := ⟨rfl, rfl, rfl, by decide +kernel, rfl, by decide +kernel, by decide +kernel⟩
abbrev sm : Stmt := top 68
theorem sc_law_places : zr ["script", "outcomes", "hands", "mode", "weights", "gifts", "places", "row", "place", "sums", "i", "cell"] ["script", "outcomes", "hands"] (zl sm) := ⟨rfl, rfl, rfl, by decide +kernel, rfl, by decide +kernel, by decide +kernel⟩
abbrev qf : Stmt := top 69
theorem sc_law_table : zr ["outcomes", "places", "table", "row"] ["outcomes", "places"] (zl qf) := ⟨rfl, rfl, rfl, by decide +kernel, rfl, by decide +kernel, by decide +kernel⟩
abbrev pw : Stmt := top 70
theorem sc_law_grid : zr ["hands", "places", "k", "others", "got", "grid", "worths"] ["hands", "places", "k", "others"] (zl pw) := ⟨rfl, rfl, rfl, by decide +kernel, rfl, by decide +kernel, by decide +kernel⟩
abbrev pz : Stmt := top 71
theorem zbi : zr ["grid", "s", "t"] ["grid", "s", "t"] (zl pz) := ⟨rfl, rfl, rfl, by decide +kernel, rfl, by decide +kernel, by decide +kernel⟩
abbrev qh : Stmt := top 72
theorem zaa : zr ["found"] ["found"] (zl qh) := ⟨rfl, rfl, rfl, by decide +kernel, rfl, by decide +kernel, by decide +kernel⟩
abbrev s9 : Stmt := top 73
theorem sc_law_honest : zr ["grid", "pays", "t", "s"] ["grid", "pays"] (zl s9) := ⟨rfl, rfl, rfl, by decide +kernel, rfl, by decide +kernel, by decide +kernel⟩
abbrev oi : Stmt := top 74
theorem sc_law_road : zr ["grid", "t", "pay", "words", "one", "whole", "j"] ["grid", "t", "pay", "words"] (zl oi) := ⟨rfl, rfl, rfl, by decide +kernel, rfl, by decide +kernel, by decide +kernel⟩
abbrev qi : Stmt := top 75
theorem sc_law_paper : zr ["hands", "places", "paper_v", "k", "others", "grid", "t"] ["hands", "places", "paper_v", "k", "others"] (zl qi) := ⟨rfl, rfl, rfl, by decide +kernel, rfl, by decide +kernel, by decide +kernel⟩
abbrev ra : Stmt := top 76
theorem sc_law_papers : zr ["house", "hands", "places", "papers", "first", "at", "k", "others"] ["house", "hands", "places", "papers", "first"] (zl ra) := ⟨rfl, rfl, rfl, by decide +kernel, rfl, by decide +kernel, by decide +kernel⟩
abbrev wu : Stmt := top 77
theorem sc_law_others_stay : zr ["house", "hands", "places", "papers", "k", "others", "pays", "roads", "grid", "t"] ["house", "hands", "places", "papers"] (zl wu) := ⟨rfl, rfl, rfl, by decide +kernel, rfl, by decide +kernel, by decide +kernel⟩
abbrev j0 : Stmt := top 78
theorem sc_law : zr ["script", "outcomes", "hands", "house", "places", "table", "found", "mode"] ["script"] (zl j0) := ⟨rfl, rfl, rfl, by decide +kernel, rfl, by decide +kernel, by decide +kernel⟩
structure Bt (mg : Str -> Option Value) : Prop where
  «abs» : mg "abs" = none
  «all» : mg "all" = none
  «bool» : mg "bool" = none
  «enumerate» : mg "enumerate" = none
  «int» : mg "int" = none
  «isinstance» : mg "isinstance" = none
  «len» : mg "len" = none
  «list» : mg "list" = none
  «max» : mg "max" = none
  «min» : mg "min" = none
  «range» : mg "range" = none
  «set» : mg "set" = none
  «str» : mg "str" = none
  «tuple» : mg "tuple" = none
  «zip» : mg "zip" = none
  k_MOST_WORDS : ∃ t, mg "MOST_WORDS" = some (Value.int 8 t)
  k_MOST_LETTERS : ∃ t, mg "MOST_LETTERS" = some (Value.int 8 t)
  k_MOST_OUTCOMES : ∃ t, mg "MOST_OUTCOMES" = some (Value.int 8 t)
  k_MOST_HANDS : ∃ t, mg "MOST_HANDS" = some (Value.int 4 t)
  k_MOST_ROWS : ∃ t, mg "MOST_ROWS" = some (Value.int 256 t)
structure Ad where
  NoHouse : Addr
  NoPays : Addr
structure Ct (K : Fg) (mg : Str -> Option Value) (a : Ad) : Prop where
  m_NoHouse : mg "NoHouse" = some (.ref a.NoHouse)
  q_NoHouse : ErrQ K a.NoHouse
  m_NoPays : mg "NoPays" = some (.ref a.NoPays)
  q_NoPays : ErrQ K a.NoPays
structure NewGrid (H H' : Hp) (b : Addr) (bs : List Addr) (rows : List (List Int)) (k n : Nat) : Prop where
  same : Same H H'
  nb : H b = none
  nr : ∀ r ∈ bs, H r = none
  nd : bs.Nodup
  ne : b ∉ bs
  at' : H' b = some (.lst (bs.map V.ref))
  lb : bs.length = k
  lr : rows.length = k
  row : ∀ (i : Nat) (r : Addr) (ns : List Int), bs[i]? = some r -> rows[i]? = some ns -> H' r = some (.lst (ns.map V.int)) /\ ns.length = n
theorem NewGrid.grid {K : Fg} {H H' : Hp} {b : Addr} {bs : List Addr} {rows : List (List Int)} {k n : Nat} (g : NewGrid H H' b bs rows k n) : GridL K H' b bs rows :=
  ⟨.of g.at', g.lb.trans g.lr.symm, fun i r ns e1 e2 => .of (g.row i r ns e1 e2).1⟩
theorem Same.upd {H H' : Hp} (s : Same H H') {a : Addr} {o : HO} (n : H a = none) : Same H (upd H' a o) := fun b u e => by
  rw [zx (y3 e n)]; exact s b u e
theorem NewGrid.nil {H H' : Hp} {b : Addr} {n : Nat} (s : Same H H') (nb : H' b = none) : NewGrid H (upd H' b (.lst [])) b [] [] 0 n :=
  ⟨Same.upd s (s.free nb), s.free nb, (fun _ z => nomatch z), Yv, (fun z => nomatch z), zg, rfl, rfl, (fun i r ns e => by simp at e)⟩
theorem NewGrid.laid {H H' : Hp} {b c : Addr} {bs : List Addr} {rows : List (List Int)} {k n : Nat} {o : HO} (g : NewGrid H H' b bs rows k n) (nc : H' c = none) : NewGrid H (L2.upd H' c o) b bs rows k n :=
  ⟨Same.upd g.same (g.same.free nc), g.nb, g.nr, g.nd, g.ne, by rw [zx (y3 g.at' nc)]; exact g.at', g.lb, g.lr, fun i r ns e1 e2 => by
    obtain ⟨q, l⟩ := g.row i r ns e1 e2
    exact ⟨by rw [zx (y3 q nc)]; exact q, l⟩⟩
theorem NewGrid.snoc {H H' : Hp} {b c : Addr} {bs : List Addr} {rows : List (List Int)} {k n : Nat} {ns : List Int} (g : NewGrid H H' b bs rows k n) (hn : H c = none) (hc : H' c = some (.lst (ns.map V.int))) (hl : ns.length = n) (hb : c ∉ bs) (hcb : c ≠ b) :
    NewGrid H (L2.upd H' b (.lst (bs.map V.ref ++ [.ref c]))) b (bs ++ [c]) (rows ++ [ns]) (k + 1) n := by
  refine ⟨Same.upd g.same g.nb, g.nb, fun r hr => ?_, ?_, ?_, ?_, by rw [Zo, g.lb]; rfl, by rw [Zo, g.lr]; rfl, fun i r ms e1 e2 => ?_⟩
  . rcases ZH.mp hr with z | z
    . exact g.nr r z
    . rw [ZC.mp z]; exact hn
  . refine Yp.mpr ⟨g.nd, by simp, fun x hx y hy => ?_⟩
    rw [ZC.mp hy]
    rintro rfl
    exact hb hx
  . intro z
    rcases ZH.mp z with z | z
    . exact g.ne z
    . exact hcb (ZC.mp z).symm
  . rw [zg, Zn]; rfl
  . have nb' : ∀ r, r ∈ bs ++ [c] -> r ≠ b := fun r hr => by
      rcases ZH.mp hr with z | z
      . rintro rfl; exact g.ne z
      . rw [ZC.mp z]; exact hcb
    have hr : r ∈ bs ++ [c] := Zi e1;rw [zx (nb' r hr)]
    by_cases hi : i < bs.length
    . rw [Zg hi] at e1
      rw [Zg (by rw [g.lr, <- g.lb]; exact hi)] at e2;exact g.row i r ms e1 e2
    . have hi' : bs.length <= i := ZD.mp hi
      rw [Zf hi'] at e1;rw [Zf (by rw [g.lr, <- g.lb]; exact hi')] at e2
      have e0 : i - bs.length = 0 := by
        have := (Zc.mp e1).1;simp at this; omega
      rw [e0] at e1;have e0' : i - rows.length = 0 := by rw [g.lr, <- g.lb]; exact e0
      rw [e0'] at e2;simp at e1 e2;subst e1 e2;exact ⟨hc, hl⟩
theorem NewGrid.put {H H' : Hp} {b c : Addr} {bs : List Addr} {rows : List (List Int)} {k n j i : Nat} {ns : List Int} {v : Int} (g : NewGrid H H' b bs rows k n) (hi : bs[i]? = some c) (hr : rows[i]? = some ns) :
    NewGrid H (L2.upd H' c (.lst ((ns.map V.int).set j (.int v)))) b bs (rows.set i (ns.set j v)) k n := by
  have hm : c ∈ bs := Zi hi;have hcb : b ≠ c := by rintro rfl; exact g.ne hm
  refine ⟨Same.upd g.same (g.nr c hm), g.nb, g.nr, g.nd, g.ne, by rw [zx hcb]; exact g.at', g.lb, by rw [List.length_set]; exact g.lr, fun i' r ms e1 e2 => ?_⟩
  by_cases e : i' = i
  . subst e
    rw [hi] at e1; cases e1;rw [Yz (Zc.mp hr).1] at e2;cases e2;refine ⟨by rw [zg, List.map_set], ?_⟩;rw [List.length_set];exact (g.row _ c ns hi hr).2
  . have hrc : r ≠ c := by
      rintro rfl
      obtain ⟨h1, e1'⟩ := Zc.mp e1;obtain ⟨h2, e2'⟩ := Zc.mp hi;exact e ((YQ g.nd).mp (e1'.trans e2'.symm))
    rw [YF (Ne.symm e)] at e2;rw [zx hrc];exact g.row i' r ms e1 e2
theorem NewGrid.trans {H H1 H' : Hp} {b : Addr} {bs : List Addr} {rows : List (List Int)} {k n : Nat} (s : Same H H1) (g : NewGrid H1 H' b bs rows k n) : NewGrid H H' b bs rows k n :=
  ⟨s.trans g.same, s.free g.nb, fun r hr => s.free (g.nr r hr), g.nd, g.ne, g.at', g.lb, g.lr, g.row⟩
theorem on {K : Fg} {H : Hp} {g : Addr} {as : List Addr} {rows : List (List Int)} (G : GridL K H g as rows) {t : Nat} {ns : List Int} (h : rows[t]? = some ns) :
    ∃ r, atI (as.map V.ref) (t : Int) = some (V.ref r) /\ SqL K H r (ns.map V.int) := by
  have ht : t < as.length := by rw [G.2.1]; exact (Zc.mp h).1
  have e : as[t]? = some as[t] := by simp [ht]
  exact ⟨as[t], zw (by rw [Ze, e]; rfl), G.2.2 t _ ns e h⟩
theorem w5 {ns : List Int} {t : Nat} {x : Int} (h : ns[t]? = some x) : atI (ns.map V.int) (t : Int) = some (V.int x) := zw (by rw [Ze, h]; rfl)
theorem kit_ii : kit0 "int" "int" = some true := by decide +kernel
theorem zeh : kit0 "int" "bool" = some false := by decide +kernel
theorem g8 : kit0 "list" "list" = some true := by decide +kernel
structure Copy (H1 H2 : Hp) (rows : List (List Int)) (i : Nat) (cs : List Addr) : Prop where
  same : Same H1 H2
  len : cs.length = i
  row : ∀ (j : Nat) (c : Addr) (ns : List Int), cs[j]? = some c -> rows[j]? = some ns -> H2 c = some (.lst (ns.map V.int))
theorem Copy.snoc {H1 H2 : Hp} {rows : List (List Int)} {i : Nat} {cs : List Addr} {l : Addr} {ns : List Int} (C : Copy H1 H2 rows i cs) (hl : H2 l = none) (e : rows[i]? = some ns) : Copy H1 (upd H2 l (.lst (ns.map V.int))) rows (i + 1) (cs ++ [l]) := by
  refine ⟨Same.upd C.same (C.same.free hl), by rw [Zo, C.len]; rfl, fun j c ms e1 e2 => ?_⟩
  by_cases hj : j < cs.length
  . rw [Zg hj] at e1
    have q := C.row j c ms e1 e2;rw [zx (y3 q hl)]; exact q
  . have hj' : cs.length <= j := ZD.mp hj
    rw [Zf hj'] at e1
    have h0 : j - cs.length = 0 := by
      have := (Zc.mp e1).1;simp at this; omega
    rw [h0] at e1;simp at e1;subst e1;have hji : j = i := by rw [<- C.len]; omega
    subst hji;rw [e] at e2; cases e2;exact zg
theorem GridL.mono {K : Fg} {H H' : Hp} {g : Addr} {as : List Addr} {rows : List (List Int)} (S : Same H H') (G : GridL K H g as rows) : GridL K H' g as rows := ⟨S.seq G.1, G.2.1, fun i r ns e1 e2 => S.seq (G.2.2 i r ns e1 e2)⟩
theorem NewGrid.width {H H' : Hp} {b : Addr} {bs : List Addr} {rows : List (List Int)} {n : Nat} (G : NewGrid H H' b bs rows n n) : ∀ i : Nat, i < n -> ∃ ns : List Int, rows[i]? = some ns /\ ns.length = n := fun i hi => by
  have hr2 : i < rows.length := by rw [G.lr]; exact hi
  have hb2 : i < bs.length := by rw [G.lb]; exact hi
  exact ⟨rows[i], by simp [hr2], (G.row i bs[i] rows[i] (by simp [hb2]) (by simp [hr2])).2⟩
theorem Copy.grids {K : Fg} {H H1 H2 : Hp} {b h : Addr} {bs cs : List Addr} {rows : List (List Int)} {n : Nat} (G : NewGrid H H1 b bs rows n n) (C : Copy H1 H2 rows n cs) (hh : H2 h = none) :
    Same H1 (upd H2 h (.lst (cs.map V.ref))) /\ GridL K (upd H2 h (.lst (cs.map V.ref))) b bs rows /\ GridL K (upd H2 h (.lst (cs.map V.ref))) h cs rows := by
  have S3 : Same H1 (upd H2 h (.lst (cs.map V.ref))) := Same.upd C.same (C.same.free hh);refine ⟨S3, ⟨.of (S3 _ _ G.at'), G.lb.trans G.lr.symm, fun i r ns e1 e2 => .of (S3 _ _ (G.row i r ns e1 e2).1)⟩, ⟨.of zg, C.len.trans G.lr.symm, fun i r ns e1 e2 => .of ?_⟩⟩;have q := C.row i r ns e1 e2;rw [zx (y3 q hh)]; exact q
theorem re {bs : List Addr} {i : Nat} {x : V} (hx : (bs.map V.ref)[i]? = some x) : ∃ r, bs[i]? = some r /\ x = V.ref r := by
  rw [Ze] at hx
  cases e : bs[i]? with
  | none => rw [e] at hx; cases hx
  | some r => rw [e] at hx; cases hx; exact ⟨r, rfl, rfl⟩
theorem ix {ms : List Int} {i : Nat} {x : V} (hx : (ms.map V.int)[i]? = some x) : ∃ r, ms[i]? = some r /\ x = V.int r := by
  rw [Ze] at hx
  cases e : ms[i]? with
  | none => rw [e] at hx; cases hx
  | some r => rw [e] at hx; cases hx; exact ⟨r, rfl, rfl⟩
def zy (ns : List Int) (k : Nat) : Int := ns.getD k 0
def numA (c : Int) : Int := (c % 2147483647 * 48271 + 11) % 2147483647
def letA (i : Int) : Nat := 97 + (i % 26).toNat
def mr (c : Int) : Str := chr1 (letA (numA c))
def stepsA : List Int := [1, 3, 5, 7, 9, 11, 15, 17, 19, 21, 23, 25]
def sj (c : Int) : Int := stepsA.getD (numA c / 2028 % 12).toNat 0
def v6 (c : Int) : Int := 1 + numA c / 24336 % 8
def sr (c : Int) : Int := numA c / 194688 % v6 c
def vc (c : Int) (k : Nat) : Str := if numA c / 26 % 3 = 1 then xl (mr c) (k + 1) else xl (mr c) (sr c).toNat ++ chr1 (letA (numA c / 78 % 26 + sj c * k)) ++ xl (mr c) (v6 c - 1 - sr c).toNat
def xp (c : Int) (many : Nat) : List Str := (List.range many).map (vc c)
def nt (K : Fg) : Sp := fun vs H Q _ => ∃ (a : Addr) (ns : List Int) (k : Nat), vs = [.ref a, .int k] /\ SqL K H a (ns.map V.int) /\ Q (.int (zy ns k)) H
def zfl : Sp := fun vs H Q _ => ∃ (c : Int) (many : Nat), vs = [.int c, .int many] /\ many <= 9 /\ ∀ H' l, Same H H' -> H l = none -> H' l = some (.lst ((xp c many).map V.str)) -> Q (.ref l) H'
theorem xz (c : Int) (n : Nat) : (xp c n).length = n := by rw [xp, Za, Yc]
theorem gp (c : Int) (n : Nat) : xp c (n + 1) = xp c n ++ [vc c n] := by rw [xp, Yn, Zn]; rfl
theorem xr (z : Str) (n : Nat) : (xl z n).length = z.length * n := by
  unfold xl Str.length;simp [List.length_flatten, Nat.mul_comm]
theorem uh (y z : Str) : (y ++ z).length = y.length + z.length := by
  show (y.cps ++ z.cps).size = _
  simp [Str.length]
theorem za8 (c : Int) : 0 <= numA c := ZV _ (by decide)
theorem zes {i : Int} (h0 : 0 <= i) (h1 : i < 26) : atI (Str.ofString "abcdefghijklmnopqrstuvwxyz").cps.toList i = some (97 + i.toNat) := by
  have h : ∀ j : Fin 26, (Str.ofString "abcdefghijklmnopqrstuvwxyz").cps.toList[j.val]? = some (97 + j.val) := by decide +kernel
  have := zw (xs := (Str.ofString "abcdefghijklmnopqrstuvwxyz").cps.toList) (j := i.toNat) (v := 97 + i.toNat) (h ⟨i.toNat, by omega⟩)
  rwa [ZW h0] at this
section
variable {P : Program} {w : World} {K : Fg} {mg : Str -> Option Value} {base : Heap}
theorem yt (B : Bt mg) (D : zi K mg "_law_cell_at" uq ["script", "k"]) : FnAt P w K mg base "_law_cell_at" 1 ["script", "k"] (nt K) := by
  refine FnAt.of D f8 (fun vs H Q E h => ?_) (fun f cdv A outer s H vs Q E hr h => ?_)
  . obtain ⟨a, ns, k, rfl, _⟩ := h
    rfl
  . obtain ⟨a, ns, k, rfl, hS, q⟩ := h
    refine ⟨_, (@zj _ _ _ _ _ (@yj _ _ _ _ _ _ _ _ (@yf _ _ _ _ _ _ _ _ jy (pv 1) (zo zq rfl B.len ya (za (pv 0) (@zb _))) (ye _)) (@zh _ _ _ (@zn _ _ _ _ (@zt _ _ _ _ _ _ _ z0 (pv 0) (pv 1) (fun _ _ => rfl)))) (@yb _)) (@zh _ _ _ (@zn _ _ _ _ (@ze _ _ _ _)))), ?_⟩;rw [show start ["script", "k"] [V.ref a, V.int k] = [some (V.ref a), some (V.int k)] from rfl];simp only [zc, zd, ↓reduceIte];refine ⟨ns.map V.int, .inl hS, ?_⟩;rw [Za];unfold zy at q;refine ite2 (fun h => ?_) (fun h => ?_)
    . have h' : (k : Int) < ns.length := of_decide_eq_true h
      have hlt : k < ns.length := by omega
      have e : ns[k]? = some ns[k] := by simp [hlt]
      have e2 := zw (xs := ns.map V.int) (j := k) (v := V.int ns[k]) (by rw [Ze, e]; rfl);rw [Zk, e] at q;exact ⟨ns.map V.int, hS, _, e2, q⟩
    . have h' : ¬ (k : Int) < ns.length := fun z => h (decide_eq_true z)
      rw [Zk, YD (by omega)] at q;exact q
theorem tw (B : Bt mg) (D : zi K mg "_law_pool" yd ["cell", "many"]) : FnAt P w K mg base "_law_pool" 1 ["cell", "many"] zfl := by
  refine FnAt.of D sc_law_pool (fun vs H Q E h => ?_) (fun f cdv A outer s H vs Q E hr h => ?_)
  . obtain ⟨c, many, rfl, _⟩ := h
    rfl
  . obtain ⟨c, many, rfl, hm, q⟩ := h
    have b10 : PSs (cxOf CX0 P w K mg base ["cell", "many", "letters", "number", "filler", "begin", "step", "size", "place", "front", "back"] "_law_pool" (zl yd) f cdv A outer s H E).nox ((y1 yd).drop 10) _ := (@zif _ _ _ _ _ (@zn _ _ _ _ (yk ["k"] ["cell", "many", "letters", "number", "filler", "begin", "step", "size", "place", "front", "back"] rfl (yl rfl B.range (za (pv 1) (@zb _))) (fun _ => (zp (i := 0) (show (["k", "cell", "many", "letters", "number", "filler", "begin", "step", "size", "place", "front", "back"] : List Str).Nodup by decide +kernel) rfl (Or.inl rfl))) (fun _ => (@yc _)) (fun _ => (@zm _ _ _ _ _ _ _ _ gx (@zm _ _ _ _ _ _ _ _ gx (pv 10) (@zt _ _ _ _ _ _ _ zf2 (pv 3) (@zm _ _ _ _ _ _ _ _ ym (@zm _ _ _ _ _ _ _ _ yp (pv 6) (@zm _ _ _ _ _ _ _ _ tq (pv 7) (pv 0))) (@ze _ _ _ _)) (fun _ _ => rfl))) (pv 11))) rfl (by decide +kernel) rfl rfl)) rfl rfl);have b9 : PSs (cxOf CX0 P w K mg base ["cell", "many", "letters", "number", "filler", "begin", "step", "size", "place", "front", "back"] "_law_pool" (zl yd) f cdv A outer s H E).nox ((y1 yd).drop 9) _ := (@ui _ _ _ _ _ _ (zz (i := 10) sc_law_pool.nd rfl (Or.inr rfl) (@zm _ _ _ _ _ _ _ _ f7 (pv 4) (@zm _ _ _ _ _ _ _ _ w6 (@zm _ _ _ _ _ _ _ _ w6 (pv 7) (@ze _ _ _ _)) (pv 8)))) rfl @b10);have b8 : PSs (cxOf CX0 P w K mg base ["cell", "many", "letters", "number", "filler", "begin", "step", "size", "place", "front", "back"] "_law_pool" (zl yd) f cdv A outer s H E).nox ((y1 yd).drop 8) _ := (@ui _ _ _ _ _ _ (zz (i := 9) sc_law_pool.nd rfl (Or.inr rfl) (@zm _ _ _ _ _ _ _ _ f7 (pv 4) (pv 8))) rfl @b9);have b7 : PSs (cxOf CX0 P w K mg base ["cell", "many", "letters", "number", "filler", "begin", "step", "size", "place", "front", "back"] "_law_pool" (zl yd) f cdv A outer s H E).nox ((y1 yd).drop 7) _ := (@ui _ _ _ _ _ _ (zz (i := 8) sc_law_pool.nd rfl (Or.inl rfl) (@zm _ _ _ _ _ _ _ _ ym (@zm _ _ _ _ _ _ _ _ xc (pv 3) (@ze _ _ _ _)) (pv 7))) rfl @b8);have b6 : PSs (cxOf CX0 P w K mg base ["cell", "many", "letters", "number", "filler", "begin", "step", "size", "place", "front", "back"] "_law_pool" (zl yd) f cdv A outer s H E).nox ((y1 yd).drop 6) _ := (@ui _ _ _ _ _ _ (zz (i := 7) sc_law_pool.nd rfl (Or.inl rfl) (@zm _ _ _ _ _ _ _ _ yp (@ze _ _ _ _) (@zm _ _ _ _ _ _ _ _ ym (@zm _ _ _ _ _ _ _ _ xc (pv 3) (@ze _ _ _ _)) (@ze _ _ _ _)))) rfl @b7);have b5 : PSs (cxOf CX0 P w K mg base ["cell", "many", "letters", "number", "filler", "begin", "step", "size", "place", "front", "back"] "_law_pool" (zl yd) f cdv A outer s H E).nox ((y1 yd).drop 5) _ := (@ui _ _ _ _ _ _ (zz (i := 6) sc_law_pool.nd rfl (Or.inr rfl) (@zt _ _ _ _ _ _ _ z0 (@xm _ _ _ _ (zcy (ns := [1, 3, 5, 7, 9, 11, 15, 17, 19, 21, 23, 25]) rfl)) (@zm _ _ _ _ _ _ _ _ ym (@zm _ _ _ _ _ _ _ _ xc (pv 3) (@ze _ _ _ _)) (@ze _ _ _ _)) (fun _ _ => rfl))) rfl @b6);have b4 : PSs (cxOf CX0 P w K mg base ["cell", "many", "letters", "number", "filler", "begin", "step", "size", "place", "front", "back"] "_law_pool" (zl yd) f cdv A outer s H E).nox ((y1 yd).drop 4) _ := (@ui _ _ _ _ _ _ (zz (i := 5) sc_law_pool.nd rfl (Or.inr rfl) (@zm _ _ _ _ _ _ _ _ ym (@zm _ _ _ _ _ _ _ _ xc (pv 3) (@ze _ _ _ _)) (@ze _ _ _ _))) rfl @b5);have b3 : PSs (cxOf CX0 P w K mg base ["cell", "many", "letters", "number", "filler", "begin", "step", "size", "place", "front", "back"] "_law_pool" (zl yd) f cdv A outer s H E).nox ((y1 yd).drop 3) _ := (@ui _ _ _ _ _ _ (@yj _ _ _ _ _ _ _ _ (@yf _ _ _ _ _ _ _ _ vo (@zm _ _ _ _ _ _ _ _ ym (@zm _ _ _ _ _ _ _ _ xc (pv 3) (@ze _ _ _ _)) (@ze _ _ _ _)) (@ze _ _ _ _) (ye _)) (@zh _ _ _ (@zn _ _ _ _ (yk ["k"] ["cell", "many", "letters", "number", "filler", "begin", "step", "size", "place", "front", "back"] rfl (yl rfl B.range (za (pv 1) (@zb _))) (fun _ => (zp (i := 0) (show (["k", "cell", "many", "letters", "number", "filler", "begin", "step", "size", "place", "front", "back"] : List Str).Nodup by decide +kernel) rfl (Or.inl rfl))) (fun _ => (@yc _)) (fun _ => (@zm _ _ _ _ _ _ _ _ f7 (pv 5) (@zm _ _ _ _ _ _ _ _ yp (pv 0) (@ze _ _ _ _)))) rfl (by decide +kernel) rfl rfl))) (@yb _)) rfl @b4);have b2 : PSs (cxOf CX0 P w K mg base ["cell", "many", "letters", "number", "filler", "begin", "step", "size", "place", "front", "back"] "_law_pool" (zl yd) f cdv A outer s H E).nox ((y1 yd).drop 2) _ := (@ui _ _ _ _ _ _ (zz (i := 4) sc_law_pool.nd rfl (Or.inr rfl) (@zt _ _ _ _ _ _ _ zf2 (pv 2) (@zm _ _ _ _ _ _ _ _ ym (pv 3) (@ze _ _ _ _)) (fun _ _ => rfl))) rfl @b3);have b1 : PSs (cxOf CX0 P w K mg base ["cell", "many", "letters", "number", "filler", "begin", "step", "size", "place", "front", "back"] "_law_pool" (zl yd) f cdv A outer s H E).nox ((y1 yd).drop 1) _ := (@ui _ _ _ _ _ _ (zz (i := 3) sc_law_pool.nd rfl (Or.inl rfl) (@zm _ _ _ _ _ _ _ _ ym (@zm _ _ _ _ _ _ _ _ yp (@zm _ _ _ _ _ _ _ _ tq (@zm _ _ _ _ _ _ _ _ ym (pv 0) (@ze _ _ _ _)) (@ze _ _ _ _)) (@ze _ _ _ _)) (@ze _ _ _ _))) rfl @b2);have b0 : PSs (cxOf CX0 P w K mg base ["cell", "many", "letters", "number", "filler", "begin", "step", "size", "place", "front", "back"] "_law_pool" (zl yd) f cdv A outer s H E).nox ((y1 yd).drop 0) _ := (@ui _ _ _ _ _ _ (zz (i := 2) sc_law_pool.nd rfl (Or.inr rfl) (@u7 _ _ _ _)) rfl @b1);have b_ := @zhx _ _ _ @b0;refine ⟨_, @b_, ?_⟩;rw [show start ["cell", "many", "letters", "number", "filler", "begin", "step", "size", "place", "front", "back"] [V.int c, V.int many] = [some (V.int c), some (V.int many), none, none, none, none, none, none, none, none, none] from rfl];simp only [zc, zd, ↓reduceIte];simp only [show (c % 2147483647 * 48271 + 11) % 2147483647 = numA c from rfl, show numA c % 26 = numA c % 26 from rfl];have hn := za8 c
    have hs1 : 1 <= v6 c /\ v6 c <= 8 := by
      have h1 := ZV (numA c / 24336) (show (8 : Int) ≠ 0 by decide);have h2 := ZR (numA c / 24336) (show (0 : Int) < 8 by decide);unfold v6;omega
    have hp1 : 0 <= sr c /\ sr c < v6 c := ⟨ZV _ (by omega), ZR _ (by omega)⟩;have hl1 := zes (ZV (numA c) (show (26 : Int) ≠ 0 by decide)) (ZR (numA c) (show (0 : Int) < 26 by decide));refine ⟨by decide, ?_, by decide, by decide, by decide, _, hl1, ?_⟩
    . exact .inr ⟨by decide, by decide⟩
    refine ⟨⟨by decide, by decide⟩, by decide, rfl, ite2 (fun h => ?_) (fun h => ?_)⟩
    . have h := of_decide_eq_true h
      refine ⟨by omega, by omega, fun d => ?_⟩;rw [Zw];refine xg (fun i ys H' => H' = H /\ ys = (xp c i).map V.str) ⟨rfl, rfl⟩ ?_ ?_ ?_
      . rintro i ys H' hi ⟨rfl, rfl⟩
        rw [Za, xz];exact Zd (show i <= 9 by omega) (by decide)
      . rintro i ys H' hi ⟨rfl, rfl⟩
        simp only [zc, zd, ↓reduceIte];refine ⟨by omega, by omega, ?_, ?_⟩
        . show 1 * _ <= _
          rw [Nat.one_mul];exact Zd (show ((i : Int) + 1).toNat <= 10 by omega) (by decide)
        . rw [gp, vc, if_pos h, Zn, show ((i : Int) + 1).toNat = i + 1 by omega]
          rfl
      . rintro ys H' ⟨rfl, rfl⟩ l hl
        exact q _ l (Same.upd (Same.refl _) hl) hl zg
    . have h : ¬ _ := fun z => h (decide_eq_true z)
      refine ⟨⟨by decide, by decide⟩, by decide, by decide, fun p hp => ⟨⟨by decide, by decide⟩, by decide, _, .of zg, ?_⟩⟩
      have hst : ∃ st : Int, atI [V.int 1, V.int 3, V.int 5, V.int 7, V.int 9, V.int 11, V.int 15, V.int 17, V.int 19, V.int 21, V.int 23, V.int 25] (numA c / 2028 % 12) = some (V.int st) /\ st = sj c /\ 0 <= st /\ st < 26 := by
        have h1 := ZV (numA c / 2028) (show (12 : Int) ≠ 0 by decide);have h2 := ZR (numA c / 2028) (show (0 : Int) < 12 by decide);unfold sj;generalize numA c / 2028 % 12 = m at h1 h2 ⊢;have h3 : ∀ j : Fin 12, [V.int 1, V.int 3, V.int 5, V.int 7, V.int 9, V.int 11, V.int 15, V.int 17, V.int 19, V.int 21, V.int 23, V.int 25][j.val]? = some (V.int (stepsA.getD j.val 0)) /\ 0 <= stepsA.getD j.val 0 /\ stepsA.getD j.val 0 < 26 := by decide
        have h4 := h3 ⟨m.toNat, by omega⟩;have h5 := zw h4.1;rw [ZW h1] at h5;exact ⟨_, h5, rfl, h4.2⟩
      obtain ⟨st, e1, e2, e3, e4⟩ := hst;subst e2;refine ⟨_, e1, ⟨by decide, by decide⟩, by decide, ⟨by decide, by decide⟩, ?_⟩;simp only [show 1 + numA c / 24336 % 8 = v6 c from rfl, show numA c / 194688 % v6 c = sr c from rfl, show (⟨#[97 + (numA c % 26).toNat]⟩ : Str) = mr c from rfl];have hf : (mr c).length = 1 := rfl;rw [hf, Nat.one_mul, Nat.one_mul];refine ⟨by omega, by omega, by omega, ?_, by omega, by omega, ?_, by omega, by omega, fun d => ?_⟩
      . exact Zd (show (sr c).toNat <= 8 by omega) (by decide)
      . exact Zd (show (v6 c - 1 - sr c).toNat <= 8 by omega) (by decide)
      rw [Zw];have S1 : Same H (upd H p (.lst [V.int 1, V.int 3, V.int 5, V.int 7, V.int 9, V.int 11, V.int 15, V.int 17, V.int 19, V.int 21, V.int 23, V.int 25])) := Same.upd (Same.refl _) hp;generalize upd H p (.lst [V.int 1, V.int 3, V.int 5, V.int 7, V.int 9, V.int 11, V.int 15, V.int 17, V.int 19, V.int 21, V.int 23, V.int 25]) = H1 at *;refine xg (fun i ys H' => H' = H1 /\ ys = (xp c i).map V.str) ⟨rfl, rfl⟩ ?_ ?_ ?_
      . rintro i ys H' hi ⟨rfl, rfl⟩
        rw [Za, xz];exact Zd (show i <= 9 by omega) (by decide)
      . rintro i ys H' hi ⟨rfl, rfl⟩
        simp only [zc, zd, ↓reduceIte];have hb := zes (ZV (numA c / 78 % 26 + sj c * i) (show (26 : Int) ≠ 0 by decide)) (ZR (numA c / 78 % 26 + sj c * i) (show (0 : Int) < 26 by decide));refine ⟨.inl ⟨by omega, by omega⟩, by decide, by decide, _, hb, ?_, ?_, ?_⟩
        . rw [xr, hf]
          exact Zd (show _ <= 20 by show 1 * _ + 1 <= 20; omega) (by decide)
        . rw [uh, xr, xr, hf]
          exact Zd (show _ <= 30 by show 1 * _ + 1 + 1 * _ <= 30; omega) (by decide)
        . rw [gp, vc, if_neg h, Zn]
          rfl
      . rintro ys H' ⟨rfl, rfl⟩ l hl
        exact q _ l (Same.upd S1 (S1.free hl)) (S1.free hl) zg
end
def wc (ns : List Int) : Nat := max 1 (min ns.length 63 - 5)
def sw (ns : List Int) (k : Nat) : Int :=
  if k < wc ns then zy ns (5 + k % wc ns)
  else (zy ns (5 + k % wc ns) % 2147483647 * 48271 + (k / wc ns : Nat) * 7919 + k) % 2147483647 * ((zy ns (5 + k % wc ns) % 2147483647 * 48271 + (k / wc ns : Nat) * 7919 + k) % 2147483647) % 2147483629
def ow (c : Int) : Int :=
  if c % 5 = 2 then c / 5 % 10 ^ 18 - 5 * 10 ^ 17 else if c % 5 = 3 then c / 5 % (2 * 10 ^ 60 - 1) - 10 ^ 60 + 1 else if c % 5 = 4 then 0 else c / 5 % 19 - 9
def ef (K : Fg) : Sp := fun vs H Q _ => ∃ (a : Addr) (ns : List Int) (k : Nat), vs = [.ref a, .int k] /\ SqL K H a (ns.map V.int) /\ Q (.int (sw ns k)) H
def zcc : Sp := fun vs H Q _ => ∃ c : Int, vs = [.int c] /\ Q (.int (ow c)) H
section
variable {P : Program} {w : World} {K : Fg} {mg : Str -> Option Value} {base : Heap}
theorem m3 (D : zi K mg "_law_worth" ql ["cell"]) : FnAt P w K mg base "_law_worth" 1 ["cell"] zcc := by
  refine FnAt.of D ak (fun vs H Q E h => ?_) (fun f cdv A outer s H vs Q E hr h => ?_)
  . obtain ⟨c, rfl, _⟩ := h
    rfl
  . obtain ⟨c, rfl, q⟩ := h
    refine ⟨_, (@zj _ _ _ _ _ (@yj _ _ _ _ _ _ _ _ (@yf _ _ _ _ _ _ _ _ vo (@zm _ _ _ _ _ _ _ _ ym (pv 0) (@ze _ _ _ _)) (@ze _ _ _ _) (ye _)) (@zh _ _ _ (@zn _ _ _ _ (@zm _ _ _ _ _ _ _ _ w6 (@zm _ _ _ _ _ _ _ _ ym (@zm _ _ _ _ _ _ _ _ xc (pv 0) (@ze _ _ _ _)) (@zm _ _ _ _ _ _ _ _ ld (@ze _ _ _ _) (@ze _ _ _ _))) (@zm _ _ _ _ _ _ _ _ tq (@ze _ _ _ _) (@zm _ _ _ _ _ _ _ _ ld (@ze _ _ _ _) (@ze _ _ _ _)))))) (@yb _)) (@zj _ _ _ _ _ (@yj _ _ _ _ _ _ _ _ (@yf _ _ _ _ _ _ _ _ vo (@zm _ _ _ _ _ _ _ _ ym (pv 0) (@ze _ _ _ _)) (@ze _ _ _ _) (ye _)) (@zh _ _ _ (@zn _ _ _ _ (@zm _ _ _ _ _ _ _ _ yp (@zm _ _ _ _ _ _ _ _ w6 (@zm _ _ _ _ _ _ _ _ ym (@zm _ _ _ _ _ _ _ _ xc (pv 0) (@ze _ _ _ _)) (@zm _ _ _ _ _ _ _ _ w6 (@zm _ _ _ _ _ _ _ _ tq (@ze _ _ _ _) (@zm _ _ _ _ _ _ _ _ ld (@ze _ _ _ _) (@ze _ _ _ _))) (@ze _ _ _ _))) (@zm _ _ _ _ _ _ _ _ ld (@ze _ _ _ _) (@ze _ _ _ _))) (@ze _ _ _ _)))) (@yb _)) (@zj _ _ _ _ _ (@yj _ _ _ _ _ _ _ _ (@yf _ _ _ _ _ _ _ _ vo (@zm _ _ _ _ _ _ _ _ ym (pv 0) (@ze _ _ _ _)) (@ze _ _ _ _) (ye _)) (@zh _ _ _ (@zn _ _ _ _ (@ze _ _ _ _))) (@yb _)) (@zh _ _ _ (@zn _ _ _ _ (@zm _ _ _ _ _ _ _ _ w6 (@zm _ _ _ _ _ _ _ _ ym (@zm _ _ _ _ _ _ _ _ xc (pv 0) (@ze _ _ _ _)) (@ze _ _ _ _)) (@ze _ _ _ _))))))), ?_⟩;rw [show start ["cell"] [V.int c] = [some (V.int c)] from rfl];simp only [zc, zd, ↓reduceIte];unfold ow at q;refine ⟨by decide, rfl, ite2 (fun h => ?_) (fun h => ?_)⟩
    . rw [if_pos (of_decide_eq_true h)] at q
      exact ⟨⟨by decide, by decide⟩, ⟨by decide, by decide, by decide⟩, by decide, ⟨by decide, by decide, by decide⟩, .inl ⟨by decide, by decide⟩, q⟩
    . rw [if_neg (fun z => h (decide_eq_true z))] at q
      refine ⟨by decide, rfl, ite2 (fun h => ?_) (fun h => ?_)⟩
      . rw [if_pos (of_decide_eq_true h)] at q
        exact ⟨⟨by decide, by decide⟩, ⟨by decide, by decide, by decide⟩, .inl ⟨by decide, by decide⟩, by decide, ⟨by decide, by decide, by decide⟩, q⟩
      . rw [if_neg (fun z => h (decide_eq_true z))] at q
        refine ⟨by decide, rfl, ite2 (fun h => ?_) (fun h => ?_)⟩
        . rw [if_pos (of_decide_eq_true h)] at q
          exact q
        . rw [if_neg (fun z => h (decide_eq_true z))] at q
          exact ⟨⟨by decide, by decide⟩, by decide, q⟩
theorem wp (B : Bt mg) (yt : FnAt P w K mg base "_law_cell_at" 1 ["script", "k"] (nt K)) (D : zi K mg "_law_drawn" qg ["script", "k"]) : FnAt P w K mg base "_law_drawn" 2 ["script", "k"] (ef K) := by
  refine FnAt.of D sc_law_drawn (fun vs H Q E h => ?_) (fun f cdv A outer s H vs Q E hr h => ?_)
  . obtain ⟨a, ns, k, rfl, _⟩ := h
    rfl
  . obtain ⟨a, ns, k, rfl, hS, q⟩ := h
    refine ⟨_, (@zj _ _ _ _ _ (zz (i := 2) sc_law_drawn.nd rfl (Or.inl rfl) (zo (zfd rfl) rfl B.max zfs (za (@ze _ _ _ _) (za (@zm _ _ _ _ _ _ _ _ w6 (zo (zfo rfl) rfl B.min a7 (za (zo zq rfl B.len ya (za (pv 0) (@zb _))) (za (@ze _ _ _ _) (@zb _)))) (@ze _ _ _ _)) (@zb _))))) (@zj _ _ _ _ _ (zz (i := 3) sc_law_drawn.nd rfl (Or.inl rfl) (zk yt (hr.mono (by decide)) rfl (za (pv 0) (za (@zm _ _ _ _ _ _ _ _ yp (@ze _ _ _ _) (@zm _ _ _ _ _ _ _ _ ym (pv 1) (pv 2))) (@zb _))))) (@zj _ _ _ _ _ (@yj _ _ _ _ _ _ _ _ (@yf _ _ _ _ _ _ _ _ jy (pv 1) (pv 2) (ye _)) (@zh _ _ _ (@zn _ _ _ _ (pv 3))) (@yb _)) (@zj _ _ _ _ _ (zz (i := 4) sc_law_drawn.nd rfl (Or.inl rfl) (@zm _ _ _ _ _ _ _ _ ym (@zm _ _ _ _ _ _ _ _ yp (@zm _ _ _ _ _ _ _ _ yp (@zm _ _ _ _ _ _ _ _ tq (@zm _ _ _ _ _ _ _ _ ym (pv 3) (@ze _ _ _ _)) (@ze _ _ _ _)) (@zm _ _ _ _ _ _ _ _ tq (@zm _ _ _ _ _ _ _ _ xc (pv 1) (pv 2)) (@ze _ _ _ _))) (pv 1)) (@ze _ _ _ _))) (@zh _ _ _ (@zn _ _ _ _ (@zm _ _ _ _ _ _ _ _ ym (@zm _ _ _ _ _ _ _ _ tq (pv 4) (pv 4)) (@ze _ _ _ _)))))))), ?_⟩;rw [show start ["script", "k", "many", "cell", "number"] [V.ref a, V.int k] = [some (V.ref a), some (V.int k), none, none, none] from rfl];simp only [zc, zd, ↓reduceIte];refine ⟨_, Or.inl hS, ?_⟩;rw [Za]
    have hm : (if (if (63 : Int) < (ns.length : Int) then (63 : Int) else (ns.length : Int)) - 5 > 1 then (if (63 : Int) < (ns.length : Int) then (63 : Int) else (ns.length : Int)) - 5 else 1) = (wc ns : Int) := by
      unfold wc
      by_cases h1 : (63 : Int) < (ns.length : Int)
      . rw [if_pos h1, if_pos (by omega)]
        omega
      . rw [if_neg h1]
        by_cases h2 : (ns.length : Int) - 5 > 1
        . rw [if_pos h2]; omega
        . rw [if_neg h2]; omega
    rw [hm];have hm1 : 1 <= wc ns := by unfold wc; omega
    have hm2 : wc ns <= 58 := by unfold wc; omega
    refine ⟨by omega, a, ns, 5 + k % wc ns, ?_, hS, ?_⟩
    . rw [show (5 : Int) + (k : Int) % (wc ns : Int) = ((5 + k % wc ns : Nat) : Int) by rw [Int.natCast_add, Int.natCast_emod]; rfl]
    unfold sw at q;refine ite2 (fun h => ?_) (fun h => ?_)
    . rw [if_pos (by have := of_decide_eq_true h; omega)] at q
      exact q
    . rw [if_neg (by have : ¬ (k : Int) < (wc ns : Int) := fun z => h (decide_eq_true z); omega)] at q
      refine ⟨_, rfl, by decide, .inr ⟨by decide, by decide⟩, ⟨by omega, by omega⟩, .inr ⟨by decide, by decide⟩, by decide, .inl ?_, by decide, ?_⟩
      . generalize zy ns (5 + k % wc ns) % 2147483647 * 48271 + (k : Int) / (wc ns : Int) * 7919 + (k : Int) = m
        have h1 := ZV m (show (2147483647 : Int) ≠ 0 by decide);have h2 := ZR m (show (0 : Int) < 2147483647 by decide);omega
      . rw [Int.natCast_ediv] at q
        exact q
end
structure HX where
  t : Addr
  w : Addr
  g : Addr
  gs : List Addr
def HX.adr (x : HX) : List Addr := x.t :: x.w :: x.g :: x.gs
structure HD where
  name : Str
  words : List Str
  worths : List (List Int)
structure HandAt (H : Hp) (x : HX) (d : HD) : Prop where
  tup : H x.t = some (.tup [.str d.name, .ref x.w, .ref x.g])
  words : H x.w = some (.lst (d.words.map V.str))
  grid : H x.g = some (.lst (x.gs.map V.ref))
  len : x.gs.length = d.worths.length
  row : ∀ (i : Nat) (r : Addr) (ns : List Int), x.gs[i]? = some r -> d.worths[i]? = some ns -> H r = some (.lst (ns.map V.int))
theorem HandAt.mono {H H' : Hp} {x : HX} {d : HD} (S : Same H H') (h : HandAt H x d) : HandAt H' x d :=
  ⟨S _ _ h.tup, S _ _ h.words, S _ _ h.grid, h.len, fun i r ns e1 e2 => S _ _ (h.row i r ns e1 e2)⟩
def adrs (xs : List HX) : List Addr := (xs.map HX.adr).flatten
structure NewHands (H H' : Hp) (b : Addr) (xs : List HX) (ds : List HD) : Prop where
  same : Same H H'
  nb : H b = none
  at' : H' b = some (.lst (xs.map fun x => V.ref x.t))
  len : xs.length = ds.length
  hand : ∀ (i : Nat) (x : HX) (d : HD), xs[i]? = some x -> ds[i]? = some d -> HandAt H' x d
  new : ∀ y ∈ adrs xs, H y = none
  old : ∀ y ∈ adrs xs, H' y ≠ none
  nd : (adrs xs).Nodup
  ne : b ∉ adrs xs
theorem NewHands.nil {H H' : Hp} {b : Addr} (s : Same H H') (nb : H' b = none) : NewHands H (upd H' b (.lst [])) b [] [] :=
  ⟨Same.upd s (s.free nb), s.free nb, zg, rfl, (fun i x d e => by simp at e), (fun y z => nomatch z), (fun y z => nomatch z), Yv, (fun z => nomatch z)⟩
theorem NewHands.more {H H' H2 : Hp} {b : Addr} {xs : List HX} {ds : List HD} (g : NewHands H H' b xs ds) (S : Same H' H2) : NewHands H H2 b xs ds :=
  ⟨g.same.trans S, g.nb, S _ _ g.at', g.len, fun i x d e1 e2 => (g.hand i x d e1 e2).mono S, g.new, fun y hy => by
    cases e : H' y with
    | none => exact absurd e (g.old y hy)
    | some o => rw [S _ _ e]; simp, g.nd, g.ne⟩
theorem NewHands.snoc {H H' : Hp} {b : Addr} {xs : List HX} {ds : List HD} {x : HX} {d : HD} (g : NewHands H H' b xs ds) (h : HandAt H' x d) (hn : ∀ y ∈ x.adr, H y = none) (hx : x.adr.Nodup) (ho : ∀ y ∈ x.adr, y ∉ adrs xs) (hb : b ∉ x.adr) :
    NewHands H (upd H' b (.lst (xs.map (fun x => V.ref x.t) ++ [.ref x.t]))) b (xs ++ [x]) (ds ++ [d]) := by
  have ap : adrs (xs ++ [x]) = adrs xs ++ x.adr := by simp [adrs]
  have keep : ∀ y o, y ≠ b -> H' y = some o -> upd H' b (.lst (xs.map (fun x => V.ref x.t) ++ [.ref x.t])) y = some o := fun y o e q => by rw [zx e]; exact q
  have hand' : ∀ {z : HX} {e : HD}, HandAt H' z e -> b ∉ z.adr -> HandAt (upd H' b (.lst (xs.map (fun x => V.ref x.t) ++ [.ref x.t]))) z e := fun {z e} q nb => by
    have n : ∀ y ∈ z.adr, y ≠ b := fun y hy e => nb (e ▸ hy)
    exact ⟨keep _ _ (n _ (by simp [HX.adr])) q.tup, keep _ _ (n _ (by simp [HX.adr])) q.words, keep _ _ (n _ (by simp [HX.adr])) q.grid, q.len, fun i r ns e1 e2 => keep _ _ (n _ (by simp [HX.adr, Zi e1])) (q.row i r ns e1 e2)⟩
  refine ⟨Same.upd g.same g.nb, g.nb, by rw [zg]; simp, by simp [g.len], fun i z e e1 e2 => ?_, fun y hy => ?_, fun y hy => ?_, ?_, ?_⟩
  . by_cases hi : i < xs.length
    . rw [Zg hi] at e1
      rw [Zg (by rw [<- g.len]; exact hi)] at e2;refine hand' (g.hand i z e e1 e2) fun q => g.ne ?_
      exact YC.mpr ⟨_, Zp.mpr ⟨z, Zi e1, rfl⟩, q⟩
    . rw [Zf (ZD.mp hi)] at e1
      rw [Zf (by rw [<- g.len]; exact ZD.mp hi)] at e2
      have e0 : i - xs.length = 0 := by
        have := (Zc.mp e1).1;simp at this; omega
      rw [e0] at e1;rw [<- g.len, e0] at e2;simp at e1 e2;subst e1 e2;exact hand' h hb
  . rw [ap] at hy
    rcases ZH.mp hy with z | z
    . exact g.new y z
    . exact hn y z
  . rw [ap] at hy
    have hyb : y ≠ b := fun e => by
      rcases ZH.mp hy with z | z
      . exact g.ne (e ▸ z)
      . exact hb (e ▸ z)
    rw [zx hyb]
    rcases ZH.mp hy with z | z
    . exact g.old y z
    . rcases ZK.mp z with e | z
      . rw [e, h.tup]; simp
      rcases ZK.mp z with e | z
      . rw [e, h.words]; simp
      rcases ZK.mp z with e | z
      . rw [e, h.grid]; simp
      . obtain ⟨i, hi, rfl⟩ := Zy z
        have e1 : x.gs[i]? = some x.gs[i] := by simp [hi]
        have hi2 : i < d.worths.length := by rw [<- h.len]; exact hi
        have e2 : d.worths[i]? = some d.worths[i] := by simp [hi2]
        rw [h.row i _ _ e1 e2]; simp
  . rw [ap]
    refine Yp.mpr ⟨g.nd, hx, fun y hy z hz e => ?_⟩;exact ho z hz (e ▸ hy)
  . rw [ap]
    intro z
    rcases ZH.mp z with z | z
    . exact g.ne z
    . exact hb z
def y4 (ns : List Int) : Nat := (1 + zy ns 1 % 8).toNat
def rq (ns : List Int) : List Str := xp (zy ns 0) (y4 ns)
def ww (ns : List Int) : Nat := (1 + zy ns 1 / 8 % 4).toNat
def xw (ns tops : List Int) (j : Nat) : Nat := (1 + zy ns 2 / ([1, 9, 83, 761] : List Int).getD j 0 % tops.getD (zy ns 1 / 8 % 4).toNat 0).toNat
def ll (ns : List Int) (j : Nat) : Int := [zy ns 0, zy ns 0 / 5 + j, zy ns 3 + 31 * j].getD (zy ns 1 / 32 % 3).toNat 0
def ue (ns : List Int) : Int := [zy ns 0, zy ns 0 / 7 + 2].getD (zy ns 1 / 96 % 2).toNat 0
def rowA (ns : List Int) (k n : Nat) : List Int := (List.range n).map fun i => ow (sw ns (k + i))
def vq (ns : List Int) (k n m : Nat) : List (List Int) := (List.range m).map fun r => rowA ns (k + r * n) n
def xn (ns tops : List Int) : Nat -> Nat
  | 0 => 0
  | j + 1 => xn ns tops j + xw ns tops j * y4 ns
def ba (ns tops : List Int) (j : Nat) : HD := ⟨vc (ue ns) j, xp (ll ns j) (xw ns tops j), vq ns (xn ns tops j) (y4 ns) (xw ns tops j)⟩
def wo (ns tops : List Int) (m : Nat) : List HD := (List.range m).map (ba ns tops)
theorem zba (ns tops : List Int) (m : Nat) : wo ns tops (m + 1) = wo ns tops m ++ [ba ns tops m] := by rw [wo, Yn, Zn]; rfl
theorem zfu (ns : List Int) (k n : Nat) : rowA ns k (n + 1) = rowA ns k n ++ [ow (sw ns (k + n))] := by rw [rowA, Yn, Zn]; rfl
theorem im (ns : List Int) (k n : Nat) : (rowA ns k n).length = n := by rw [rowA, Za, Yc]
theorem zdo (ns : List Int) (k n m : Nat) : vq ns k n (m + 1) = vq ns k n m ++ [rowA ns (k + m * n) n] := by rw [vq, Yn, Zn]; rfl
theorem d8 (ns : List Int) (k n m : Nat) : (vq ns k n m).length = m := by rw [vq, Za, Yc]
theorem y8 (a : Int) {n : Int} (h : 0 < n) : 0 <= a % n /\ a % n < n := ⟨ZV _ (by omega), ZR _ h⟩
theorem o4 (ns : List Int) : 1 <= y4 ns /\ y4 ns <= 8 := by
  have := y8 (zy ns 1) (show (0 : Int) < 8 by decide);unfold y4; omega
theorem mn (ns : List Int) : 1 <= ww ns /\ ww ns <= 4 := by
  have := y8 (zy ns 1 / 8) (show (0 : Int) < 4 by decide);unfold ww; omega
def Tops (tops : List Int) : Prop := tops.length = 4 /\ ∀ t ∈ tops, 1 <= t /\ t <= 8
theorem Tops.get {tops : List Int} (h : Tops tops) (ns : List Int) : ∃ t, tops[(zy ns 1 / 8 % 4).toNat]? = some t /\ tops.getD (zy ns 1 / 8 % 4).toNat 0 = t /\ 1 <= t /\ t <= 8 := by
  have := y8 (zy ns 1 / 8) (show (0 : Int) < 4 by decide);have hl : (zy ns 1 / 8 % 4).toNat < tops.length := by rw [h.1]; omega
  refine ⟨tops[(zy ns 1 / 8 % 4).toNat], by simp [hl], by rw [Zk]; simp [hl], h.2 _ (Zl hl)⟩
theorem qr {ns tops : List Int} (h : Tops tops) (j : Nat) : 1 <= xw ns tops j /\ xw ns tops j <= 8 := by
  obtain ⟨t, _, e, h1, h2⟩ := h.get ns;unfold xw;rw [e];have := y8 (zy ns 2 / ([1, 9, 83, 761] : List Int).getD j 0) (show 0 < t by omega);omega
theorem zam {α : Type} {xs : List α} {i : Int} (h0 : 0 <= i) {v : α} (h : xs[i.toNat]? = some v) : atI xs i = some v := by
  have := zw h
  rwa [ZW h0] at this
def zbz (K : Fg) : Sp := fun vs H Q _ => ∃ (a tp : Addr) (ns tops : List Int), vs = [.ref a, .ref tp] /\ SqL K H a (ns.map V.int) /\ SqL K H tp (tops.map V.int) /\ Tops tops /\
  ∀ H1 H2 H3 (o b p : Addr) (xs : List HX), Same H H1 -> H o = none -> H1 o = some (.lst ((rq ns).map V.str)) -> NewHands H1 H2 b xs (wo ns tops (ww ns)) -> H2 p = none -> H3 = upd H2 p (.tup [.ref o, .ref b]) -> Q (.ref p) H3
def PvH (a tp o b : Addr) (ns tops : List Int) (H1 : Hp) (j : Nat) : L2.St -> Hp -> Prop := fun σ H' => ∃ (xs : List HX) (t1 t2 t3 t4 t5 : Option V), NewHands H1 H' b xs (wo ns tops j) /\ σ = [some (V.ref a), some (V.ref tp), some (V.int (zy ns 0)), some (V.int (zy ns 1)), some (V.ref o), some (V.ref b), some (V.int (xn ns tops j)), t1, t2, t3, t4, t5]
def PvG (a tp o b g wl : Addr) (ns tops : List Int) (H5 : Hp) (j : Nat) (m : Nat) : L2.St -> Hp -> Prop := fun σ H' => ∃ (gs : List Addr) (t2 t5 : Option V), NewGrid H5 H' g gs (vq ns (xn ns tops j) (y4 ns) m) m (y4 ns) /\ σ = [some (V.ref a), some (V.ref tp), some (V.int (zy ns 0)), some (V.int (zy ns 1)), some (V.ref o), some (V.ref b), some (V.int ((xn ns tops j + m * y4 ns : Nat) : Int)), some (V.int j), t2, some (V.ref wl), some (V.ref g), t5]
def PvR (ns : List Int) (H6 : Hp) (k : Nat) (i : Nat) (ys : List V) (H' : Hp) : Prop := H' = H6 /\ ys = (rowA ns k i).map V.int
section
variable {P : Program} {w : World} {K : Fg} {mg : Str -> Option Value} {base : Heap}
theorem m6 (B : Bt mg) (yt : FnAt P w K mg base "_law_cell_at" 1 ["script", "k"] (nt K)) (tw : FnAt P w K mg base "_law_pool" 1 ["cell", "many"] zfl) (m3 : FnAt P w K mg base "_law_worth" 1 ["cell"] zcc) (wp : FnAt P w K mg base "_law_drawn" 2 ["script", "k"] (ef K))
    (D : zi K mg "_law_parts" rm ["script", "tops"]) : FnAt P w K mg base "_law_parts" 3 ["script", "tops"] (zbz K) := by
  refine FnAt.of D sc_law_parts (fun vs H Q E h => ?_) (fun f cdv A outer s H vs Q E hr h => ?_)
  . obtain ⟨a, tp, ns, tops, rfl, _⟩ := h
    rfl
  . obtain ⟨a, tp, ns, tops, rfl, hS, hT, ht, q⟩ := h
    refine ⟨_, (@zj _ _ _ _ _ (zz (i := 2) sc_law_parts.nd rfl (Or.inl rfl) (zk yt (hr.mono (by decide)) rfl (za (pv 0) (za (@ze _ _ _ _) (@zb _))))) (@zj _ _ _ _ _ (zz (i := 3) sc_law_parts.nd rfl (Or.inl rfl) (zk yt (hr.mono (by decide)) rfl (za (pv 0) (za (@ze _ _ _ _) (@zb _))))) (@zj _ _ _ _ _ (zz (i := 4) sc_law_parts.nd rfl (Or.inl rfl) (zk tw (hr.mono (by decide)) rfl (za (pv 2) (za (@zm _ _ _ _ _ _ _ _ yp (@ze _ _ _ _) (@zm _ _ _ _ _ _ _ _ ym (pv 3) (@ze _ _ _ _))) (@zb _))))) (@zj _ _ _ _ _ (zz (i := 5) sc_law_parts.nd rfl (Or.inl rfl) (@xm _ _ _ _ (@zb _))) (@zj _ _ _ _ _ (zz (i := 6) sc_law_parts.nd rfl (Or.inr rfl) (@ze _ _ _ _)) (@zj _ _ _ _ _ (yx PassesOwn.never rfl (yl rfl B.range (za (@zm _ _ _ _ _ _ _ _ yp (@ze _ _ _ _) (@zm _ _ _ _ _ _ _ _ ym (@zm _ _ _ _ _ _ _ _ xc (pv 3) (@ze _ _ _ _)) (@ze _ _ _ _))) (@zb _))) (zp (i := 7) sc_law_parts.nd rfl (Or.inl rfl)) (@zj _ _ _ _ _ (zz (i := 8) sc_law_parts.nd rfl (Or.inl rfl) (@zm _ _ _ _ _ _ _ _ yp (@ze _ _ _ _) (@zm _ _ _ _ _ _ _ _ ym (@zm _ _ _ _ _ _ _ _ xc (zk yt (hr.mono (by decide)) rfl (za (pv 0) (za (@ze _ _ _ _) (@zb _)))) (@zt _ _ _ _ _ _ _ z0 (@xm _ _ _ _ (za (@ze _ _ _ _) (za (@ze _ _ _ _) (za (@ze _ _ _ _) (za (@ze _ _ _ _) (@zb _)))))) (pv 7) (fun _ _ => rfl))) (@zt _ _ _ _ _ _ _ z0 (pv 1) (@zm _ _ _ _ _ _ _ _ ym (@zm _ _ _ _ _ _ _ _ xc (pv 3) (@ze _ _ _ _)) (@ze _ _ _ _)) (fun _ _ => rfl))))) (@zj _ _ _ _ _ (zz (i := 9) sc_law_parts.nd rfl (Or.inl rfl) (zk tw (hr.mono (by decide)) rfl (za (@zt _ _ _ _ _ _ _ z0 (@xm _ _ _ _ (za (pv 2) (za (@zm _ _ _ _ _ _ _ _ yp (@zm _ _ _ _ _ _ _ _ xc (pv 2) (@ze _ _ _ _)) (pv 7)) (za (@zm _ _ _ _ _ _ _ _ yp (zk yt (hr.mono (by decide)) rfl (za (pv 0) (za (@ze _ _ _ _) (@zb _)))) (@zm _ _ _ _ _ _ _ _ tq (@ze _ _ _ _) (pv 7))) (@zb _))))) (@zm _ _ _ _ _ _ _ _ ym (@zm _ _ _ _ _ _ _ _ xc (pv 3) (@ze _ _ _ _)) (@ze _ _ _ _)) (fun _ _ => rfl)) (za (pv 8) (@zb _))))) (@zj _ _ _ _ _ (zz (i := 10) sc_law_parts.nd rfl (Or.inl rfl) (@xm _ _ _ _ (@zb _))) (@zj _ _ _ _ _ (yx PassesOwn.never rfl (@yg _ _ _ _ (pv 9)) (zp (i := 11) sc_law_parts.nd rfl (Or.inl rfl)) (@zj _ _ _ _ _ (wx (qe PySem.F.plainAttrs_list PySem.F.slot_list_append PySem.F.type_list_append qw (pv 10) (za (yk ["i"] ["script", "tops", "first", "shape", "outcomes", "hands", "k", "j", "size", "words", "worths", "word"] rfl (yl rfl B.range (za (zo zq rfl B.len ya (za (pv 4) (@zb _))) (@zb _))) (fun _ => (zp (i := 0) (show (["i", "script", "tops", "first", "shape", "outcomes", "hands", "k", "j", "size", "words", "worths", "word"] : List Str).Nodup by decide +kernel) rfl (Or.inl rfl))) (fun _ => (@yc _)) (fun _ => (zk m3 (hr.mono (by decide)) rfl (za (zk wp (hr.mono (by decide)) rfl (za (pv 1) (za (@zm _ _ _ _ _ _ _ _ yp (pv 7) (pv 0)) (@zb _)))) (@zb _)))) rfl (by decide +kernel) rfl rfl) (@zb _)))) (@zh _ _ _ (zz (i := 6) sc_law_parts.nd rfl (Or.inr rfl) (@zm _ _ _ _ _ _ _ _ yp (pv 6) (zo zq rfl B.len ya (za (pv 4) (@zb _)))))))) (@zh _ _ _ (wx (qe PySem.F.plainAttrs_list PySem.F.slot_list_append PySem.F.type_list_append qw (pv 5) (@za _ _ _ _ _ (@y7 _ _ _ _ _ (@za _ _ _ _ _ (@zt _ _ _ _ _ _ _ z0 (zk tw (hr.mono (by decide)) rfl (@za _ _ _ _ _ (@zt _ _ _ _ _ _ _ z0 (@xm _ _ _ _ (@za _ _ _ _ _ (pv 2) (@za _ _ _ _ _ (@zm _ _ _ _ _ _ _ _ yp (@zm _ _ _ _ _ _ _ _ xc (pv 2) (@ze _ _ _ _)) (@ze _ _ _ _)) (@zb _) (z8 nofun)) (z8 nofun))) (@zm _ _ _ _ _ _ _ _ ym (@zm _ _ _ _ _ _ _ _ xc (pv 3) (@ze _ _ _ _)) (@ze _ _ _ _)) (fun _ _ => rfl)) (@za _ _ _ _ _ (@ze _ _ _ _) (@zb _) (z8 nofun)) (z8 nofun))) (pv 7) (fun _ _ => rfl)) (@za _ _ _ _ _ (pv 9) (@za _ _ _ _ _ (pv 10) (@zb _) (z8 nofun)) (z8 nofun)) (z8 nofun))) (@zb _) (z8 nofun)))))))))) (@zh _ _ _ (@zn _ _ _ _ (@y7 _ _ _ _ _ (za (pv 4) (za (pv 5) (@zb _)))))))))))), ?_⟩;rw [show start ["script", "tops", "first", "shape", "outcomes", "hands", "k", "j", "size", "words", "worths", "word"] [V.ref a, V.ref tp] = [some (V.ref a), some (V.ref tp), none, none, none, none, none, none, none, none, none, none] from rfl];simp only [zc, zd, ↓reduceIte];refine ⟨a, ns, 0, rfl, hS, ?_⟩;simp only [zc, zd, ↓reduceIte];refine ⟨a, ns, 1, rfl, hS, ?_⟩;simp only [zc, zd, ↓reduceIte];refine ⟨by decide, zy ns 0, y4 ns, ?_, ?_, fun H1 o S1 ho ho1 => ?_⟩
    . have := y8 (zy ns 1) (show (0 : Int) < 8 by decide)
      rw [show ((y4 ns : Nat) : Int) = 1 + zy ns 1 % 8 by unfold y4; omega]
    . have := o4 ns; omega
    simp only [zc, zd, ↓reduceIte];refine ⟨by decide, fun b hb => ?_⟩;have hh := y8 (zy ns 1 / 8) (show (0 : Int) < 4 by decide);have hN := mn ns;have hO := o4 ns;refine ⟨⟨by decide, by decide⟩, by decide, by omega, by omega, ?_⟩;rw [show (1 + zy ns 1 / 8 % 4).toNat = ww ns from rfl];refine xa (PvH a tp o b ns tops H1) ⟨[], _, _, _, _, _, NewHands.nil (Same.refl _) hb, rfl⟩ ?_ ?_
    . rintro j σ H' hj ⟨xs, t1, t2, t3, t4, t5, G, rfl⟩
      simp only [zc, zd, ↓reduceIte];have SA := S1.trans G.same;refine ⟨a, ns, 2, rfl, SA.seq hS, by decide, fun p1 hp1 => ?_⟩;have S2 : Same H' (upd H' p1 (.lst [V.int 1, V.int 9, V.int 83, V.int 761])) := Same.upd (Same.refl _) hp1;have hl2 : upd H' p1 (.lst [V.int 1, V.int 9, V.int 83, V.int 761]) p1 = some (.lst [V.int 1, V.int 9, V.int 83, V.int 761]) := zg;generalize upd H' p1 (.lst [V.int 1, V.int 9, V.int 83, V.int 761]) = H2 at *
      have hdiv : [V.int 1, V.int 9, V.int 83, V.int 761][j]? = some (V.int (([1, 9, 83, 761] : List Int).getD j 0)) /\ 0 < ([1, 9, 83, 761] : List Int).getD j 0 /\ ([1, 9, 83, 761] : List Int).getD j 0 < 1073741824 := by
        have : ∀ k : Fin 4, [V.int 1, V.int 9, V.int 83, V.int 761][k.val]? = some (V.int (([1, 9, 83, 761] : List Int).getD k.val 0)) /\ 0 < ([1, 9, 83, 761] : List Int).getD k.val 0 /\ ([1, 9, 83, 761] : List Int).getD k.val 0 < 1073741824 := by decide
        exact this ⟨j, by omega⟩
      refine ⟨_, .of hl2, _, zw hdiv.1, ?_⟩;simp only [zc, zd, ↓reduceIte];obtain ⟨t, et, et2, ht1, ht2⟩ := ht.get ns;refine ⟨⟨hdiv.2.1, hdiv.2.2⟩, ⟨by decide, by decide⟩, by decide, _, (SA.trans S2).seq hT, _, zam hh.1 (v := V.int t) (by rw [Ze, et]; rfl), ?_⟩;simp only [zc, zd, ↓reduceIte];refine ⟨by omega, ⟨by decide, by decide⟩, a, ns, 3, rfl, (SA.trans S2).seq hS, ?_⟩;simp only [zc, zd, ↓reduceIte];refine ⟨.inl ⟨by decide, by decide⟩, by decide, fun p2 hp2 => ?_⟩;have S3 : Same H2 (upd H2 p2 (.lst [V.int (zy ns 0), V.int (zy ns 0 / 5 + j), V.int (zy ns 3 + 31 * j)])) := Same.upd (Same.refl _) hp2;have hl3 : upd H2 p2 (.lst [V.int (zy ns 0), V.int (zy ns 0 / 5 + j), V.int (zy ns 3 + 31 * j)]) p2 = some (.lst [V.int (zy ns 0), V.int (zy ns 0 / 5 + j), V.int (zy ns 3 + 31 * j)]) := zg;generalize upd H2 p2 (.lst [V.int (zy ns 0), V.int (zy ns 0 / 5 + j), V.int (zy ns 3 + 31 * j)]) = H3 at *;have h32 := y8 (zy ns 1 / 32) (show (0 : Int) < 3 by decide)
      have hw3 : [V.int (zy ns 0), V.int (zy ns 0 / 5 + j), V.int (zy ns 3 + 31 * j)][(zy ns 1 / 32 % 3).toNat]? = some (V.int (ll ns j)) := by
        unfold ll;have : (zy ns 1 / 32 % 3).toNat < 3 := by omega
        generalize (zy ns 1 / 32 % 3).toNat = m at this ⊢
        match m, this with
        | 0, _ => rfl
        | 1, _ => rfl
        | 2, _ => rfl
      refine ⟨⟨by decide, by decide⟩, by decide, _, .of hl3, _, zam h32.1 hw3, ll ns j, xw ns tops j, ?_, ?_, fun H4 wl S4 hwl hwl4 => ?_⟩
      . have := y8 (zy ns 2 / ([1, 9, 83, 761] : List Int).getD j 0) (show 0 < t by omega)
        rw [show ((xw ns tops j : Nat) : Int) = 1 + zy ns 2 / ([1, 9, 83, 761] : List Int).getD j 0 % t by unfold xw; rw [et2]; omega]
      . have := qr (ns := ns) ht j; omega
      refine ⟨by decide, fun g hg => ?_⟩;have hwN := qr (ns := ns) ht j;have SB := (SA.trans S2).trans (S3.trans S4);have GG := (G.more S2).more (S3.trans S4);have hwg : upd H4 g (.lst []) wl = some (.lst ((xp (ll ns j) (xw ns tops j)).map V.str)) := by rw [zx (y3 hwl4 hg)]; exact hwl4
      refine ⟨_, rfl, ⟨_, .of hwg⟩, ?_⟩;refine x9 (K := K) (xs := (xp (ll ns j) (xw ns tops j)).map V.str) (PvG a tp o b g wl ns tops H4 j) ⟨[], _, _, NewGrid.nil (Same.refl _) hg, by rw [Nat.zero_mul, Nat.add_zero]⟩ ?_ ?_ ?_
      . rintro m σ H5 hm ⟨gs, t2, t5, NG, rfl⟩
        exact .of (NG.same _ _ hwl4)
      . rintro m x σ H5 hx ⟨gs, t2, t5, NG, rfl⟩
        simp only [zc, zd, ↓reduceIte];have So : Same H1 H5 := (G.same.trans (S2.trans (S3.trans S4))).trans NG.same;have ho5 : H5 o = some (.lst ((rq ns).map V.str)) := So _ _ ho1
        have hm : m < xw ns tops j := by
          have := (Zc.mp hx).1;rw [Za, xz] at this;exact this
        have hol : ((rq ns).map V.str).length = y4 ns := by rw [Za, rq, xz]
        refine ⟨.inl ⟨rfl, _, .of NG.at'⟩, _, .inl (.of ho5), ?_⟩;rw [hol, Zw];refine ⟨by omega, by omega, fun d => ?_⟩;refine xg (PvR ns H5 (xn ns tops j + m * y4 ns)) ⟨rfl, rfl⟩ ?_ ?_ ?_
        . rintro i ys H6 hi ⟨rfl, rfl⟩
          rw [Za, im];exact Zd (show i <= 8 by omega) (by decide)
        . rintro i ys H6 hi ⟨rfl, rfl⟩
          simp only [zc, zd, ↓reduceIte];refine ⟨a, ns, xn ns tops j + m * y4 ns + i, ?_, (S1.trans So).seq hS, ?_⟩
          . rw [show ((xn ns tops j + m * y4 ns : Nat) : Int) + (i : Int) = ((xn ns tops j + m * y4 ns + i : Nat) : Int) by omega]
          refine ⟨_, rfl, rfl, ?_⟩;rw [zfu, Zn];rfl
        . rintro ys H6 ⟨rfl, rfl⟩ l hl
          have hgl : g ≠ l := y3 NG.at' hl;refine ⟨gs.map V.ref, by rw [zx hgl]; exact NG.at', ?_, (rq ns).map V.str, .inl ?_, ?_⟩
          . rw [Za, NG.lb]
            exact Zh hm (Zd hwN.2 (by decide))
          . have hog : o ≠ g := fun e => by
              have h1 := (G.same.trans (S2.trans (S3.trans S4))) _ _ ho1;rw [e, hg] at h1; cases h1
            have hol2 : o ≠ l := y3 ho5 hl;exact .of (by rw [zx hog, zx hol2]; exact ho5)
          . have NG2 := NG.laid (c := l) (o := .lst ((rowA ns (xn ns tops j + m * y4 ns) (y4 ns)).map V.int)) hl
            have NG3 := NG2.snoc (c := l) (ns := rowA ns (xn ns tops j + m * y4 ns) (y4 ns)) (NG.same.free hl) zg (im ..) (fun z => by
              obtain ⟨k, hk, e⟩ := Zy z;have e1 : gs[k]? = some l := by rw [<- e]; simp [hk]
              have hk2 : k < (vq ns (xn ns tops j) (y4 ns) m).length := by rw [NG.lr, <- NG.lb]; exact hk
              have e2 : (vq ns (xn ns tops j) (y4 ns) m)[k]? = some (vq ns (xn ns tops j) (y4 ns) m)[k] := by simp [hk2]
              have := (NG.row k l _ e1 e2).1
              rw [hl] at this; cases this) (Ne.symm hgl)
            refine ⟨gs ++ [l], t2, some x, ?_, ?_⟩
            . rw [zdo]
              exact NG3
            . rw [hol, show ((xn ns tops j + m * y4 ns : Nat) : Int) + (y4 ns : Int) = ((xn ns tops j + (m + 1) * y4 ns : Nat) : Int) by rw [Nat.succ_mul]; omega]
      . rintro σ H5 ⟨gs, t2, t5, NG, rfl⟩
        rw [Za, xz] at NG ⊢;simp only [zc, zd, ↓reduceIte];have S5 := NG.same;have GH := GG.more S5;have hb5 := GH.at';refine ⟨.inl ⟨rfl, _, .of hb5⟩, ⟨by decide, by decide⟩, by decide, fun p3 hp3 => ?_⟩;have S6 : Same H5 (upd H5 p3 (.lst [V.int (zy ns 0), V.int (zy ns 0 / 7 + 2)])) := Same.upd (Same.refl _) hp3;have hl6 : upd H5 p3 (.lst [V.int (zy ns 0), V.int (zy ns 0 / 7 + 2)]) p3 = some (.lst [V.int (zy ns 0), V.int (zy ns 0 / 7 + 2)]) := zg;generalize upd H5 p3 (.lst [V.int (zy ns 0), V.int (zy ns 0 / 7 + 2)]) = H6 at *;have h96 := y8 (zy ns 1 / 96) (show (0 : Int) < 2 by decide)
        have hw6 : [V.int (zy ns 0), V.int (zy ns 0 / 7 + 2)][(zy ns 1 / 96 % 2).toNat]? = some (V.int (ue ns)) := by
          unfold ue;have : (zy ns 1 / 96 % 2).toNat < 2 := by omega
          generalize (zy ns 1 / 96 % 2).toNat = m at this ⊢
          match m, this with
          | 0, _ => rfl
          | 1, _ => rfl
        refine ⟨⟨by decide, by decide⟩, by decide, _, .of hl6, _, zam h96.1 hw6, ue ns, 4, rfl, by decide, fun H7 l S7 hl hl7 => ?_⟩;have hj4 : j < 4 := by omega
        refine ⟨_, rfl, _, .of hl7, V.str (vc (ue ns) j), ?_, by decide, fun tt htt => ?_⟩
        . refine zw ?_
          rw [Ze, xp, Ze, List.getElem?_range hj4];rfl
        have S57 := S6.trans S7;have S8 : Same H7 (upd H7 tt (.tup [V.str (vc (ue ns) j), V.ref wl, V.ref g])) := Same.upd (Same.refl _) htt;have htt8 : upd H7 tt (.tup [V.str (vc (ue ns) j), V.ref wl, V.ref g]) tt = some (.tup [V.str (vc (ue ns) j), V.ref wl, V.ref g]) := zg;generalize upd H7 tt (.tup [V.str (vc (ue ns) j), V.ref wl, V.ref g]) = H8 at *;have S58 := S57.trans S8;have G7 := GH.more S57;have G8 := GH.more S58;have hb8 := G8.at';have hd : HandAt H8 ⟨tt, wl, g, gs⟩ (ba ns tops j) := ⟨htt8, S58 _ _ (S5 _ _ hwl4), S58 _ _ NG.at', by rw [NG.lb]; exact (d8 ..).symm, fun i r ms e1 e2 => S58 _ _ (NG.row i r ms e1 e2).1⟩
        have h4 : ∀ y ∈ g :: gs, H4 y = none := fun y hy => by
          rcases ZK.mp hy with e | z
          . rw [e]; exact hg
          . exact NG.nr y z
        have S14 : Same H1 H4 := GG.same;have S13 : Same H1 H3 := G.same.trans (S2.trans S3)
        have h5 : ∀ y ∈ wl :: g :: gs, H5 y ≠ none := fun y hy => by
          rcases ZK.mp hy with e | z
          . rw [e, S5 _ _ hwl4]; simp
          rcases ZK.mp z with e | z
          . rw [e, NG.at']; simp
          . obtain ⟨k, hk, e⟩ := Zy z
            have e1 : gs[k]? = some y := by rw [<- e]; simp [hk]
            have hk2 : k < (vq ns (xn ns tops j) (y4 ns) (xw ns tops j)).length := by rw [NG.lr, <- NG.lb]; exact hk
            have e2 : (vq ns (xn ns tops j) (y4 ns) (xw ns tops j))[k]? = some (vq ns (xn ns tops j) (y4 ns) (xw ns tops j))[k] := by simp [hk2]
            rw [(NG.row k y _ e1 e2).1]; simp
        have htt5 : H5 tt = none := S57.free htt;have G3 := (G.more S2).more S3;refine ⟨_, hb8, ?_, ?_⟩
        . rw [Za, G.len, wo, Za, Yc]
          exact Zh hj4 (by decide)
        refine ⟨xs ++ [⟨tt, wl, g, gs⟩], _, _, _, _, _, ?_, rfl⟩;rw [zba];refine G8.snoc hd (fun y hy => ?_) ?_ (fun y hy => ?_) ?_
        . rcases ZK.mp hy with e | hy
          . rw [e]; exact (S14.trans S5).free htt5
          rcases ZK.mp hy with e | hy
          . rw [e]; exact S13.free hwl
          . exact S14.free (h4 y hy)
        . refine ZT.mpr ⟨fun z => h5 _ z htt5, ZT.mpr ⟨fun z => ?_, ZT.mpr ⟨NG.ne, NG.nd⟩⟩⟩
          have := h4 _ z;rw [hwl4] at this; cases this
        . intro hz
          rcases ZK.mp hy with e | hy
          . rw [e] at hz; exact G7.old _ hz htt
          rcases ZK.mp hy with e | hy
          . rw [e] at hz; exact G3.old _ hz hwl
          . exact GG.old _ hz (h4 y hy)
        . intro hy
          rcases ZK.mp hy with e | hy
          . have := G7.at'
            rw [e, htt] at this; cases this
          rcases ZK.mp hy with e | hy
          . have := G3.at'
            rw [e, hwl] at this; cases this
          . have := GG.at'
            rw [h4 _ hy] at this; cases this
    . rintro σ H' ⟨xs, t1, t2, t3, t4, t5, G, rfl⟩
      simp only [zc, zd, ↓reduceIte];exact ⟨by decide, fun p hp => q H1 H' _ o b p xs S1 ho ho1 G hp rfl⟩
end
def p9 (z : Str) : Prop := 1 <= z.length /\ z.length <= 8 /\ ∀ c ∈ z.cps.toList, 97 <= c /\ c <= 122
theorem zcq (i : Int) : 97 <= letA i /\ letA i <= 122 := by
  have := y8 i (show (0 : Int) < 26 by decide);unfold letA; omega
theorem kq {z : Str} {n c : Nat} (h : c ∈ (xl z n).cps.toList) : c ∈ z.cps.toList := by
  unfold xl at h;simp only [List.toList_toArray, YC] at h;obtain ⟨l, h1, h2⟩ := h;rw [(List.mem_replicate.mp h1).2] at h2;exact h2
theorem ib {y z : Str} {c : Nat} (h : c ∈ (y ++ z).cps.toList) : c ∈ y.cps.toList \/ c ∈ z.cps.toList := by
  have : (y ++ z).cps.toList = y.cps.toList ++ z.cps.toList := by
    show (y.cps ++ z.cps).toList = _
    simp
  rw [this] at h;exact ZH.mp h
theorem zae (c : Int) : 1 <= v6 c /\ v6 c <= 8 := by
  have := y8 (numA c / 24336) (show (0 : Int) < 8 by decide);unfold v6; omega
theorem zen (c : Int) : 0 <= sr c /\ sr c < v6 c := y8 _ (by have := zae c; omega)
theorem mq (c : Int) : (mr c).length = 1 := rfl
theorem jp {c : Int} {d : Nat} (h : d ∈ (mr c).cps.toList) : 97 <= d /\ d <= 122 := by
  have : d = letA (numA c) := by simpa [mr, chr1] using h
  rw [this]; exact zcq _
theorem ge (c : Int) {k : Nat} (hk : k < 8) : p9 (vc c k) := by
  unfold vc;have hs := zae c;have hp := zen c
  by_cases h : numA c / 26 % 3 = 1
  . rw [if_pos h]
    refine ⟨?_, ?_, fun d hd => jp (kq hd)⟩ <;> rw [xr, mq] <;> omega
  . rw [if_neg h]
    refine ⟨?_, ?_, fun d hd => ?_⟩
    . rw [uh, uh, xr, xr, mq]
      show 1 <= _ + 1 + _
      omega
    . rw [uh, uh, xr, xr, mq]
      show _ + 1 + _ <= 8
      omega
    . rcases ib hd with z | z
      . rcases ib z with z | z
        . exact jp (kq z)
        . have : d = letA (numA c / 78 % 26 + sj c * k) := by simpa [chr1] using z
          rw [this]; exact zcq _
      . exact jp (kq z)
theorem zii {x y : Str} {n : Nat} {a b : Nat} (f : Str) (h : xl f n ++ chr1 a ++ x = xl f n ++ chr1 b ++ y) : a = b := by
  have h1 : (xl f n ++ chr1 a ++ x).cps.toList = (xl f n ++ chr1 b ++ y).cps.toList := by rw [h]
  have e : ∀ (z : Str) (a : Nat), (xl f n ++ chr1 a ++ z).cps.toList = (xl f n).cps.toList ++ ([a] ++ z.cps.toList) := fun z a => by
    show (((xl f n).cps ++ (chr1 a).cps) ++ z.cps).toList = _
    simp [chr1]
  rw [e, e] at h1;have := List.append_cancel_left h1;simp at this;exact this.1
theorem zbn (c : Int) : sj c ∈ stepsA := by
  have := y8 (numA c / 2028) (show (0 : Int) < 12 by decide);unfold sj;have hl : (numA c / 2028 % 12).toNat < stepsA.length := by show _ < 12; omega
  rw [Zk, Zb hl];exact Zl hl
theorem zgf {c : Int} {b : Int} {i j : Nat} (hi : i < 13) (hj : j < 13) (h : letA (b + sj c * i) = letA (b + sj c * j)) : i = j := by
  have hs := zbn c;generalize sj c = st at hs h;have h1 := y8 (b + st * i) (show (0 : Int) < 26 by decide);have h2 := y8 (b + st * j) (show (0 : Int) < 26 by decide);have h3 : (b + st * i) % 26 = (b + st * j) % 26 := by unfold letA at h; omega
  simp only [stepsA, ZK, Zx, or_false] at hs
  rcases hs with rfl | rfl | rfl | rfl | rfl | rfl | rfl | rfl | rfl | rfl | rfl | rfl <;> omega
theorem zel (c : Int) {i j : Nat} (hi : i < 13) (hj : j < 13) (h : vc c i = vc c j) : i = j := by
  unfold vc at h
  by_cases q : numA c / 26 % 3 = 1
  . rw [if_pos q, if_pos q] at h
    have := congrArg Str.length h;rw [xr, xr, mq] at this;omega
  . rw [if_neg q, if_neg q] at h
    exact zgf hi hj (zii _ h)
theorem m7 (c : Int) {n : Nat} (hn : n <= 13) : (xp c n).Nodup := by
  unfold xp;refine List.pairwise_map.mpr ?_;refine List.Pairwise.imp_of_mem ?_ (List.nodup_range (n := n));intro i j hi hj hne e;exact hne (zel c (by have := ZU.mp hi; omega) (by have := ZU.mp hj; omega) e)
theorem fm (c : Int) {n : Nat} (hn : n <= 8) : ∀ z ∈ xp c n, p9 z := fun z hz => by
  obtain ⟨i, hi, rfl⟩ := Zp.mp hz;exact ge c (by have := ZU.mp hi; omega)
theorem zfk (c : Int) : -(10 ^ 60) < ow c /\ ow c < 10 ^ 60 := by
  unfold ow;have h1 := y8 (c / 5) (show (0 : Int) < 10 ^ 18 by decide);have h2 := y8 (c / 5) (show (0 : Int) < 2 * 10 ^ 60 - 1 by decide);have h3 := y8 (c / 5) (show (0 : Int) < 19 by decide)
  split
  . omega
  . split
    . omega
    . split
      . exact ⟨by decide, by decide⟩
      . omega
def strT (z : Str) : Tr := .lf (.str z)
def intT (i : Int) : Tr := .lf (.int i)
def rowT (ns : List Int) : Tr := .tp (ns.map intT)
def zc9 (d : HD) : Tr := .tp [strT d.name, .tp (d.words.map strT), .tp (d.worths.map rowT)]
def houseT (outs : List Str) (ds : List HD) : Tr := .tp [.tp (outs.map strT), .tp (ds.map zc9)]
structure HandsL (H : Hp) (b : Addr) (xs : List HX) (ds : List HD) : Prop where
  at' : H b = some (.lst (xs.map fun x => V.ref x.t))
  len : xs.length = ds.length
  hand : ∀ (i : Nat) (x : HX) (d : HD), xs[i]? = some x -> ds[i]? = some d -> HandAt H x d
theorem NewHands.lists {H H' : Hp} {b : Addr} {xs : List HX} {ds : List HD} (g : NewHands H H' b xs ds) : HandsL H' b xs ds := ⟨g.at', g.len, g.hand⟩
theorem HandsL.mono {H H' : Hp} {b : Addr} {xs : List HX} {ds : List HD} (S : Same H H') (g : HandsL H b xs ds) : HandsL H' b xs ds := ⟨S _ _ g.at', g.len, fun i x d e1 e2 => (g.hand i x d e1 e2).mono S⟩
theorem oj {K : Fg} {H : Hp} : ∀ (zs : List Str), TrsAt K H (zs.map strT) (zs.map V.str)
  | [] => TrsAt.nil
  | z :: zs => TrsAt.cons (TrAt.lf rfl) (oj zs)
theorem f9 {K : Fg} {H : Hp} : ∀ (zs : List Int), TrsAt K H (zs.map intT) (zs.map V.int)
  | [] => TrsAt.nil
  | z :: zs => TrsAt.cons (TrAt.lf rfl) (f9 zs)
theorem dk : ∀ (zs : List Str), v7 (zs.map strT) = 0
  | [] => by rw [YH, v7]
  | z :: zs => by rw [ZL, v7, dk zs, strT, deep]; rfl
theorem zd4 (zs : List Str) : wy (zs.map strT) = true := i9 fun t ht => by
  obtain ⟨z, _, rfl⟩ := Zp.mp ht;rw [strT, sg]
def PvD (K : Fg) (ds : List HD) (H1 : Hp) (i : Nat) (ys : List V) (H' : Hp) : Prop := Same H1 H' /\ ys.length = i /\ TrsAt K H' ((ds.take i).map zc9) ys
def PvE (K : Fg) (rows : List (List Int)) (H1 : Hp) (i : Nat) (ys : List V) (H' : Hp) : Prop := Same H1 H' /\ ys.length = i /\ TrsAt K H' ((rows.take i).map rowT) ys
section
variable {P : Program} {w : World} {K : Fg} {mg : Str -> Option Value} {base : Heap}
end
def rowL (ns : List Int) : Tr := .ls (ns.map intT)
def zd9 (d : HD) : Tr := .tp [strT d.name, .ls (d.words.map strT), .ls (d.worths.map rowL)]
theorem zbs {K : Fg} {H : Hp} : ∀ {gs : List Addr} {rows : List (List Int)}, gs.length = rows.length -> (∀ (i : Nat) (r : Addr) (ns : List Int), gs[i]? = some r -> rows[i]? = some ns -> H r = some (.lst (ns.map V.int))) -> TrsAt K H (rows.map rowL) (gs.map V.ref)
  | [], [], _, _ => TrsAt.nil
  | g :: gs, r :: rows, hl, h => TrsAt.cons (TrAt.ls (.of (h 0 g r rfl rfl)) (f9 r)) (zbs (by simpa using hl) fun i a b e1 e2 => h (i + 1) a b e1 e2)
theorem HandAt.tree {K : Fg} {H : Hp} {x : HX} {d : HD} (h : HandAt H x d) : TrAt K H (zd9 d) (.ref x.t) :=
  TrAt.tp (.of h.tup) (TrsAt.cons (TrAt.lf rfl) (TrsAt.cons (TrAt.ls (.of h.words) (oj _)) (TrsAt.cons (TrAt.ls (.of h.grid) (zbs h.len h.row)) TrsAt.nil)))
theorem zau {K : Fg} {H : Hp} : ∀ {xs : List HX} {ds : List HD}, xs.length = ds.length -> (∀ (i : Nat) (x : HX) (d : HD), xs[i]? = some x -> ds[i]? = some d -> HandAt H x d) -> TrsAt K H (ds.map zd9) (xs.map fun x => V.ref x.t)
  | [], [], _, _ => TrsAt.nil
  | x :: xs, d :: ds, hl, h => TrsAt.cons (h 0 x d rfl rfl).tree (zau (by simpa using hl) fun i a b e1 e2 => h (i + 1) a b e1 e2)
theorem HandsL.tree {K : Fg} {H : Hp} {b : Addr} {xs : List HX} {ds : List HD} (h : HandsL H b xs ds) : TrAt K H (.ls (ds.map zd9)) (.ref b) := TrAt.ls (.of h.at') (zau h.len h.hand)
mutual
def tups : Tr -> Bool
  | .lf _ => true
  | .ls _ => false
  | .tp ts => bo ts
def bo : List Tr -> Bool
  | [] => true
  | t :: ts => tups t && bo ts
end
mutual
theorem TrAt.past {K : Fg} {H : Hp} {a : Addr} {xs ys : List V} (ha : H a = some (.lst xs)) : ∀ {t : Tr} {x : V}, tups t = true -> TrAt K H t x -> TrAt K (upd H a (.lst ys)) t x
  | .lf v, x, _, h => by rw [TrAt] at h ⊢; exact h
  | .ls ts, x, p, h => by rw [tups] at p; cases p
  | .tp ts, x, p, h => by
    rw [tups] at p;rw [TrAt] at h ⊢;obtain ⟨c, us, e, sq, h⟩ := h;refine ⟨c, us, e, ?_, TrsAt.past ha p h⟩
    have ne : ∀ o, H c = some o -> (∀ zs, o ≠ .lst zs) -> upd H a (.lst ys) c = some o := fun o q n => by
      rw [zx (fun e => by rw [e, ha] at q; cases q; exact n _ rfl)]; exact q
    rcases sq with (q | ⟨o, q⟩) | q
    . exact .inl (.inl (ne _ q (by intro zs z; cases z)))
    . exact .inl (.inr ⟨o, ne _ q (by intro zs z; cases z)⟩)
    . exact .inr q
theorem TrsAt.past {K : Fg} {H : Hp} {a : Addr} {xs ys : List V} (ha : H a = some (.lst xs)) : ∀ {ts : List Tr} {us : List V}, bo ts = true -> TrsAt K H ts us -> TrsAt K (upd H a (.lst ys)) ts us
  | [], us, _, h => by rw [TrsAt] at h ⊢; exact h
  | t :: ts, us, p, h => by
    rw [bo, Bool.and_eq_true] at p;rw [TrsAt] at h ⊢;obtain ⟨y, zs, e, h1, h2⟩ := h;exact ⟨y, zs, e, TrAt.past ha p.1 h1, TrsAt.past ha p.2 h2⟩
end
structure GoodHouse (outs : List Str) (ds : List HD) : Prop where
  outs1 : 1 <= outs.length /\ outs.length <= 8
  outsG : ∀ z ∈ outs, p9 z
  outsD : outs.Nodup
  hands : 1 <= ds.length /\ ds.length <= 4
  handsG : ∀ d ∈ ds, p9 d.name
  handsD : (ds.map HD.name).Nodup
  words1 : ∀ d ∈ ds, 1 <= d.words.length /\ d.words.length <= 8
  wordsG : ∀ d ∈ ds, ∀ z ∈ d.words, p9 z
  wordsD : ∀ d ∈ ds, d.words.Nodup
  rows : ∀ d ∈ ds, d.worths.length = d.words.length
  cols : ∀ d ∈ ds, ∀ r ∈ d.worths, r.length = outs.length
  nums : ∀ d ∈ ds, ∀ r ∈ d.worths, ∀ n ∈ r, -(10 ^ 60) < n /\ n < 10 ^ 60
  few : (ds.map fun d => d.words.length).prod <= 256
def zij (K : Fg) : Sp := fun vs H Q _ => ∃ (o b : Addr) (outs : List Str) (xs : List HX) (ds : List HD), vs = [.ref o, .ref b] /\ H o = some (.lst (outs.map V.str)) /\ HandsL H b xs ds /\ GoodHouse outs ds /\
  ∀ H' p us, Same H H' -> H' p = some (.tup us) -> TrAt K H' (houseT outs ds) (.ref p) -> Q (.ref p) H'
theorem wj {ns tops : List Int} {m : Nat} {d : HD} (h : d ∈ wo ns tops m) : ∃ j, j < m /\ d = ba ns tops j := by
  obtain ⟨j, hj, rfl⟩ := Zp.mp h;exact ⟨j, ZU.mp hj, rfl⟩
theorem zhy {n t : Nat} : ∀ {l : List Nat}, (∀ x ∈ l, x <= t) -> l.length = n -> l.prod <= t ^ n := by
  induction n with
  | zero => intro l _ hl; rw [List.length_eq_zero_iff.mp hl]; simp
  | succ n ih =>
    intro l h hl
    match l, hl with
    | x :: l, hl =>
      rw [YK, Nat.pow_succ, Nat.mul_comm];exact Yq (ih (fun y hy => h y (Zv _ hy)) (by simpa using hl)) (h x ZA)
def FewT (tops : List Int) : Prop := ∀ h, h < 4 -> (tops.getD h 0).toNat ^ (h + 1) <= 256
theorem goodA (ns : List Int) {tops : List Int} (ht : Tops tops) (hf : FewT tops) : GoodHouse (rq ns) (wo ns tops (ww ns)) where
  outs1 := by rw [rq, xz]; exact o4 ns
  outsG := fm _ (o4 ns).2
  outsD := m7 _ (by have := o4 ns; omega)
  hands := by rw [wo, Za, Yc]; exact mn ns
  handsG := fun d hd => by
    obtain ⟨j, hj, rfl⟩ := wj hd;exact ge _ (by have := mn ns; omega)
  handsD := by
    have : (wo ns tops (ww ns)).map HD.name = xp (ue ns) (ww ns) := by rw [wo, xp, List.map_map]; rfl
    rw [this];exact m7 _ (by have := mn ns; omega)
  words1 := fun d hd => by
    obtain ⟨j, hj, rfl⟩ := wj hd
    show 1 <= (xp _ _).length /\ (xp _ _).length <= 8
    rw [xz]; exact qr ht j
  wordsG := fun d hd => by
    obtain ⟨j, hj, rfl⟩ := wj hd;exact fm _ (qr ht j).2
  wordsD := fun d hd => by
    obtain ⟨j, hj, rfl⟩ := wj hd;exact m7 _ (by have := qr (ns := ns) ht j; omega)
  rows := fun d hd => by
    obtain ⟨j, hj, rfl⟩ := wj hd
    show (vq _ _ _ _).length = (xp _ _).length
    rw [d8, xz]
  cols := fun d hd r hr => by
    obtain ⟨j, hj, rfl⟩ := wj hd;obtain ⟨i, _, rfl⟩ := Zp.mp hr;rw [im, rq, xz]
  nums := fun d hd r hr n hn => by
    obtain ⟨j, hj, rfl⟩ := wj hd;obtain ⟨i, _, rfl⟩ := Zp.mp hr;obtain ⟨k, _, rfl⟩ := Zp.mp hn;exact zfk _
  few := by
    obtain ⟨t, e1, e2, h1, h2⟩ := ht.get ns;have hh := y8 (zy ns 1 / 8) (show (0 : Int) < 4 by decide);have h3 := hf (zy ns 1 / 8 % 4).toNat (by omega);rw [e2] at h3;refine Zd (zhy (n := ww ns) (t := t.toNat) (fun x hx => ?_) (by rw [Za, wo, Za, Yc])) ?_
    . obtain ⟨d, hd, rfl⟩ := Zp.mp hx
      obtain ⟨j, hj, rfl⟩ := wj hd
      show (xp _ _).length <= _
      rw [xz];unfold xw;rw [e2];have := y8 (zy ns 2 / ([1, 9, 83, 761] : List Int).getD j 0) (show 0 < t by omega);omega
    . rw [show ww ns = (zy ns 1 / 8 % 4).toNat + 1 by unfold ww; omega]
      exact h3
def bc (i : Int) : Prop := -(10 ^ 60) < i /\ i < 10 ^ 60
def zfq : Sp := fun vs H Q _ => ∃ i : Int, vs = [.int i] /\ Q (.bl true) H
def zfg : Sp := fun vs H Q _ => ∃ i : Int, vs = [.int i] /\ bc i /\ Q (.bl true) H
def qRow : Sp := fun vs H Q _ => ∃ (r : Addr) (ns : List Int) (n : Nat), vs = [.ref r, .int n] /\ H r = some (.lst (ns.map V.int)) /\ ns.length = n /\ n <= 8 /\ (∀ i ∈ ns, bc i) /\ ∀ H', Same H H' -> Q (.bl true) H'
def zd3 : Sp := fun vs H Q _ => ∃ z : Str, vs = [.str z] /\ p9 z /\ ∀ H', Same H H' -> Q (.bl true) H'
def ar : Sp := fun vs H Q _ => ∃ (l : Addr) (zs : List Str) (m : Nat), vs = [.ref l, .int m] /\ H l = some (.lst (zs.map V.str)) /\ 1 <= zs.length /\ zs.length <= m /\ m <= 8 /\ (∀ z ∈ zs, p9 z) /\ zs.Nodup /\ ∀ H', Same H H' -> Q (.bl true) H'
def zco : Sp := fun vs H Q _ => ∃ (g : Addr) (gs : List Addr) (rows : List (List Int)) (h n : Nat), vs = [.ref g, .int h, .int n] /\ H g = some (.lst (gs.map V.ref)) /\ gs.length = h /\ rows.length = h /\ h <= 8 /\ n <= 8 /\ (∀ (i : Nat) (r : Addr) (ns : List Int), gs[i]? = some r -> rows[i]? = some ns -> H r = some (.lst (ns.map V.int))) /\
  (∀ r ∈ rows, r.length = n /\ ∀ i ∈ r, bc i) /\ ∀ H', Same H H' -> Q (.bl true) H'
structure GoodD (d : HD) (n : Nat) : Prop where
  name : p9 d.name
  words : 1 <= d.words.length /\ d.words.length <= 8
  wordsG : ∀ z ∈ d.words, p9 z
  wordsD : d.words.Nodup
  rows : d.worths.length = d.words.length
  cols : ∀ r ∈ d.worths, r.length = n /\ ∀ i ∈ r, bc i
theorem GoodHouse.hand {outs : List Str} {ds : List HD} (g : GoodHouse outs ds) {d : HD} (h : d ∈ ds) : GoodD d outs.length :=
  ⟨g.handsG d h, g.words1 d h, g.wordsG d h, g.wordsD d h, g.rows d h, fun r hr => ⟨g.cols d h r hr, fun i hi => g.nums d h r hr i hi⟩⟩
def qHand : Sp := fun vs H Q _ => ∃ (x : HX) (d : HD) (n : Nat), vs = [.ref x.t, .int n] /\ HandAt H x d /\ GoodD d n /\ n <= 8 /\ ∀ H', Same H H' -> Q (.bl true) H'
def su (f : HX -> HD -> V) : Sp := fun vs H Q _ => ∃ (x : HX) (d : HD), vs = [.ref x.t] /\ HandAt H x d /\ Q (f x d) H
def zfm : Sp := fun vs H Q _ => ∃ (b : Addr) (xs : List HX) (ds : List HD), vs = [.ref b] /\ HandsL H b xs ds /\ (∀ d ∈ ds, d.words.length <= 8) /\ ds.length <= 4 /\ Q (.int ((ds.map fun d => d.words.length).prod : Nat)) H
def ac : Sp := fun vs H Q _ => ∃ (o b : Addr) (outs : List Str) (xs : List HX) (ds : List HD), vs = [.ref o, .ref b] /\ H o = some (.lst (outs.map V.str)) /\ HandsL H b xs ds /\ GoodHouse outs ds /\ ∀ H', Same H H' -> Q (.bl true) H'
def qKept (K : Fg) : Sp := fun vs H Q _ => ∃ (x : HX) (d : HD), vs = [.ref x.t] /\ HandAt H x d /\ d.worths.length <= 8 /\ ∀ H' p, Same H H' -> TrAt K H' (zc9 d) (.ref p) -> Q (.ref p) H'
def allT (n : Nat) : List Bool := List.replicate n true
def PvAT (H : Hp) (i : Nat) (ys : List V) (H' : Hp) : Prop := Same H H' /\ ys = (allT i).map V.bl
theorem qu (n : Nat) : (allT n).map V.bl ++ [V.bl true] = (allT (n + 1)).map V.bl := by
  rw [allT, allT, List.replicate_succ', Zn]; rfl
theorem ni (n : Nat) : (allT n).all id = true := by
  rw [ZS];intro x hx;exact List.eq_of_mem_replicate hx
theorem oq (n : Nat) : ((allT n).map V.bl).length = n := by rw [Za, allT, ZI]
theorem zc2 {zs : List Str} (hd : zs.Nodup) : ∀ i, i <= zs.length -> seen (fun j => zs.getD j ⟨#[]⟩) i = zs.take i
  | 0, _ => rfl
  | i + 1, h => by
    have ih := zc2 hd i (by omega);have hi : i < zs.length := by omega
    have e : zs.getD i ⟨#[]⟩ = zs[i] := by simp [Zk, hi]
    show (if zs.getD i ⟨#[]⟩ ∈ seen (fun j => zs.getD j ⟨#[]⟩) i then _ else seen (fun j => zs.getD j ⟨#[]⟩) i ++ [zs.getD i ⟨#[]⟩]) = _
    rw [ih, e, if_neg, Zq]
    . simp [hi]
    . intro hm
      obtain ⟨j, hj, ej⟩ := Zy hm;rw [Zj] at hj;rw [List.getElem_take] at ej;have := (YQ hd).mp ej;omega
theorem zhd : kit0 "str" "str" = some true := by decide +kernel
theorem jv : kit0 "list" "list" = some true := by decide +kernel
theorem zca : kit0 "tuple" "tuple" = some true := by decide +kernel
theorem zh9 : kit0 "int" "int" = some true := by decide +kernel
theorem zhr : kit0 "int" "bool" = some false := by decide +kernel
theorem zht {c : Nat} (h1 : 97 <= c) (h2 : c <= 122) : (!decide ((chr1 c).cps.toList < (Str.ofString "a").cps.toList)) = true /\ (!decide ((Str.ofString "z").cps.toList < (chr1 c).cps.toList)) = true := by
  have ea : (Str.ofString "a").cps.toList = [97] := by decide +kernel
  have ez : (Str.ofString "z").cps.toList = [122] := by decide +kernel
  have ec : (chr1 c).cps.toList = [c] := rfl;rw [ea, ez, ec]
  constructor
  . rw [decide_eq_false]
    . rfl
    . intro z
      rw [List.cons_lt_cons_iff] at z
      rcases z with z | ⟨_, z⟩
      . omega
      . exact absurd z (by simp)
  . rw [decide_eq_false]
    . rfl
    . intro z
      rw [List.cons_lt_cons_iff] at z
      rcases z with z | ⟨_, z⟩
      . omega
      . exact absurd z (by simp)
def PvNm (H : Hp) (ds : List HD) (i : Nat) (ys : List V) (H' : Hp) : Prop := H' = H /\ ys = ((ds.take i).map HD.name).map V.str
def PvCt (H : Hp) (b : Addr) (ds : List HD) (i : Nat) (σ : L2.St) (H4 : Hp) : Prop := H4 = H /\ ∃ v, σ = [some (.ref b), some (.int (((ds.take i).map fun d => d.words.length).prod : Nat)), v]
section
variable {P : Program} {w : World} {K : Fg} {mg : Str -> Option Value} {base : Heap} {a : Ad}
theorem kx (B : Bt mg) (D : zi K mg "is_whole" p0 ["thing"]) : FnAt P w K mg base "is_whole" 1 ["thing"] zfq := by
  refine FnAt.of D za7 (fun vs H Q E h => ?_) (fun f cdv A outer s H vs Q E hr h => ?_)
  . obtain ⟨x, rfl, _⟩ := h
    rfl
  . obtain ⟨x, rfl, q⟩ := h
    refine ⟨_, (@zh _ _ _ (@zn _ _ _ _ (@oz _ _ _ _ _ _ _ (zo yr rfl B.isinstance yi (za (pv 0) (za (wq rfl B.int bz) (@zb _)))) (@nj _ _ _ _ _ (@zed _ _ _ _ (zo yr rfl B.isinstance yi (za (pv 0) (za (wq rfl B.bool de) (@zb _))))))))), ?_⟩;rw [show start ["thing"] [V.int x] = [some (V.int x)] from rfl];simp only [zc, zd, ↓reduceIte];exact ⟨_, .int _, true, zh9, iteT ⟨_, .int _, false, zhr, q⟩⟩
theorem na (B : Bt mg) (kx : FnAt P w K mg base "is_whole" 1 ["thing"] zfq) (D : zi K mg "is_bounded" tj ["thing"]) : FnAt P w K mg base "is_bounded" 2 ["thing"] zfg := by
  refine FnAt.of D cz (fun vs H Q E h => ?_) (fun f cdv A outer s H vs Q E hr h => ?_)
  . obtain ⟨x, rfl, _⟩ := h
    rfl
  . obtain ⟨x, rfl, g, q⟩ := h
    refine ⟨_, (@zh _ _ _ (@zn _ _ _ _ (@oz _ _ _ _ _ _ _ (zk kx (hr.mono (by decide)) rfl (za (pv 0) (@zb _))) (@nj _ _ _ _ _ (@v9 _ _ _ _ _ _ _ _ jy (zo zg0 rfl B.abs bt_abs (za (pv 0) (@zb _))) (@zm _ _ _ _ _ _ _ _ ld (@ze _ _ _ _) (@ze _ _ _ _)) (ye _)))))), ?_⟩;rw [show start ["thing"] [V.int x] = [some (V.int x)] from rfl];simp only [zc, zd, ↓reduceIte];refine ⟨x, rfl, _, rfl, iteT ⟨⟨by decide, by decide, by decide⟩, ?_⟩⟩;rw [decide_eq_true]
    . exact q
    . have h1 := g.1
      have h2 := g.2
      show _ < (10 : Int) ^ 60
      split <;> omega
theorem pc (B : Bt mg) (na : FnAt P w K mg base "is_bounded" 2 ["thing"] zfg) (D : zi K mg "is_grid_row" ur ["thing", "width"]) : FnAt P w K mg base "is_grid_row" 3 ["thing", "width"] qRow := by
  refine FnAt.of D fz (fun vs H Q E h => ?_) (fun f cdv A outer s H vs Q E hr h => ?_)
  . obtain ⟨r, ns, n, rfl, _⟩ := h
    rfl
  . obtain ⟨r, ns, n, rfl, hr1, ln, n8, hg, q⟩ := h
    refine ⟨_, (@zj _ _ _ _ _ (@yj _ _ _ _ _ _ _ _ (PW.pt (@wm _ _ _ _ _ _ _ (@y0 _ _ _ _ (yz (zo yr rfl B.isinstance yi (za (pv 0) (za (wq rfl B.list vj) (@zb _)))))) (@vg _ _ _ _ (@yf _ _ _ _ _ _ _ _ mm (zo zq rfl B.len ya (za (pv 0) (@zb _))) (pv 1) (ye _))))) (@zh _ _ _ (@zn _ _ _ _ (@xb _ _ _ _))) (@yb _)) (@zh _ _ _ (@zn _ _ _ _ (zo (qy rfl) rfl B.all jk (za (yk ["worth"] ["thing", "width"] rfl (@yg _ _ _ _ (pv 0)) (fun _ => (zp (i := 0) (show (["worth", "thing", "width"] : List Str).Nodup by decide +kernel) rfl (Or.inl rfl))) (fun _ => (@yc _)) (fun _ => (zk na (hr.mono (by decide)) rfl (za (pv 0) (@zb _)))) rfl (by decide +kernel) rfl rfl) (@zb _)))))), ?_⟩;rw [show start ["thing", "width"] [V.ref r, V.int n] = [some (V.ref r), some (V.int n)] from rfl];simp only [zc, zd, ↓reduceIte];refine ⟨_, .lst hr1, true, jv, iteF ⟨_, .inl (.of hr1), rfl, ?_⟩⟩;rw [Za, ln];refine zc5 rfl ⟨⟨_, .of hr1⟩, fun d => ?_⟩;refine yo (xs := ns.map V.int) (PvAT H) ⟨Same.refl _, rfl⟩ ?_ ?_ ?_
    . rintro i ys H2 hi ⟨S, rfl⟩
      rw [Za] at hi;exact ⟨by rw [oq]; exact Zd hi (Zd (show ns.length <= 8 by omega) (by decide)), S.seq (.of hr1)⟩
    . rintro i x ys H2 hx ⟨S, rfl⟩
      obtain ⟨y, hy, rfl⟩ := yv hx;simp only [zc, zd, ↓reduceIte];exact ⟨y, rfl, hg y (Zi hy), S, qu i⟩
    . rintro ys H2 ⟨S, rfl⟩ l hl
      refine ⟨_, .of zg, ?_⟩;rw [ni];exact q _ (S.trans (Same.upd (Same.refl _) hl))
theorem qv (B : Bt mg) (D : zi K mg "is_name" my ["thing"]) : FnAt P w K mg base "is_name" 1 ["thing"] zd3 := by
  refine FnAt.of D zd1 (fun vs H Q E h => ?_) (fun f cdv A outer s H vs Q E hr h => ?_)
  . obtain ⟨x, rfl, _⟩ := h
    rfl
  . obtain ⟨z, rfl, g, q⟩ := h
    refine ⟨_, (@zj _ _ _ _ _ (@yj _ _ _ _ _ _ _ _ (PW.pt (@wm _ _ _ _ _ _ _ (@y0 _ _ _ _ (yz (zo yr rfl B.isinstance yi (za (pv 0) (za (wq rfl B.str bt_str) (@zb _)))))) (@vg _ _ _ _ (@y0 _ _ _ _ (za1 fj fj (@ze _ _ _ _) (zo aq rfl B.len ya (za (pv 0) (@zb _))) (oy rfl B.k_MOST_LETTERS)))))) (@zh _ _ _ (@zn _ _ _ _ (@xb _ _ _ _))) (@yb _)) (@zh _ _ _ (@zn _ _ _ _ (zo (qy rfl) rfl B.all jk (za (yk ["sign"] ["thing"] rfl (@pi_str _ _ _ _ (pv 0)) (fun _ => (zp (i := 0) (show (["sign", "thing"] : List Str).Nodup by decide +kernel) rfl (Or.inl rfl))) (fun _ => (@yc _)) (fun _ => (zgw ze7 ze7 (@u7 _ _ _ _) (pv 0) (@u7 _ _ _ _))) rfl (by decide +kernel) rfl rfl) (@zb _)))))), ?_⟩;rw [show start ["thing"] [V.str z] = [some (V.str z)] from rfl];simp only [zc, zd, ↓reduceIte];obtain ⟨g1, g2, g3⟩ := g;refine ⟨_, .str _, true, zhd, iteF ?_⟩;refine ⟨Zd g2 (by decide), ite2 (fun _ => ite2 (fun h => ?_) fun _ => ?_) fun h => (h (decide_eq_true (by omega))).elim⟩
    . rw [decide_eq_true (show (z.length : Int) <= 8 by omega)] at h
      cases h
    . intro d
      refine zgn (PvAT H) ⟨Same.refl _, rfl⟩ ?_ ?_ ?_
      . rintro i ys H' hi ⟨S, rfl⟩
        rw [oq];exact Zd hi (Zd (show z.cps.size <= 8 from g2) (by decide))
      . rintro i c ys H' hc ⟨S, rfl⟩
        have hm : c ∈ z.cps.toList := by
          obtain ⟨hi, e⟩ := Array.getElem?_eq_some_iff.mp hc;rw [<- e];exact Array.getElem_mem_toList hi
        obtain ⟨o1, o2⟩ := zht (g3 c hm).1 (g3 c hm).2;simp only [zc, zd, ↓reduceIte];rw [if_pos o1, o2];exact ⟨S, qu i⟩
      . rintro ys H' ⟨S, rfl⟩ l hl
        refine ⟨_, .of zg, ?_⟩;rw [ni];exact q _ (S.trans (Same.upd (Same.refl _) hl))
theorem vi (B : Bt mg) (qv : FnAt P w K mg base "is_name" 1 ["thing"] zd3) (D : zi K mg "are_names" qm ["thing", "most"]) : FnAt P w K mg base "are_names" 2 ["thing", "most"] ar := by
  refine FnAt.of D zaf (fun vs H Q E h => ?_) (fun f cdv A outer s H vs Q E hr h => ?_)
  . obtain ⟨l, zs, m, rfl, _⟩ := h
    rfl
  . obtain ⟨l, zs, m, rfl, hl, g1, g2, g3, gG, gD, q⟩ := h
    refine ⟨_, (@zj _ _ _ _ _ (@yj _ _ _ _ _ _ _ _ (PW.pt (@wm _ _ _ _ _ _ _ (@y0 _ _ _ _ (yz (zo yr rfl B.isinstance yi (za (pv 0) (za (wq rfl B.list vj) (@zb _)))))) (@vg _ _ _ _ (@y0 _ _ _ _ (za1 fj fj (@ze _ _ _ _) (zo zq rfl B.len ya (za (pv 0) (@zb _))) (pv 1)))))) (@zh _ _ _ (@zn _ _ _ _ (@xb _ _ _ _))) (@yb _)) (@zh _ _ _ (@zn _ _ _ _ (@oz _ _ _ _ _ _ _ (zo (qy rfl) rfl B.all jk (za (yk ["one"] ["thing", "most"] rfl (@yg _ _ _ _ (pv 0)) (fun _ => (zp (i := 0) (show (["one", "thing", "most"] : List Str).Nodup by decide +kernel) rfl (Or.inl rfl))) (fun _ => (@yc _)) (fun _ => (zk qv (hr.mono (by decide)) rfl (za (pv 0) (@zb _)))) rfl (by decide +kernel) rfl rfl) (@zb _))) (@nj _ _ _ _ _ (@v9 _ _ _ _ _ _ _ _ vo (zfr rfl rfl B.len rfl B.set (za (pv 0) (@zb _))) (zo zq rfl B.len ya (za (pv 0) (@zb _))) (ye _))))))), ?_⟩;rw [show start ["thing", "most"] [V.ref l, V.int m] = [some (V.ref l), some (V.int m)] from rfl];simp only [zc, zd, ↓reduceIte];refine ⟨_, .lst hl, true, jv, iteF ⟨_, .inl (.of hl), ?_⟩⟩;rw [Za];refine ite2 (fun _ => ite2 (fun h => ?_) fun _ => ?_) fun h => (h (decide_eq_true (by omega))).elim
    . rw [decide_eq_true (show (zs.length : Int) <= m by omega)] at h
      cases h
    . refine ⟨⟨_, .of hl⟩, fun d => ?_⟩
      refine yo (xs := zs.map V.str) (PvAT H) ⟨Same.refl _, rfl⟩ ?_ ?_ ?_
      . rintro i ys H2 hi ⟨S, rfl⟩
        rw [Za] at hi;exact ⟨by rw [oq]; exact Zd hi (Zd (show zs.length <= 8 by omega) (by decide)), S.seq (.of hl)⟩
      . rintro i x ys H2 hx ⟨S, rfl⟩
        obtain ⟨y, hy, rfl⟩ := yv hx;simp only [zc, zd, ↓reduceIte];exact ⟨y, rfl, gG y (Zi hy), fun H3 S3 => ⟨S.trans S3, qu i⟩⟩
      . rintro ys H2 ⟨S, rfl⟩ p hp
        have S2 : Same H (upd H2 p (.lst ((allT (zs.map V.str).length).map V.bl))) := S.trans (Same.upd (Same.refl _) hp);refine ⟨_, .of zg, ?_⟩;rw [ni];generalize upd H2 p (.lst ((allT (zs.map V.str).length).map V.bl)) = H3 at *;refine ⟨zs, S2.seq (.of hl), by omega, _, .inl (S2.seq (.of hl)), rfl, ?_⟩;rw [zc2 gD _ (Zm _), Zt, Za, decide_eq_true rfl];exact q _ S2
theorem o0 (B : Bt mg) (pc : FnAt P w K mg base "is_grid_row" 3 ["thing", "width"] qRow) (D : zi K mg "are_worths" sh ["thing", "height", "width"]) : FnAt P w K mg base "are_worths" 4 ["thing", "height", "width"] zco := by
  refine FnAt.of D cv (fun vs H Q E h => ?_) (fun f cdv A outer s H vs Q E hr h => ?_)
  . obtain ⟨g, gs, rows, ht, n, rfl, _⟩ := h
    rfl
  . obtain ⟨g, gs, rows, ht, n, rfl, hg, l1, l2, b1, b2, hrow, hG, q⟩ := h
    refine ⟨_, (@zj _ _ _ _ _ (@yj _ _ _ _ _ _ _ _ (PW.pt (@wm _ _ _ _ _ _ _ (@y0 _ _ _ _ (yz (zo yr rfl B.isinstance yi (za (pv 0) (za (wq rfl B.list vj) (@zb _)))))) (@vg _ _ _ _ (@yf _ _ _ _ _ _ _ _ mm (zo zq rfl B.len ya (za (pv 0) (@zb _))) (pv 1) (ye _))))) (@zh _ _ _ (@zn _ _ _ _ (@xb _ _ _ _))) (@yb _)) (@zh _ _ _ (@zn _ _ _ _ (zo (qy rfl) rfl B.all jk (za (yk ["row"] ["thing", "height", "width"] rfl (@yg _ _ _ _ (pv 0)) (fun _ => (zp (i := 0) (show (["row", "thing", "height", "width"] : List Str).Nodup by decide +kernel) rfl (Or.inl rfl))) (fun _ => (@yc _)) (fun _ => (zk pc (hr.mono (by decide)) rfl (za (pv 0) (za (pv 3) (@zb _))))) rfl (by decide +kernel) rfl rfl) (@zb _)))))), ?_⟩;rw [show start ["thing", "height", "width"] [V.ref g, V.int ht, V.int n] = [some (V.ref g), some (V.int ht), some (V.int n)] from rfl];simp only [zc, zd, ↓reduceIte];refine ⟨_, .lst hg, true, jv, iteF ⟨_, .inl (.of hg), rfl, ?_⟩⟩;rw [Za, l1];refine zc5 rfl ⟨⟨_, .of hg⟩, fun d => ?_⟩;refine yo (xs := gs.map V.ref) (PvAT H) ⟨Same.refl _, rfl⟩ ?_ ?_ ?_
    . rintro i ys H2 hi ⟨S, rfl⟩
      rw [Za] at hi;exact ⟨by rw [oq]; exact Zd hi (Zd (show gs.length <= 8 by omega) (by decide)), S.seq (.of hg)⟩
    . rintro i x ys H2 hx ⟨S, rfl⟩
      obtain ⟨r, hr', rfl⟩ := yv hx;have hi : i < rows.length := by have := (Zc.mp hr').1; omega
      have e2 : rows[i]? = some rows[i] := by simp [hi]
      have hm := hG rows[i] (Zl hi);simp only [zc, zd, ↓reduceIte];exact ⟨r, rows[i], n, rfl, S _ _ (hrow i r rows[i] hr' e2), hm.1, b2, hm.2, fun H3 S3 => ⟨S.trans S3, qu i⟩⟩
    . rintro ys H2 ⟨S, rfl⟩ l hl
      refine ⟨_, .of zg, ?_⟩;rw [ni];exact q _ (S.trans (Same.upd (Same.refl _) hl))
theorem je (B : Bt mg) (qv : FnAt P w K mg base "is_name" 1 ["thing"] zd3) (vi : FnAt P w K mg base "are_names" 2 ["thing", "most"] ar) (o0 : FnAt P w K mg base "are_worths" 4 ["thing", "height", "width"] zco) (D : zi K mg "is_hand" mj ["thing", "width"]) : FnAt P w K mg base "is_hand" 5 ["thing", "width"] qHand := by
  refine FnAt.of D zdu (fun vs H Q E h => ?_) (fun f cdv A outer s H vs Q E hr h => ?_)
  . obtain ⟨x, d, n, rfl, _⟩ := h
    rfl
  . obtain ⟨x, d, n, rfl, hx, g, n8, q⟩ := h
    refine ⟨_, (@zj _ _ _ _ _ (@yj _ _ _ _ _ _ _ _ (PW.pt (@wm _ _ _ _ _ _ _ (@y0 _ _ _ _ (yz (zo yr rfl B.isinstance yi (za (pv 0) (za (wq rfl B.tuple xv) (@zb _)))))) (@vg _ _ _ _ (@yf _ _ _ _ _ _ _ _ mm (zo zq rfl B.len ya (za (pv 0) (@zb _))) (@ze _ _ _ _) (ye _))))) (@zh _ _ _ (@zn _ _ _ _ (@xb _ _ _ _))) (@yb _)) (@zh _ _ _ (@zn _ _ _ _ (@oz _ _ _ _ _ _ _ (zk qv (hr.mono (by decide)) rfl (za (@zt _ _ _ _ _ _ _ yh (pv 0) (@ze _ _ _ _) (fun _ _ => rfl)) (@zb _))) (@oz _ _ _ _ _ _ _ (zk vi (hr.mono (by decide)) rfl (za (@zt _ _ _ _ _ _ _ yh (pv 0) (@ze _ _ _ _) (fun _ _ => rfl)) (za (oy rfl B.k_MOST_WORDS) (@zb _)))) (@nj _ _ _ _ _ (zk o0 (hr.mono (by decide)) rfl (za (@zt _ _ _ _ _ _ _ yh (pv 0) (@ze _ _ _ _) (fun _ _ => rfl)) (za (zo zq rfl B.len ya (za (@zt _ _ _ _ _ _ _ yh (pv 0) (@ze _ _ _ _) (fun _ _ => rfl)) (@zb _))) (za (pv 1) (@zb _))))))))))), ?_⟩;rw [show start ["thing", "width"] [V.ref x.t, V.int n] = [some (V.ref x.t), some (V.int n)] from rfl];simp only [zc, zd, ↓reduceIte];refine ⟨_, .tup hx.tup, true, zca, iteF ⟨_, .inr (.of hx.tup), rfl, zc5 rfl ?_⟩⟩;refine ⟨_, .of hx.tup, _, zw (j := 0) rfl, d.name, rfl, g.name, fun H1 S1 => ?_⟩;have hx1 := hx.mono S1;refine ⟨_, rfl, iteT ⟨_, .of hx1.tup, _, zw (j := 1) rfl, x.w, d.words, 8, rfl, hx1.words, g.words.1, g.words.2, Zm _, g.wordsG, g.wordsD, fun H2 S2 => ?_⟩⟩;have hx2 := hx1.mono S2;refine ⟨_, rfl, iteT ⟨_, .of hx2.tup, _, zw (j := 2) rfl, _, .of hx2.tup, _, zw (j := 1) rfl, x.w, rfl, _, .inl (.of hx2.words), ?_⟩⟩;rw [Za];have hw := g.words.2;have hr2 := g.rows;exact ⟨x.g, x.gs, d.worths, d.words.length, n, rfl, hx2.grid, by rw [hx2.len]; exact hr2, hr2, hw, n8, hx2.row, g.cols, fun H3 S3 => q H3 (S1.trans (S2.trans S3))⟩
theorem vt (D : zi K mg "name_of" mi ["hand"]) : FnAt P w K mg base "name_of" 1 ["hand"] (su fun _ d => .str d.name) := by
  refine FnAt.of D zdi (fun vs H Q E h => ?_) (fun f cdv A outer s H vs Q E hr h => ?_)
  . obtain ⟨x, d, rfl, _⟩ := h
    rfl
  . obtain ⟨x, d, rfl, hx, q⟩ := h
    refine ⟨_, (@zh _ _ _ (@zn _ _ _ _ (@zt _ _ _ _ _ _ _ yh (pv 0) (@ze _ _ _ _) (fun _ _ => rfl)))), ?_⟩;rw [show start ["hand"] [V.ref x.t] = [some (V.ref x.t)] from rfl];simp only [zc, zd, ↓reduceIte];exact ⟨_, .of hx.tup, _, zw (j := 0) rfl, q⟩
theorem yu (D : zi K mg "words_of_hand" wf ["hand"]) : FnAt P w K mg base "words_of_hand" 1 ["hand"] (su fun x _ => .ref x.w) := by
  refine FnAt.of D nk (fun vs H Q E h => ?_) (fun f cdv A outer s H vs Q E hr h => ?_)
  . obtain ⟨x, d, rfl, _⟩ := h
    rfl
  . obtain ⟨x, d, rfl, hx, q⟩ := h
    refine ⟨_, (@zh _ _ _ (@zn _ _ _ _ (@zt _ _ _ _ _ _ _ yh (pv 0) (@ze _ _ _ _) (fun _ _ => rfl)))), ?_⟩;rw [show start ["hand"] [V.ref x.t] = [some (V.ref x.t)] from rfl];simp only [zc, zd, ↓reduceIte];exact ⟨_, .of hx.tup, _, zw (j := 1) rfl, q⟩
theorem xh (D : zi K mg "worths_of_hand" wa ["hand"]) : FnAt P w K mg base "worths_of_hand" 1 ["hand"] (su fun x _ => .ref x.g) := by
  refine FnAt.of D ph (fun vs H Q E h => ?_) (fun f cdv A outer s H vs Q E hr h => ?_)
  . obtain ⟨x, d, rfl, _⟩ := h
    rfl
  . obtain ⟨x, d, rfl, hx, q⟩ := h
    refine ⟨_, (@zh _ _ _ (@zn _ _ _ _ (@zt _ _ _ _ _ _ _ yh (pv 0) (@ze _ _ _ _) (fun _ _ => rfl)))), ?_⟩;rw [show start ["hand"] [V.ref x.t] = [some (V.ref x.t)] from rfl];simp only [zc, zd, ↓reduceIte];exact ⟨_, .of hx.tup, _, zw (j := 2) rfl, q⟩
theorem si (B : Bt mg) (yu : FnAt P w K mg base "words_of_hand" 1 ["hand"] (su fun x _ => .ref x.w)) (D : zi K mg "count_of_rows" vp ["hands"]) : FnAt P w K mg base "count_of_rows" 2 ["hands"] zfm := by
  refine FnAt.of D sc_count_of_rows (fun vs H Q E h => ?_) (fun f cdv A outer s H vs Q E hr h => ?_)
  . obtain ⟨b, xs, ds, rfl, _⟩ := h
    rfl
  . obtain ⟨b, xs, ds, rfl, hh, h8, h4, q⟩ := h
    refine ⟨_, (@zj _ _ _ _ _ (zz (i := 1) sc_count_of_rows.nd rfl (Or.inl rfl) (@ze _ _ _ _)) (@zj _ _ _ _ _ (yx PassesOwn.never rfl (@yg _ _ _ _ (pv 0)) (zp (i := 2) sc_count_of_rows.nd rfl (Or.inl rfl)) (@zh _ _ _ (zz (i := 1) sc_count_of_rows.nd rfl (Or.inl rfl) (@zm _ _ _ _ _ _ _ _ tq (pv 1) (zo zq rfl B.len ya (za (zk yu (hr.mono (by decide)) rfl (za (pv 2) (@zb _))) (@zb _))))))) (@zh _ _ _ (@zn _ _ _ _ (pv 1))))), ?_⟩;rw [show start ["hands", "count", "hand"] [V.ref b] = [some (V.ref b), none, none] from rfl];simp only [zc, zd, ↓reduceIte];refine ⟨⟨_, .of hh.at'⟩, ?_⟩;refine x9 (xs := xs.map fun x => V.ref x.t) (PvCt H b ds) ⟨rfl, _, rfl⟩ ?_ ?_ ?_
    . rintro i σ H4 hi ⟨rfl, v, rfl⟩
      exact .of hh.at'
    . rintro i x σ H4 hx ⟨rfl, v, rfl⟩
      obtain ⟨y, hy, rfl⟩ := yv hx;have hi : i < ds.length := by have := (Zc.mp hy).1; have := hh.len; omega
      have e2 : ds[i]? = some ds[i] := by simp [hi]
      have hd := hh.hand i y ds[i] hy e2;have hw := h8 ds[i] (Zl hi);simp only [zc, zd, ↓reduceIte];refine ⟨y, ds[i], rfl, hd, ?_⟩;simp only [zc, zd, ↓reduceIte];refine ⟨_, .inl (.of hd.words), ?_⟩;rw [Za];refine ⟨.inr ⟨by omega, by omega⟩, rfl, some (V.ref y.t), ?_⟩;rw [Zq, e2, Zn, List.prod_append];simp only [Option.toList, ZL, YH, YK, List.prod_nil, Nat.mul_one, Int.natCast_mul]
    . rintro σ H4 ⟨rfl, v, rfl⟩
      simp only [zc, zd, ↓reduceIte];rw [Za, hh.len, Zt];exact q
def ah : Sp := fun vs H Q _ => ∃ (b : Addr) (xs : List HX) (ds : List HD), vs = [.ref b] /\ HandsL H b xs ds /\ ds.length <= 4 /\ ∀ l, H l = none -> Q (.ref l) (upd H l (.lst ((ds.map HD.name).map V.str)))
theorem ku (vt : FnAt P w K mg base "name_of" 1 ["hand"] (su fun _ d => .str d.name)) (D : zi K mg "names_of" og ["hands"]) : FnAt P w K mg base "names_of" 2 ["hands"] ah := by
  refine FnAt.of D zbj (fun vs H Q E h => ?_) (fun f cdv A outer s H vs Q E hr h => ?_)
  . obtain ⟨b, xs, ds, rfl, _⟩ := h
    rfl
  . obtain ⟨b, xs, ds, rfl, hh3, g4, q⟩ := h
    refine ⟨_, (@zh _ _ _ (@zn _ _ _ _ (yk ["hand"] ["hands"] rfl (@yg _ _ _ _ (pv 0)) (fun _ => (zp (i := 0) (show (["hand", "hands"] : List Str).Nodup by decide +kernel) rfl (Or.inl rfl))) (fun _ => (@yc _)) (fun _ => (zk vt (hr.mono (by decide)) rfl (za (pv 0) (@zb _)))) rfl (by decide +kernel) rfl rfl))), ?_⟩;rw [show start ["hands"] [V.ref b] = [some (V.ref b)] from rfl];simp only [zc, zd, ↓reduceIte];refine ⟨⟨_, .of hh3.at'⟩, fun d2 => ?_⟩;refine yo (xs := xs.map fun x => V.ref x.t) (PvNm H ds) ⟨rfl, rfl⟩ ?_ ?_ ?_
    . rintro i ys H4 hi ⟨rfl, rfl⟩
      refine ⟨?_, .of hh3.at'⟩;rw [Za, Za, Zj];exact Zd (ZB _ _) (Zd g4 (by decide))
    . rintro i x ys H4 hx ⟨rfl, rfl⟩
      obtain ⟨y, hy, rfl⟩ := yv hx;have hi : i < ds.length := by have := (Zc.mp hy).1; have := hh3.len; omega
      have e2 : ds[i]? = some ds[i] := by simp [hi]
      simp only [zc, zd, ↓reduceIte];refine ⟨y, ds[i], rfl, hh3.hand i y ds[i] hy e2, rfl, ?_⟩;rw [Zq, e2, Zn, Zn];rfl
    . rintro ys H4 ⟨rfl, rfl⟩ l hl
      rw [Za, hh3.len, Zt];exact q l hl
theorem vf (B : Bt mg) (vi : FnAt P w K mg base "are_names" 2 ["thing", "most"] ar) (je : FnAt P w K mg base "is_hand" 5 ["thing", "width"] qHand) (ku : FnAt P w K mg base "names_of" 2 ["hands"] ah) (si : FnAt P w K mg base "count_of_rows" 2 ["hands"] zfm)
    (D : zi K mg "makes_house" um ["outcomes", "hands"]) : FnAt P w K mg base "makes_house" 6 ["outcomes", "hands"] ac := by
  refine FnAt.of D e8 (fun vs H Q E h => ?_) (fun f cdv A outer s H vs Q E hr h => ?_)
  . obtain ⟨o, b, outs, xs, ds, rfl, _⟩ := h
    rfl
  . obtain ⟨o, b, outs, xs, ds, rfl, ho, hh, g, q⟩ := h
    refine ⟨_, (@zj _ _ _ _ _ (@yj _ _ _ _ _ _ _ _ (PW.pt (@wm _ _ _ _ _ _ _ (@y0 _ _ _ _ (yz (zk vi (hr.mono (by decide)) rfl (za (pv 0) (za (oy rfl B.k_MOST_OUTCOMES) (@zb _)))))) (@vg _ _ _ _ (@y0 _ _ _ _ (yz (zo yr rfl B.isinstance yi (za (pv 1) (za (wq rfl B.list vj) (@zb _))))))))) (@zh _ _ _ (@zn _ _ _ _ (@xb _ _ _ _))) (@yb _)) (@zj _ _ _ _ _ (@yj _ _ _ _ _ _ _ _ (@y0 _ _ _ _ (yz (zo (qy rfl) rfl B.all jk (za (yk ["hand"] ["outcomes", "hands"] rfl (@yg _ _ _ _ (pv 1)) (fun _ => (zp (i := 0) (show (["hand", "outcomes", "hands"] : List Str).Nodup by decide +kernel) rfl (Or.inl rfl))) (fun _ => (@yc _)) (fun _ => (zk je (hr.mono (by decide)) rfl (za (pv 0) (za (zo zq rfl B.len ya (za (pv 1) (@zb _))) (@zb _))))) rfl (by decide +kernel) rfl rfl) (@zb _))))) (@zh _ _ _ (@zn _ _ _ _ (@xb _ _ _ _))) (@yb _)) (@zh _ _ _ (@zn _ _ _ _ (@oz _ _ _ _ _ _ _ (zk vi (hr.mono (by decide)) rfl (za (zk ku (hr.mono (by decide)) rfl (za (pv 1) (@zb _))) (za (oy rfl B.k_MOST_HANDS) (@zb _)))) (@nj _ _ _ _ _ (@v9 _ _ _ _ _ _ _ _ fj (zk si (hr.mono (by decide)) rfl (za (pv 1) (@zb _))) (oy rfl B.k_MOST_ROWS) (ye _)))))))), ?_⟩;rw [show start ["outcomes", "hands"] [V.ref o, V.ref b] = [some (V.ref o), some (V.ref b)] from rfl];simp only [zc, zd, ↓reduceIte];have g1 := g.outs1;have g2 := g.hands;refine ⟨o, outs, 8, rfl, ho, g1.1, g1.2, Zm _, g.outsG, g.outsD, fun H1 S1 => ?_⟩;simp only [zc, zd, ↓reduceIte];have hh1 := hh.mono S1;have ho1 := S1 _ _ ho;refine iteF ⟨_, .lst hh1.at', true, jv, iteF ⟨⟨_, .of hh1.at'⟩, fun d => ?_⟩⟩;refine yo (xs := xs.map fun x => V.ref x.t) (PvAT H1) ⟨Same.refl _, rfl⟩ ?_ ?_ ?_
    . rintro i ys H2 hi ⟨S, rfl⟩
      rw [Za, hh.len] at hi;exact ⟨by rw [oq]; exact Zd hi (Zd g2.2 (by decide)), S.seq (.of hh1.at')⟩
    . rintro i x ys H2 hx ⟨S, rfl⟩
      obtain ⟨y, hy, rfl⟩ := yv hx;have hi : i < ds.length := by have := (Zc.mp hy).1; have := hh.len; omega
      have e2 : ds[i]? = some ds[i] := by simp [hi]
      simp only [zc, zd, ↓reduceIte];refine ⟨_, .inl (S.seq (.of ho1)), ?_⟩;rw [Za];exact ⟨y, ds[i], outs.length, rfl, (hh1.hand i y ds[i] hy e2).mono S, g.hand (Zl hi), g1.2, fun H3 S3 => ⟨S.trans S3, qu i⟩⟩
    . rintro ys H2 ⟨S, rfl⟩ p hp
      have S2 : Same H1 (upd H2 p (.lst ((allT (xs.map fun x => V.ref x.t).length).map V.bl))) := S.trans (Same.upd (Same.refl _) hp);refine ⟨_, .of zg, ?_⟩;rw [ni];generalize upd H2 p (.lst ((allT (xs.map fun x => V.ref x.t).length).map V.bl)) = H3 at *;have hh3 := hh1.mono S2;refine iteF ⟨b, xs, ds, rfl, hh3, g2.2, fun l hl => ?_⟩;have S5 : Same H3 (upd H3 l (.lst ((ds.map HD.name).map V.str))) := Same.upd (Same.refl _) hl;refine ⟨l, ds.map HD.name, 4, rfl, zg, by rw [Za]; exact g2.1, by rw [Za]; exact g2.2, by decide, fun z hz => ?_, g.handsD, fun H6 S6 => ?_⟩
      . obtain ⟨d, hd, rfl⟩ := Zp.mp hz
        exact g.handsG d hd
      . generalize upd H3 l (.lst ((ds.map HD.name).map V.str)) = H5 at *
        have S36 := S5.trans S6;have few := g.few;refine ⟨_, rfl, iteT ⟨b, xs, ds, rfl, hh3.mono S36, fun d hd => (g.words1 d hd).2, g2.2, _, rfl, ?_⟩⟩;rw [decide_eq_true (by omega)];exact q _ (S1.trans (S2.trans S36))
theorem r9 (B : Bt mg) (vt : FnAt P w K mg base "name_of" 1 ["hand"] (su fun _ d => .str d.name)) (yu : FnAt P w K mg base "words_of_hand" 1 ["hand"] (su fun x _ => .ref x.w)) (xh : FnAt P w K mg base "worths_of_hand" 1 ["hand"] (su fun x _ => .ref x.g))
    (D : zi K mg "kept_hand" ud ["hand"]) : FnAt P w K mg base "kept_hand" 2 ["hand"] (qKept K) := by
  refine FnAt.of D sc_kept_hand (fun vs H Q E h => ?_) (fun f cdv A outer s H vs Q E hr h => ?_)
  . obtain ⟨x, d, rfl, _⟩ := h
    rfl
  . obtain ⟨x, d, rfl, hx, h8, q⟩ := h
    refine ⟨_, (@zj _ _ _ _ _ (zz (i := 1) sc_kept_hand.nd rfl (Or.inl rfl) (xi x5 rfl B.tuple xv (za (yk ["row"] ["hand", "worths"] rfl (@yg _ _ _ _ (zk xh (hr.mono (by decide)) rfl (za (pv 0) (@zb _)))) (fun _ => (zp (i := 0) (show (["row", "hand", "worths"] : List Str).Nodup by decide +kernel) rfl (Or.inl rfl))) (fun _ => (@yc _)) (fun _ => (xi x5 rfl B.tuple xv (za (pv 0) (@zb _)))) rfl (by decide +kernel) rfl rfl) (@zb _)))) (@zh _ _ _ (@zn _ _ _ _ (@y7 _ _ _ _ _ (za (zk vt (hr.mono (by decide)) rfl (za (pv 0) (@zb _))) (za (xi x5 rfl B.tuple xv (za (zk yu (hr.mono (by decide)) rfl (za (pv 0) (@zb _))) (@zb _))) (za (pv 1) (@zb _)))))))), ?_⟩;rw [show start ["hand", "worths"] [V.ref x.t] = [some (V.ref x.t), none] from rfl];simp only [zc, zd, ↓reduceIte];refine ⟨x, d, rfl, hx, ?_⟩;simp only [zc, zd, ↓reduceIte];refine ⟨⟨_, .of hx.grid⟩, fun dd => ?_⟩;refine yo (xs := x.gs.map V.ref) (PvE K d.worths H) ⟨Same.refl _, rfl, TrsAt.nil⟩ ?_ ?_ ?_
    . rintro i ys H2 hi ⟨S, ly, _⟩
      rw [Za, hx.len] at hi;exact ⟨by rw [ly]; exact Zd hi (Zd h8 (by decide)), S.seq (.of hx.grid)⟩
    . rintro i y ys H2 hy ⟨S, ly, ty⟩
      obtain ⟨r, hr', rfl⟩ := yv hy;have hi : i < d.worths.length := by have := (Zc.mp hr').1; have := hx.len; omega
      have e2 : d.worths[i]? = some d.worths[i] := by simp [hi]
      simp only [zc, zd, ↓reduceIte];refine ⟨_, S.seq (.of (hx.row i r _ hr' e2)), fun l hl => ?_⟩;have S3 : Same H2 (upd H2 l (.tup ((d.worths[i]).map V.int))) := Same.upd (Same.refl _) hl;refine ⟨S.trans S3, by simp [ly], ?_⟩;rw [Zq, e2, Zn];exact TrsAt.append (TrsAt.mono S3 ty) (TrsAt.cons (TrAt.tp (.of zg) (f9 _)) TrsAt.nil)
    . rintro ys H2 ⟨S, ly, ty⟩ l hl
      rw [Za, hx.len, Zt] at ty;have S3 : Same H2 (upd H2 l (.lst ys)) := Same.upd (Same.refl _) hl;refine ⟨_, .of zg, fun l1 hl1 => ?_⟩;generalize upd H2 l (.lst ys) = H3 at *;have S4 : Same H3 (upd H3 l1 (.tup ys)) := Same.upd (Same.refl _) hl1;have h4 : upd H3 l1 (.tup ys) l1 = some (.tup ys) := zg;generalize upd H3 l1 (.tup ys) = H4 at *;have S24 := S.trans (S3.trans S4);refine ⟨x, d, rfl, hx.mono S24, x, d, rfl, hx.mono S24, x.w, rfl, _, .of (hx.mono S24).words, fun l2 hl2 => ⟨by decide, fun p hp => ?_⟩⟩;have S5 : Same H4 (upd H4 l2 (.tup (d.words.map V.str))) := Same.upd (Same.refl _) hl2;have h5 : upd H4 l2 (.tup (d.words.map V.str)) l2 = some (.tup (d.words.map V.str)) := zg;generalize upd H4 l2 (.tup (d.words.map V.str)) = H5 at *;have S6 : Same H5 (upd H5 p (.tup [V.str d.name, V.ref l2, V.ref l1])) := Same.upd (Same.refl _) hp;refine q _ p (S24.trans (S5.trans S6)) (TrAt.tp (.of zg) (TrsAt.cons (TrAt.lf rfl) (TrsAt.cons (TrAt.tp (.of (S6 _ _ h5)) (oj _)) (TrsAt.cons (TrAt.tp (.of ((S5.trans S6) _ _ h4)) (TrsAt.mono (S3.trans (S4.trans (S5.trans S6))) ty)) TrsAt.nil))))
theorem gz (B : Bt mg) (C : Ct K mg a) (vf : FnAt P w K mg base "makes_house" 6 ["outcomes", "hands"] ac) (r9 : FnAt P w K mg base "kept_hand" 2 ["hand"] (qKept K)) (D : zi K mg "house_of" so ["outcomes", "hands"]) : FnAtX P w K mg base "house_of" 7 ["outcomes", "hands"] (zij K) := by
  refine FnAtX.of D j9 (fun vs H Q E h => ?_) (fun f cdv A outer s H vs Q E hr h => ?_)
  . obtain ⟨o, b, outs, xs, ds, rfl, _⟩ := h
    rfl
  . obtain ⟨o, b, outs, xs, ds, rfl, ho, hh, g, q⟩ := h
    refine ⟨_, (@zj _ _ _ _ _ (@yj _ _ _ _ _ _ _ _ (@y0 _ _ _ _ (yz (zk vf (hr.mono (by decide)) rfl (za (pv 0) (za (pv 1) (@zb _)))))) (@zh _ _ _ (iq rfl C.q_NoHouse.toErr rfl C.m_NoHouse (m9 rfl) (za (@u7 _ _ _ _) (@zb _)))) (@yb _)) (@zh _ _ _ (PS.nox (@zn _ _ _ _ (@y7 _ _ _ _ _ (za (xi x5 rfl B.tuple xv (za (pv 0) (@zb _))) (za (xi x5 rfl B.tuple xv (za (yk ["hand"] ["outcomes", "hands"] rfl (@yg _ _ _ _ (pv 1)) (fun _ => (zp (i := 0) (show (["hand", "outcomes", "hands"] : List Str).Nodup by decide +kernel) rfl (Or.inl rfl))) (fun _ => (@yc _)) (fun _ => (zk r9 (hr.mono (by decide)) rfl (za (pv 0) (@zb _)))) rfl (by decide +kernel) rfl rfl) (@zb _))) (@zb _)))))))), ?_⟩;rw [show start ["outcomes", "hands"] [V.ref o, V.ref b] = [some (V.ref o), some (V.ref b)] from rfl];simp only [zc, zd, ↓reduceIte];have g2 := g.hands;refine ⟨o, b, outs, xs, ds, rfl, ho, hh, g, fun H1 S1 => ?_⟩;simp only [zc, zd, ↓reduceIte];have hh1 := hh.mono S1;have ho1 := S1 _ _ ho;refine iteF ⟨_, .of ho1, fun l hl => ?_⟩;have S2 : Same H1 (upd H1 l (.tup (outs.map V.str))) := Same.upd (Same.refl _) hl;have h2 : upd H1 l (.tup (outs.map V.str)) l = some (.tup (outs.map V.str)) := zg;generalize upd H1 l (.tup (outs.map V.str)) = H2 at *;have hh2 := hh1.mono S2;refine ⟨⟨_, .of hh2.at'⟩, fun d => ?_⟩;refine yo (xs := xs.map fun x => V.ref x.t) (PvD K ds H2) ⟨Same.refl _, rfl, TrsAt.nil⟩ ?_ ?_ ?_
    . rintro i ys H3 hi ⟨S, ly, _⟩
      rw [Za, hh.len] at hi;exact ⟨by rw [ly]; exact Zd hi (Zd g2.2 (by decide)), S.seq (.of hh2.at')⟩
    . rintro i y ys H3 hy ⟨S, ly, ty⟩
      obtain ⟨x, hx, rfl⟩ := yv hy;have hi : i < ds.length := by have := (Zc.mp hx).1; have := hh.len; omega
      have e2 : ds[i]? = some ds[i] := by simp [hi]
      have hm := Zl hi;have r8 : (ds[i]).worths.length <= 8 := by rw [g.rows _ hm]; exact (g.words1 _ hm).2
      simp only [zc, zd, ↓reduceIte];refine ⟨x, ds[i], rfl, (hh2.hand i x ds[i] hx e2).mono S, r8, fun H4 p S4 tp => ?_⟩;refine ⟨S.trans S4, by simp [ly], ?_⟩;rw [Zq, e2, Zn];exact TrsAt.append (TrsAt.mono S4 ty) (TrsAt.cons tp TrsAt.nil)
    . rintro ys H3 ⟨S, ly, ty⟩ l1 hl1
      rw [Za, hh.len, Zt] at ty;have S4 : Same H3 (upd H3 l1 (.lst ys)) := Same.upd (Same.refl _) hl1;refine ⟨_, .of zg, fun l2 hl2 => ⟨by decide, fun p hp => ?_⟩⟩;generalize upd H3 l1 (.lst ys) = H4 at *;have S5 : Same H4 (upd H4 l2 (.tup ys)) := Same.upd (Same.refl _) hl2;have h5 : upd H4 l2 (.tup ys) l2 = some (.tup ys) := zg;generalize upd H4 l2 (.tup ys) = H5 at *;have S6 : Same H5 (upd H5 p (.tup [V.ref l, V.ref l2])) := Same.upd (Same.refl _) hp;have S36 := S4.trans (S5.trans S6);exact q _ p _ (S1.trans (S2.trans (S.trans S36))) zg (TrAt.tp (.of zg) (TrsAt.cons (TrAt.tp (.of ((S.trans S36) _ _ h2)) (oj _)) (TrsAt.cons (TrAt.tp (.of (S6 _ _ h5)) (TrsAt.mono S36 ty)) TrsAt.nil)))
end
section
variable {α : Type}
def x6 (r : List α) (ws : List α) : List (List α) := ws.map fun w => r ++ [w]
def xq (rs : List (List α)) (ws : List α) : List (List α) := (rs.map fun r => x6 r ws).flatten
def z9 (wss : List (List α)) : List (List α) := wss.foldl xq [[]]
theorem zdx (wss : List (List α)) (ws : List α) : z9 (wss ++ [ws]) = xq (z9 wss) ws := by simp [z9]
theorem fg (r : List α) (rs : List (List α)) (ws : List α) : xq (r :: rs) ws = x6 r ws ++ xq rs ws := by simp [xq]
theorem gd (rs : List (List α)) (r : List α) (ws : List α) : xq (rs ++ [r]) ws = xq rs ws ++ x6 r ws := by simp [xq]
theorem uc (r : List α) (ws : List α) : (x6 r ws).length = ws.length := by simp [x6]
theorem qo (ws : List α) : ∀ rs : List (List α), (xq rs ws).length = rs.length * ws.length
  | [] => by simp [xq]
  | r :: rs => by rw [fg, Zo, uc, qo ws rs, ZM, Nat.succ_mul, Nat.add_comm]
theorem va {wss : List (List α)} {j : Nat} {ws : List α} (h : wss[j]? = some ws) : z9 (wss.take (j + 1)) = xq (z9 (wss.take j)) ws := by
  rw [Zq, h];exact zdx _ _
theorem dv (wss : List (List α)) : (z9 wss).length = (wss.map List.length).prod := by
  have : ∀ n, n <= wss.length -> (z9 (wss.take n)).length = ((wss.take n).map List.length).prod := by
    intro n
    induction n with
    | zero => intro _; rfl
    | succ n ih =>
      intro h;have e : wss[n]? = some wss[n] := Zb (by omega);rw [va e, qo, ih (by omega), Zq, e, Zn, List.prod_append];simp
  have := this wss.length (Zm _)
  rwa [Zt] at this
theorem jh {rs : List (List α)} {ws : List α} {row : List α} (h : row ∈ xq rs ws) : ∃ r w, r ∈ rs /\ w ∈ ws /\ row = r ++ [w] := by
  simp only [xq, x6, YC, Zp] at h;obtain ⟨l, ⟨r, hr, rfl⟩, h⟩ := h;obtain ⟨w, hw, rfl⟩ := Zp.mp h;exact ⟨r, w, hr, hw, rfl⟩
theorem j8 (wss : List (List α)) : ∀ n, n <= wss.length -> ∀ row ∈ z9 (wss.take n), row.length = n := by
  intro n
  induction n with
  | zero => intro _ row h; simp [z9] at h; simp [h]
  | succ n ih =>
    intro h row hr;have e : wss[n]? = some wss[n] := Zb (by omega);rw [va e] at hr;obtain ⟨r, w, h1, _, rfl⟩ := jh hr;simp [ih (by omega) r h1]
end
structure TupsAt (H : Hp) (as : List Addr) (rs : List (List Str)) : Prop where
  len : as.length = rs.length
  at' : ∀ (i : Nat) (a : Addr) (r : List Str), as[i]? = some a -> rs[i]? = some r -> H a = some (.tup (r.map V.str))
theorem TupsAt.nil {H : Hp} : TupsAt H [] [] := ⟨rfl, fun i a r e => by simp at e⟩
theorem TupsAt.mono {H H' : Hp} {as : List Addr} {rs : List (List Str)} (S : Same H H') (h : TupsAt H as rs) : TupsAt H' as rs := ⟨h.len, fun i a r e1 e2 => S _ _ (h.at' i a r e1 e2)⟩
theorem TupsAt.append {H : Hp} {as bs : List Addr} {rs qs : List (List Str)} (h1 : TupsAt H as rs) (h2 : TupsAt H bs qs) : TupsAt H (as ++ bs) (rs ++ qs) := by
  refine ⟨by simp [h1.len, h2.len], fun i a r e1 e2 => ?_⟩
  by_cases hi : i < as.length
  . rw [Zg hi] at e1
    rw [Zg (by rw [<- h1.len]; exact hi)] at e2;exact h1.at' i a r e1 e2
  . rw [Zf (ZD.mp hi)] at e1
    rw [Zf (by rw [<- h1.len]; exact ZD.mp hi)] at e2;rw [h1.len] at e1;exact h2.at' _ a r e1 e2
theorem TupsAt.one {H : Hp} {a : Addr} {r : List Str} (h : H a = some (.tup (r.map V.str))) : TupsAt H [a] [r] := ⟨rfl, fun i b q e1 e2 => by
  cases i with
  | zero =>
    simp at e1 e2;subst e1 e2;exact h
  | succ i => simp at e1⟩
theorem TupsAt.past {H : Hp} {p : Addr} {xs ys : List V} {as : List Addr} {rs : List (List Str)} (hp : H p = some (.lst xs)) (h : TupsAt H as rs) : TupsAt (upd H p (.lst ys)) as rs :=
  ⟨h.len, fun i a r e1 e2 => by
    have := h.at' i a r e1 e2;rw [zx (fun e => by rw [e, hp] at this; cases this)]
    exact this⟩
structure RwsAt (H : Hp) (l : Addr) (as : List Addr) (rs : List (List Str)) : Prop where
  lst : H l = some (.lst (as.map V.ref))
  tups : TupsAt H as rs
theorem RwsAt.mono {H H' : Hp} {l : Addr} {as : List Addr} {rs : List (List Str)} (S : Same H H') (h : RwsAt H l as rs) : RwsAt H' l as rs := ⟨S _ _ h.lst, h.tups.mono S⟩
structure KHand (K : Fg) (H : Hp) (t : Addr) (d : HD) (w g : Addr) (gs : List Addr) : Prop where
  tup : SqT K H t [.str d.name, .ref w, .ref g]
  words : SqT K H w (d.words.map V.str)
  grid : SqT K H g (gs.map V.ref)
  len : gs.length = d.worths.length
  row : ∀ (i : Nat) (r : Addr) (ns : List Int), gs[i]? = some r -> d.worths[i]? = some ns -> SqT K H r (ns.map V.int)
def KHands (K : Fg) (H : Hp) (hs : List Addr) (ds : List HD) : Prop := hs.length = ds.length /\ ∀ (i : Nat) (t : Addr) (d : HD), hs[i]? = some t -> ds[i]? = some d -> ∃ w g gs, KHand K H t d w g gs
structure KHouse (K : Fg) (H : Hp) (p o h : Addr) (hs : List Addr) (outs : List Str) (ds : List HD) : Prop where
  tup : SqT K H p [.ref o, .ref h]
  outs : SqT K H o (outs.map V.str)
  hands : SqT K H h (hs.map V.ref)
  hand : KHands K H hs ds
theorem KHand.mono {K : Fg} {H H' : Hp} {t : Addr} {d : HD} {w g : Addr} {gs : List Addr} (S : Same H H') (h : KHand K H t d w g gs) : KHand K H' t d w g gs :=
  ⟨S.seqT h.tup, S.seqT h.words, S.seqT h.grid, h.len, fun i r ns e1 e2 => S.seqT (h.row i r ns e1 e2)⟩
theorem KHands.mono {K : Fg} {H H' : Hp} {hs : List Addr} {ds : List HD} (S : Same H H') (h : KHands K H hs ds) : KHands K H' hs ds :=
  ⟨h.1, fun i t d e1 e2 => by
    obtain ⟨w, g, gs, q⟩ := h.2 i t d e1 e2
    exact ⟨w, g, gs, q.mono S⟩⟩
theorem KHouse.mono {K : Fg} {H H' : Hp} {p o h : Addr} {hs : List Addr} {outs : List Str} {ds : List HD} (S : Same H H') (q : KHouse K H p o h hs outs ds) : KHouse K H' p o h hs outs ds :=
  ⟨S.seqT q.tup, S.seqT q.outs, S.seqT q.hands, q.hand.mono S⟩
def uv (K : Fg) (j : Nat) : Sp := fun vs H Q _ => ∃ (t : Addr) (us : List V) (v : V), vs = [.ref t] /\ SqT K H t us /\ us[j]? = some v /\ Q v H
def zek (K : Fg) : Sp := fun vs H Q _ => ∃ (l wd : Addr) (as : List Addr) (rs : List (List Str)) (ws : List Str), vs = [.ref l, .ref wd] /\ RwsAt H l as rs /\ SqT K H wd (ws.map V.str) /\ rs.length <= 4096 /\ ws.length <= 8 /\ (∀ r ∈ rs, r.length <= 8) /\
  ∀ H' l' as', Same H H' -> H l' = none -> RwsAt H' l' as' (xq rs ws) -> Q (.ref l') H'
def PvEach (l wd p : Addr) (rs : List (List Str)) (ws : List Str) (H : Hp) (i : Nat) (σ : L2.St) (H' : Hp) : Prop := ∃ (as' : List Addr) (v : Option V), H' p = some (.lst (as'.map V.ref)) /\ TupsAt H' as' (xq (rs.take i) ws) /\ Same H H' /\ σ = [some (.ref l), some (.ref wd), some (.ref p), v]
def zf3 (r ws : List Str) (H : Hp) (i : Nat) (ys : List V) (H' : Hp) : Prop := ∃ as' : List Addr, ys = as'.map V.ref /\ TupsAt H' as' (x6 r (ws.take i)) /\ Same H H'
def zff (K : Fg) : Sp := fun vs H Q _ => ∃ (h : Addr) (hs : List Addr) (ds : List HD), vs = [.ref h] /\ SqT K H h (hs.map V.ref) /\ KHands K H hs ds /\ ds.length <= 4 /\ (∀ d ∈ ds, d.words.length <= 8) /\
  ∀ H' l as, Same H H' -> H l = none -> RwsAt H' l as (z9 (ds.map HD.words)) -> Q (.ref l) H'
def PvOver (h : Addr) (ds : List HD) (H : Hp) (i : Nat) (σ : L2.St) (H' : Hp) : Prop := ∃ (l : Addr) (as : List Addr) (v : Option V), H l = none /\ RwsAt H' l as (z9 ((ds.map HD.words).take i)) /\ Same H H' /\ σ = [some (.ref h), some (.ref l), v]
def d9 (K : Fg) : Sp := fun vs H Q _ => ∃ (p : Addr) (xs : List V) (k : Nat), vs = [.ref p, .int k] /\ SqT K H p xs /\ k < xs.length /\ xs.length <= 64 /\ ∀ H' p', Same H H' -> H' p' = some (.tup (xs.eraseIdx k)) -> Q (.ref p') H'
def k8 (K : Fg) : Sp := fun vs H Q _ => ∃ (p o h : Addr) (hs : List Addr) (outs : List Str) (ds : List HD) (k : Nat), vs = [.ref p, .int k] /\ KHouse K H p o h hs outs ds /\ k < ds.length /\ ds.length <= 4 /\ (∀ d ∈ ds, d.words.length <= 8) /\
  ∀ H' l as, Same H H' -> H l = none -> RwsAt H' l as (z9 ((ds.eraseIdx k).map HD.words)) -> Q (.ref l) H'
theorem rg {wss : List (List Str)} (h4 : wss.length <= 4) (h8 : ∀ ws ∈ wss, ws.length <= 8) (n : Nat) (hn : n <= wss.length) : (z9 (wss.take n)).length <= 4096 := by
  have : ∀ m, m <= wss.length -> (z9 (wss.take m)).length <= 8 ^ m := by
    intro m
    induction m with
    | zero => intro _; exact Zm _
    | succ m ih =>
      intro h;have e : wss[m]? = some wss[m] := Zb (by omega);rw [va e, qo, Nat.pow_succ];exact Yq (ih (by omega)) (h8 _ (Zl (by omega)))
  exact Zd (this n hn) (Nat.pow_le_pow_right (by decide) (show n <= 4 by omega))
section
variable {P : Program} {w : World} {K : Fg} {mg : Str -> Option Value} {base : Heap}
theorem zde (D : zi K mg "hands_of" p8 ["house"]) : FnAt P w K mg base "hands_of" 1 ["house"] (uv K 1) := by
  refine FnAt.of D zbl (fun vs H Q E h => ?_) (fun f cdv A outer s H vs Q E hr h => ?_)
  . obtain ⟨t, us, v, rfl, _⟩ := h
    rfl
  . obtain ⟨t, us, v, rfl, ht, e, q⟩ := h
    refine ⟨_, (@zh _ _ _ (@zn _ _ _ _ (@zt _ _ _ _ _ _ _ yh (pv 0) (@ze _ _ _ _) (fun _ _ => rfl)))), ?_⟩;rw [show start ["house"] [V.ref t] = [some (V.ref t)] from rfl];simp only [zc, zd, ↓reduceIte];exact ⟨_, ht, _, zw (j := 1) e, q⟩
theorem gq (D : zi K mg "words_of_hand" wf ["hand"]) : FnAt P w K mg base "words_of_hand" 1 ["hand"] (uv K 1) := by
  refine FnAt.of D nk (fun vs H Q E h => ?_) (fun f cdv A outer s H vs Q E hr h => ?_)
  . obtain ⟨t, us, v, rfl, _⟩ := h
    rfl
  . obtain ⟨t, us, v, rfl, ht, e, q⟩ := h
    refine ⟨_, (@zh _ _ _ (@zn _ _ _ _ (@zt _ _ _ _ _ _ _ yh (pv 0) (@ze _ _ _ _) (fun _ _ => rfl)))), ?_⟩;rw [show start ["hand"] [V.ref t] = [some (V.ref t)] from rfl];simp only [zc, zd, ↓reduceIte];exact ⟨_, ht, _, zw (j := 1) e, q⟩
theorem m5 (B : Bt mg) (D : zi K mg "with_each" rn ["rows", "words"]) : FnAt P w K mg base "with_each" 1 ["rows", "words"] (zek K) := by
  refine FnAt.of D sc_with_each (fun vs H Q E h => ?_) (fun f cdv A outer s H vs Q E hr h => ?_)
  . obtain ⟨l, wd, as, rs, ws, rfl, _⟩ := h
    rfl
  . obtain ⟨l, wd, as, rs, ws, rfl, hR, hW, b1, b2, b3, q⟩ := h
    refine ⟨_, (@zj _ _ _ _ _ (zz (i := 2) sc_with_each.nd rfl (Or.inl rfl) (@xm _ _ _ _ (@zb _))) (@zj _ _ _ _ _ (yx PassesOwn.never rfl (@yg _ _ _ _ (pv 0)) (zp (i := 3) sc_with_each.nd rfl (Or.inr rfl)) (@zh _ _ _ (wx (qe PySem.F.plainAttrs_list PySem.F.slot_list_extend PySem.F.type_list_extend du (pv 2) (za (yk ["word"] ["rows", "words", "longer", "row"] rfl (@gv _ _ _ _ (pv 1)) (fun _ => (zp (i := 0) (show (["word", "rows", "words", "longer", "row"] : List Str).Nodup by decide +kernel) rfl (Or.inl rfl))) (fun _ => (@yc _)) (fun _ => (@zm _ _ _ _ _ _ _ _ rb (pv 4) (@y7 _ _ _ _ _ (za (pv 0) (@zb _))))) rfl (by decide +kernel) rfl rfl) (@zb _)))))) (@zh _ _ _ (@zn _ _ _ _ (pv 2))))), ?_⟩;rw [show start ["rows", "words", "longer", "row"] [V.ref l, V.ref wd] = [some (V.ref l), some (V.ref wd), none, none] from rfl];simp only [zc, zd, ↓reduceIte];refine ⟨by decide, fun p hp => ?_⟩;have S1 : Same H (upd H p (.lst [])) := Same.upd (Same.refl _) hp;refine ⟨⟨_, .of (S1 _ _ hR.lst)⟩, ?_⟩;refine x9 (xs := as.map V.ref) (PvEach l wd p rs ws H) ⟨[], _, zg, TupsAt.nil, S1, rfl⟩ ?_ ?_ ?_
    . rintro i σ H' hi ⟨as', v, h1, h2, S, rfl⟩
      exact .of (S _ _ hR.lst)
    . rintro i x σ H' hx ⟨as', v, h1, h2, S, rfl⟩
      obtain ⟨a, ha, rfl⟩ := yv hx;have hi : i < rs.length := by have := (Zc.mp ha).1; have := hR.tups.len; omega
      have er : rs[i]? = some rs[i] := Zb hi;have hrow := hR.tups.at' i a _ ha er;have hr8 := b3 _ (Zl hi);simp only [zc, zd, ↓reduceIte];refine ⟨.inl ⟨rfl, _, .of h1⟩, ⟨_, S.seqT hW⟩, fun d => ?_⟩;refine ik (xs := ws.map V.str) (zf3 rs[i] ws H') ⟨[], rfl, TupsAt.nil, Same.refl _⟩ ?_ ?_ ?_
      . rintro j ys H2 hj ⟨bs, rfl, t2, S2⟩
        refine ⟨?_, S2.seqT (S.seqT hW)⟩;rw [Za, t2.len, uc, Zj];exact Zd (ZB _ _) (Zd b2 (by decide))
      . rintro j y ys H2 hy ⟨bs, rfl, t2, S2⟩
        obtain ⟨z, hz, rfl⟩ := yv hy;simp only [zc, zd, ↓reduceIte];refine ⟨by decide, fun c hc => ?_⟩;have S3 : Same H2 (upd H2 c (.tup [V.str z])) := Same.upd (Same.refl _) hc;refine ⟨_, (S.trans (S2.trans S3)) _ _ hrow, _, zg, ?_, fun H4 e S4 he => ?_⟩
        . rw [Za]
          exact Zd (show _ <= 9 by simp; omega) (by decide)
        . refine ⟨bs ++ [e], by simp, ?_, S2.trans (S3.trans S4)⟩
          rw [Zq, hz]
          show TupsAt H4 (bs ++ [e]) (x6 _ (ws.take j ++ [z]))
          rw [x6, Zn];exact (t2.mono (S3.trans S4)).append (TupsAt.one (by rw [he]; simp))
      . rintro ys H2 ⟨bs, rfl, t2, S2⟩ l2 hl2
        rw [Za, Zt] at t2;have S3 : Same H2 (upd H2 l2 (.lst (bs.map V.ref))) := Same.upd (Same.refl _) hl2;have h3 : upd H2 l2 (.lst (bs.map V.ref)) l2 = some (.lst (bs.map V.ref)) := zg;generalize upd H2 l2 (.lst (bs.map V.ref)) = H3 at *;have hp3 := (S2.trans S3) _ _ h1;refine ⟨_, hp3, _, h3, ?_, ?_⟩
        . rw [Za, Za, h2.len, t2.len, uc, qo, Zj]
          have : min i rs.length * ws.length <= 4096 * 8 := Yq (by omega) b2;exact Zd (show _ <= 4096 * 8 + 8 by omega) (by decide)
        . refine ⟨as' ++ bs, _, by rw [zg, Zn], ?_, Same.upd (S.trans (S2.trans S3)) hp, rfl⟩
          rw [Zq, er]
          show TupsAt _ _ (xq (rs.take i ++ [rs[i]]) ws)
          rw [gd];exact ((h2.mono (S2.trans S3)).append (t2.mono S3)).past hp3
    . rintro σ H' ⟨as', v, h1, h2, S, rfl⟩
      simp only [zc, zd, ↓reduceIte];rw [Za, hR.tups.len, Zt] at h2;exact q H' p as' S hp ⟨h1, h2⟩
theorem m8 (B : Bt mg) (m5 : FnAt P w K mg base "with_each" 1 ["rows", "words"] (zek K)) (yu : FnAt P w K mg base "words_of_hand" 1 ["hand"] (uv K 1)) (D : zi K mg "rows_over" r6 ["hands"]) : FnAt P w K mg base "rows_over" 2 ["hands"] (zff K) := by
  refine FnAt.of D sc_rows_over (fun vs H Q E h => ?_) (fun f cdv A outer s H vs Q E hr h => ?_)
  . obtain ⟨b, hs, ds, rfl, _⟩ := h
    rfl
  . obtain ⟨b, hs, ds, rfl, hH, hK, h4, h8, q⟩ := h
    refine ⟨_, (@zj _ _ _ _ _ (@zz _ _ 1 _ _ _ _ sc_rows_over.nd rfl (Or.inl rfl) (@xm _ _ _ _ (@za _ _ _ _ _ (@y7 _ _ _ _ _ (@zb _)) (@zb _) (z8 nofun))) rfl (Or.inl rfl)) (@zj _ _ _ _ _ (yx PassesOwn.never rfl (@gv _ _ _ _ (pv 0)) (zp (i := 2) sc_rows_over.nd rfl (Or.inl rfl)) (@zh _ _ _ (zz (i := 1) sc_rows_over.nd rfl (Or.inl rfl) (zk m5 (hr.mono (by decide)) rfl (za (pv 1) (za (zk yu (hr.mono (by decide)) rfl (za (pv 2) (@zb _))) (@zb _))))))) (@zh _ _ _ (@zn _ _ _ _ (pv 1))))), ?_⟩;rw [show start ["hands", "rows", "hand"] [V.ref b] = [some (V.ref b), none, none] from rfl];simp only [zc, zd, ↓reduceIte];refine ⟨by decide, fun c hc => ⟨by decide, fun p hp => ?_⟩⟩;have S1 : Same H (upd H c (.tup [])) := Same.upd (Same.refl _) hc;have h1 : upd H c (.tup []) c = some (.tup []) := zg;generalize upd H c (.tup []) = H1 at *;have S2 : Same H1 (upd H1 p (.lst [V.ref c])) := Same.upd (Same.refl _) hp;have h2 : upd H1 p (.lst [V.ref c]) p = some (.lst [V.ref c]) := zg;generalize upd H1 p (.lst [V.ref c]) = H2 at *;have S := S1.trans S2;refine ⟨⟨_, S.seqT hH⟩, ?_⟩;refine zh4 (xs := hs.map V.ref) (PvOver b ds H) ⟨p, [c], _, S1.free hp, ⟨h2, TupsAt.one (S2 _ _ h1)⟩, S, rfl⟩ ?_ ?_ ?_
    . rintro i σ H' hi ⟨l, as, v, hl, hR, S', rfl⟩
      exact S'.seqT hH
    . rintro i x σ H' hx ⟨l, as, v, hl, hR, S', rfl⟩
      obtain ⟨t, ht, rfl⟩ := yv hx;have hi : i < ds.length := by have := (Zc.mp ht).1; have := hK.1; omega
      have ed : ds[i]? = some ds[i] := Zb hi;obtain ⟨wd, g, gs, hd⟩ := (hK.mono S').2 i t _ ht ed;simp only [zc, zd, ↓reduceIte];refine ⟨t, _, _, rfl, hd.tup, rfl, ?_⟩;have ew : (ds.map HD.words)[i]? = some ds[i].words := by rw [Ze, ed]; rfl
      have hb : ∀ r ∈ z9 ((ds.map HD.words).take i), r.length <= 8 := fun r hr => by
        have := j8 (ds.map HD.words) i (by rw [Za]; omega) r hr;omega
      refine ⟨l, wd, as, _, ds[i].words, rfl, hR, hd.words, rg (by rw [Za]; exact h4) (fun ws hws => ?_) i (by rw [Za]; omega), h8 _ (Zl hi), hb, fun H3 l3 as3 S3 hl3 R3 => ?_⟩
      . obtain ⟨d, hd, rfl⟩ := Zp.mp hws
        exact h8 d hd
      . simp only [zc, zd, ↓reduceIte]
        refine ⟨l3, as3, _, S'.free hl3, ?_, S'.trans S3, rfl⟩;rw [va ew];exact R3
    . rintro σ H' ⟨l, as, v, hl, hR, S', rfl⟩
      simp only [zc, zd, ↓reduceIte];rw [Za, hK.1, ZG (by rw [Za]; omega)] at hR;exact q H' l as S' hl hR
theorem jr (B : Bt mg) (D : zi K mg "without" ma ["things", "k"]) : FnAt P w K mg base "without" 1 ["things", "k"] (d9 K) := by
  refine FnAt.of D zc4 (fun vs H Q E h => ?_) (fun f cdv A outer s H vs Q E hr h => ?_)
  . obtain ⟨p, xs, k, rfl, _⟩ := h
    rfl
  . obtain ⟨p, xs, k, rfl, hp, hk, h64, q⟩ := h
    refine ⟨_, (@zh _ _ _ (@zn _ _ _ _ (@zm _ _ _ _ _ _ _ _ rb (@uz _ _ _ _ _ _ _ _ _ _ zak (pv 0) (@rf _) (@u0 _ _ _ (pv 1))) (@uz _ _ _ _ _ _ _ _ _ _ zak (pv 0) (@u0 _ _ _ (@zm _ _ _ _ _ _ _ _ yp (pv 1) (@ze _ _ _ _))) (@rf _))))), ?_⟩;rw [show start ["things", "k"] [V.ref p, V.int k] = [some (V.ref p), some (V.int k)] from rfl];simp only [zc, zd, ↓reduceIte];refine ⟨_, hp, ?_, fun c hc => ?_⟩
    . rw [HT.sIx_nat]
      omega
    . rw [dc (YO hk)]
      have S1 : Same H (upd H c (.tup (xs.take k))) := Same.upd (Same.refl _) hc;have h1 : upd H c (.tup (xs.take k)) c = some (.tup (xs.take k)) := zg;generalize upd H c (.tup (xs.take k)) = H1 at *;refine ⟨_, S1.seqT hp, ?_, fun e he => ?_⟩
      . rw [show (k : Int) + 1 = ((k + 1 : Nat) : Int) by omega, HT.sIx_nat]
        omega
      . rw [show (k : Int) + 1 = ((k + 1 : Nat) : Int) by omega, jl hk]
        have S2 : Same H1 (upd H1 e (.tup (xs.drop (k + 1)))) := Same.upd (Same.refl _) he;refine ⟨_, S2 _ _ h1, _, zg, ?_, fun H3 r S3 hr => ?_⟩
        . rw [Zj, Yh]
          exact Zd (show _ <= 64 by omega) (by decide)
        . refine q H3 r (S1.trans (S2.trans S3)) ?_
          rw [hr, Yk]
theorem ug (B : Bt mg) (m8 : FnAt P w K mg base "rows_over" 2 ["hands"] (zff K)) (f_hands_of : FnAt P w K mg base "hands_of" 1 ["house"] (uv K 1)) (jr : FnAt P w K mg base "without" 1 ["things", "k"] (d9 K)) (D : zi K mg "others_of" qj ["house", "k"]) : FnAt P w K mg base "others_of" 3 ["house", "k"] (k8 K) := by
  refine FnAt.of D ay (fun vs H Q E h => ?_) (fun f cdv A outer s H vs Q E hr h => ?_)
  . obtain ⟨p, o, a, hs, outs, ds, k, rfl, _⟩ := h
    rfl
  . obtain ⟨p, o, a, hs, outs, ds, k, rfl, hH, hk, h4, h8, q⟩ := h
    refine ⟨_, (@zh _ _ _ (@zn _ _ _ _ (zk m8 (hr.mono (by decide)) rfl (za (zk jr (hr.mono (by decide)) rfl (za (zk f_hands_of (hr.mono (by decide)) rfl (za (pv 0) (@zb _))) (za (pv 1) (@zb _)))) (@zb _))))), ?_⟩;rw [show start ["house", "k"] [V.ref p, V.int k] = [some (V.ref p), some (V.int k)] from rfl];simp only [zc, zd, ↓reduceIte];have hl := hH.hand.1;refine ⟨p, _, _, rfl, hH.tup, rfl, a, _, k, rfl, hH.hands, by rw [Za]; omega, by rw [Za]; omega, fun H1 b S1 hb => ?_⟩
    have e : (hs.map V.ref).eraseIdx k = (hs.eraseIdx k).map V.ref := by
      rw [Yk, Yk, Zn, List.map_take, List.map_drop]
    rw [e] at hb;refine ⟨b, hs.eraseIdx k, ds.eraseIdx k, rfl, .of hb, ⟨?_, fun i t d e1 e2 => ?_⟩, ?_, fun d hd => h8 d (Yi hd), fun H2 l as S2 hl R2 => q H2 l as (S1.trans S2) (S1.free hl) R2⟩
    . rw [List.length_eraseIdx, List.length_eraseIdx, hl]
    . rw [YA] at e1 e2
      by_cases hik : i < k
      . rw [if_pos hik] at e1 e2
        exact (hH.hand.mono S1).2 i t d e1 e2
      . rw [if_neg hik] at e1 e2
        exact (hH.hand.mono S1).2 (i + 1) t d e1 e2
    . exact Zd (List.length_eraseIdx_le _ _) h4
end
structure HHand (H : Hp) (t : Addr) (d : HD) (w g : Addr) (gs : List Addr) : Prop where
  tup : H t = some (.tup [.str d.name, .ref w, .ref g])
  words : H w = some (.tup (d.words.map V.str))
  grid : H g = some (.tup (gs.map V.ref))
  len : gs.length = d.worths.length
  row : ∀ (i : Nat) (r : Addr) (ns : List Int), gs[i]? = some r -> d.worths[i]? = some ns -> H r = some (.tup (ns.map V.int))
theorem HHand.mono {H H' : Hp} {t : Addr} {d : HD} {w g : Addr} {gs : List Addr} (S : Same H H') (h : HHand H t d w g gs) : HHand H' t d w g gs :=
  ⟨S _ _ h.tup, S _ _ h.words, S _ _ h.grid, h.len, fun i r ns e1 e2 => S _ _ (h.row i r ns e1 e2)⟩
theorem HHand.k {K : Fg} {H : Hp} {t : Addr} {d : HD} {w g : Addr} {gs : List Addr} (h : HHand H t d w g gs) : KHand K H t d w g gs :=
  ⟨.of h.tup, .of h.words, .of h.grid, h.len, fun i r ns e1 e2 => .of (h.row i r ns e1 e2)⟩
def HHands (H : Hp) (hs : List Addr) (ds : List HD) : Prop := hs.length = ds.length /\ ∀ (i : Nat) (t : Addr) (d : HD), hs[i]? = some t -> ds[i]? = some d -> ∃ w g gs, HHand H t d w g gs
theorem HHands.mono {H H' : Hp} {hs : List Addr} {ds : List HD} (S : Same H H') (h : HHands H hs ds) : HHands H' hs ds :=
  ⟨h.1, fun i t d e1 e2 => by
    obtain ⟨w, g, gs, q⟩ := h.2 i t d e1 e2
    exact ⟨w, g, gs, q.mono S⟩⟩
theorem HHands.snoc {H : Hp} {hs : List Addr} {ds : List HD} {t : Addr} {d : HD} {w g : Addr} {gs : List Addr} (h : HHands H hs ds) (q : HHand H t d w g gs) : HHands H (hs ++ [t]) (ds ++ [d]) := by
  refine ⟨by simp [h.1], fun i a e e1 e2 => ?_⟩
  by_cases hi : i < hs.length
  . rw [Zg hi] at e1
    rw [Zg (by rw [<- h.1]; exact hi)] at e2;exact h.2 i a e e1 e2
  . rw [Zf (ZD.mp hi)] at e1
    rw [Zf (by rw [<- h.1]; exact ZD.mp hi)] at e2
    have h0 : i - hs.length = 0 := by
      have := (Zc.mp e1).1;simp at this;omega
    rw [h0] at e1;rw [<- h.1, h0] at e2;simp at e1 e2;subst e1 e2;exact ⟨w, g, gs, q⟩
structure HHouse (H : Hp) (p o h : Addr) (hs : List Addr) (outs : List Str) (ds : List HD) : Prop where
  tup : H p = some (.tup [.ref o, .ref h])
  outs : H o = some (.tup (outs.map V.str))
  hands : H h = some (.tup (hs.map V.ref))
  hand : HHands H hs ds
theorem HHouse.mono {H H' : Hp} {p o h : Addr} {hs : List Addr} {outs : List Str} {ds : List HD} (S : Same H H') (q : HHouse H p o h hs outs ds) : HHouse H' p o h hs outs ds :=
  ⟨S _ _ q.tup, S _ _ q.outs, S _ _ q.hands, q.hand.mono S⟩
theorem HHouse.k {K : Fg} {H : Hp} {p o h : Addr} {hs : List Addr} {outs : List Str} {ds : List HD} (q : HHouse H p o h hs outs ds) : KHouse K H p o h hs outs ds :=
  ⟨.of q.tup, .of q.outs, .of q.hands, q.hand.1, fun i t d e1 e2 => by
    obtain ⟨w, g, gs, z⟩ := q.hand.2 i t d e1 e2
    exact ⟨w, g, gs, z.k⟩⟩
structure IntTs (H : Hp) (ls : List Addr) (ps : List (List Int)) : Prop where
  len : ls.length = ps.length
  at' : ∀ (i : Nat) (l : Addr) (p : List Int), ls[i]? = some l -> ps[i]? = some p -> H l = some (.tup (p.map V.int))
theorem IntTs.mono {H H' : Hp} {ls : List Addr} {ps : List (List Int)} (S : Same H H') (h : IntTs H ls ps) : IntTs H' ls ps := ⟨h.len, fun i l p e1 e2 => S _ _ (h.at' i l p e1 e2)⟩
theorem IntTs.snoc {H : Hp} {ls : List Addr} {ps : List (List Int)} {l : Addr} {p : List Int} (h : IntTs H ls ps) (hl : H l = some (.tup (p.map V.int))) : IntTs H (ls ++ [l]) (ps ++ [p]) := by
  refine ⟨by simp [h.len], fun i a q e1 e2 => ?_⟩
  by_cases hi : i < ls.length
  . rw [Zg hi] at e1
    rw [Zg (by rw [<- h.len]; exact hi)] at e2;exact h.at' i a q e1 e2
  . rw [Zf (ZD.mp hi)] at e1
    rw [Zf (by rw [<- h.len]; exact ZD.mp hi)] at e2
    have h0 : i - ls.length = 0 := by
      have := (Zc.mp e1).1;simp at this;omega
    rw [h0] at e1;rw [<- h.len, h0] at e2;simp at e1 e2;subst e1 e2;exact hl
def zf4 : Sp := fun vs H Q _ => ∃ (x : HX) (d : HD), vs = [.ref x.t] /\ HandAt H x d /\ d.worths.length <= 8 /\ ∀ H' t w g gs, Same H H' -> HHand H' t d w g gs -> Q (.ref t) H'
def am : Sp := fun vs H Q _ => ∃ (o b : Addr) (outs : List Str) (xs : List HX) (ds : List HD), vs = [.ref o, .ref b] /\ H o = some (.lst (outs.map V.str)) /\ HandsL H b xs ds /\ GoodHouse outs ds /\ ∀ H' p o' h hs, Same H H' -> HHouse H' p o' h hs outs ds -> Q (.ref p) H'
def PvEH (rows : List (List Int)) (H1 : Hp) (i : Nat) (ys : List V) (H' : Hp) : Prop := Same H1 H' /\ ∃ gs : List Addr, ys = gs.map V.ref /\ IntTs H' gs (rows.take i)
def PvDH (ds : List HD) (H1 : Hp) (i : Nat) (ys : List V) (H' : Hp) : Prop := Same H1 H' /\ ∃ hs : List Addr, ys = hs.map V.ref /\ HHands H' hs (ds.take i)
section
variable {P : Program} {w : World} {K : Fg} {mg : Str -> Option Value} {base : Heap} {a : Ad}
theorem za9 (B : Bt mg) (vt : FnAt P w K mg base "name_of" 1 ["hand"] (su fun _ d => .str d.name)) (yu : FnAt P w K mg base "words_of_hand" 1 ["hand"] (su fun x _ => .ref x.w)) (xh : FnAt P w K mg base "worths_of_hand" 1 ["hand"] (su fun x _ => .ref x.g))
    (D : zi K mg "kept_hand" ud ["hand"]) : FnAt P w K mg base "kept_hand" 2 ["hand"] zf4 := by
  refine FnAt.of D sc_kept_hand (fun vs H Q E h => ?_) (fun f cdv A outer s H vs Q E hr h => ?_)
  . obtain ⟨x, d, rfl, _⟩ := h
    rfl
  . obtain ⟨x, d, rfl, hx, h8, q⟩ := h
    refine ⟨_, (@zj _ _ _ _ _ (zz (i := 1) sc_kept_hand.nd rfl (Or.inl rfl) (xi x5 rfl B.tuple xv (za (yk ["row"] ["hand", "worths"] rfl (@yg _ _ _ _ (zk xh (hr.mono (by decide)) rfl (za (pv 0) (@zb _)))) (fun _ => (zp (i := 0) (show (["row", "hand", "worths"] : List Str).Nodup by decide +kernel) rfl (Or.inl rfl))) (fun _ => (@yc _)) (fun _ => (xi x5 rfl B.tuple xv (za (pv 0) (@zb _)))) rfl (by decide +kernel) rfl rfl) (@zb _)))) (@zh _ _ _ (@zn _ _ _ _ (@y7 _ _ _ _ _ (za (zk vt (hr.mono (by decide)) rfl (za (pv 0) (@zb _))) (za (xi x5 rfl B.tuple xv (za (zk yu (hr.mono (by decide)) rfl (za (pv 0) (@zb _))) (@zb _))) (za (pv 1) (@zb _)))))))), ?_⟩;rw [show start ["hand", "worths"] [V.ref x.t] = [some (V.ref x.t), none] from rfl];simp only [zc, zd, ↓reduceIte];refine ⟨x, d, rfl, hx, ?_⟩;simp only [zc, zd, ↓reduceIte];refine ⟨⟨_, .of hx.grid⟩, fun dd => ?_⟩;refine yo (xs := x.gs.map V.ref) (PvEH d.worths H) ⟨Same.refl _, [], rfl, rfl, fun i l p e => by simp at e⟩ ?_ ?_ ?_
    . rintro i ys H2 hi ⟨S, gs, rfl, ty⟩
      rw [Za, hx.len] at hi;have ly : gs.length = i := by rw [ty.len, Zj]; omega
      exact ⟨by rw [Za, ly]; exact Zd hi (Zd h8 (by decide)), S.seq (.of hx.grid)⟩
    . rintro i y ys H2 hy ⟨S, gs, rfl, ty⟩
      obtain ⟨r, hr', rfl⟩ := yv hy;have hi : i < d.worths.length := by have := (Zc.mp hr').1; have := hx.len; omega
      have e2 : d.worths[i]? = some d.worths[i] := by simp [hi]
      simp only [zc, zd, ↓reduceIte];refine ⟨_, S.seq (.of (hx.row i r _ hr' e2)), fun l hl => ?_⟩;have S3 : Same H2 (upd H2 l (.tup ((d.worths[i]).map V.int))) := Same.upd (Same.refl _) hl;refine ⟨S.trans S3, gs ++ [l], by simp, ?_⟩;rw [Zq, e2];exact (ty.mono S3).snoc zg
    . rintro ys H2 ⟨S, gs, rfl, ty⟩ l hl
      rw [Za, hx.len, Zt] at ty;have S3 : Same H2 (upd H2 l (.lst (gs.map V.ref))) := Same.upd (Same.refl _) hl;refine ⟨_, .of zg, fun l1 hl1 => ?_⟩;generalize upd H2 l (.lst (gs.map V.ref)) = H3 at *;have S4 : Same H3 (upd H3 l1 (.tup (gs.map V.ref))) := Same.upd (Same.refl _) hl1;have h4 : upd H3 l1 (.tup (gs.map V.ref)) l1 = some (.tup (gs.map V.ref)) := zg;generalize upd H3 l1 (.tup (gs.map V.ref)) = H4 at *;have S24 := S.trans (S3.trans S4);refine ⟨x, d, rfl, hx.mono S24, x, d, rfl, hx.mono S24, x.w, rfl, _, .of (hx.mono S24).words, fun l2 hl2 => ⟨by decide, fun p hp => ?_⟩⟩;have S5 : Same H4 (upd H4 l2 (.tup (d.words.map V.str))) := Same.upd (Same.refl _) hl2;have h5 : upd H4 l2 (.tup (d.words.map V.str)) l2 = some (.tup (d.words.map V.str)) := zg;generalize upd H4 l2 (.tup (d.words.map V.str)) = H5 at *;have S6 : Same H5 (upd H5 p (.tup [V.str d.name, V.ref l2, V.ref l1])) := Same.upd (Same.refl _) hp;exact q _ p l2 l1 gs (S24.trans (S5.trans S6)) ⟨zg, S6 _ _ h5, (S5.trans S6) _ _ h4, ty.len, fun i r ns e1 e2 => (S3.trans (S4.trans (S5.trans S6))) _ _ (ty.at' i r ns e1 e2)⟩
theorem zds (B : Bt mg) (C : Ct K mg a) (vf : FnAt P w K mg base "makes_house" 6 ["outcomes", "hands"] ac) (r9 : FnAt P w K mg base "kept_hand" 2 ["hand"] zf4) (D : zi K mg "house_of" so ["outcomes", "hands"]) : FnAtX P w K mg base "house_of" 7 ["outcomes", "hands"] am := by
  refine FnAtX.of D j9 (fun vs H Q E h => ?_) (fun f cdv A outer s H vs Q E hr h => ?_)
  . obtain ⟨o, b, outs, xs, ds, rfl, _⟩ := h
    rfl
  . obtain ⟨o, b, outs, xs, ds, rfl, ho, hh, g, q⟩ := h
    refine ⟨_, (@zj _ _ _ _ _ (@yj _ _ _ _ _ _ _ _ (@y0 _ _ _ _ (yz (zk vf (hr.mono (by decide)) rfl (za (pv 0) (za (pv 1) (@zb _)))))) (@zh _ _ _ (iq rfl C.q_NoHouse.toErr rfl C.m_NoHouse (m9 rfl) (za (@u7 _ _ _ _) (@zb _)))) (@yb _)) (@zh _ _ _ (PS.nox (@zn _ _ _ _ (@y7 _ _ _ _ _ (za (xi x5 rfl B.tuple xv (za (pv 0) (@zb _))) (za (xi x5 rfl B.tuple xv (za (yk ["hand"] ["outcomes", "hands"] rfl (@yg _ _ _ _ (pv 1)) (fun _ => (zp (i := 0) (show (["hand", "outcomes", "hands"] : List Str).Nodup by decide +kernel) rfl (Or.inl rfl))) (fun _ => (@yc _)) (fun _ => (zk r9 (hr.mono (by decide)) rfl (za (pv 0) (@zb _)))) rfl (by decide +kernel) rfl rfl) (@zb _))) (@zb _)))))))), ?_⟩;rw [show start ["outcomes", "hands"] [V.ref o, V.ref b] = [some (V.ref o), some (V.ref b)] from rfl];simp only [zc, zd, ↓reduceIte];have g2 := g.hands;refine ⟨o, b, outs, xs, ds, rfl, ho, hh, g, fun H1 S1 => ?_⟩;simp only [zc, zd, ↓reduceIte];have hh1 := hh.mono S1;have ho1 := S1 _ _ ho;refine iteF ⟨_, .of ho1, fun l hl => ?_⟩;have S2 : Same H1 (upd H1 l (.tup (outs.map V.str))) := Same.upd (Same.refl _) hl;have h2 : upd H1 l (.tup (outs.map V.str)) l = some (.tup (outs.map V.str)) := zg;generalize upd H1 l (.tup (outs.map V.str)) = H2 at *;have hh2 := hh1.mono S2;refine ⟨⟨_, .of hh2.at'⟩, fun d => ?_⟩;refine yo (xs := xs.map fun x => V.ref x.t) (PvDH ds H2) ⟨Same.refl _, [], rfl, rfl, fun i t d e => by simp at e⟩ ?_ ?_ ?_
    . rintro i ys H3 hi ⟨S, hs, rfl, ty⟩
      rw [Za, hh.len] at hi;have ly : hs.length = i := by rw [ty.1, Zj]; omega
      exact ⟨by rw [Za, ly]; exact Zd hi (Zd g2.2 (by decide)), S.seq (.of hh2.at')⟩
    . rintro i y ys H3 hy ⟨S, hs, rfl, ty⟩
      obtain ⟨x, hx, rfl⟩ := yv hy;have hi : i < ds.length := by have := (Zc.mp hx).1; have := hh.len; omega
      have e2 : ds[i]? = some ds[i] := by simp [hi]
      have hm := Zl hi;have r8 : (ds[i]).worths.length <= 8 := by rw [g.rows _ hm]; exact (g.words1 _ hm).2
      simp only [zc, zd, ↓reduceIte];refine ⟨x, ds[i], rfl, (hh2.hand i x ds[i] hx e2).mono S, r8, fun H4 p wd g' gs S4 tp => ?_⟩;refine ⟨S.trans S4, hs ++ [p], by simp, ?_⟩;rw [Zq, e2];exact (ty.mono S4).snoc tp
    . rintro ys H3 ⟨S, hs, rfl, ty⟩ l1 hl1
      rw [Za, hh.len, Zt] at ty;have S4 : Same H3 (upd H3 l1 (.lst (hs.map V.ref))) := Same.upd (Same.refl _) hl1;refine ⟨_, .of zg, fun l2 hl2 => ⟨by decide, fun p hp => ?_⟩⟩;generalize upd H3 l1 (.lst (hs.map V.ref)) = H4 at *;have S5 : Same H4 (upd H4 l2 (.tup (hs.map V.ref))) := Same.upd (Same.refl _) hl2;have h5 : upd H4 l2 (.tup (hs.map V.ref)) l2 = some (.tup (hs.map V.ref)) := zg;generalize upd H4 l2 (.tup (hs.map V.ref)) = H5 at *;have S6 : Same H5 (upd H5 p (.tup [V.ref l, V.ref l2])) := Same.upd (Same.refl _) hp;have S36 := S4.trans (S5.trans S6);exact q _ p l l2 hs (S1.trans (S2.trans (S.trans S36))) ⟨zg, (S.trans S36) _ _ h2, S6 _ _ h5, ty.mono S36⟩
end
section
variable {α : Type}
def bb (r : List α) (wss : List (List α)) : Prop := r.length = wss.length /\ ∀ (j : Nat) (ws : List α), wss[j]? = some ws -> ∃ w, r[j]? = some w /\ w ∈ ws
theorem zg3 {rs : List (List α)} {ws : List α} {r : List α} {w : α} (h1 : r ∈ rs) (h2 : w ∈ ws) : r ++ [w] ∈ xq rs ws := by
  simp only [xq, x6, YC, Zp];exact ⟨_, ⟨r, h1, rfl⟩, Zp.mpr ⟨w, h2, rfl⟩⟩
theorem zfe (wss : List (List α)) : ∀ n, n <= wss.length -> ∀ r, r ∈ z9 (wss.take n) ↔ bb r (wss.take n) := by
  intro n
  induction n with
  | zero =>
    intro _ r;simp only [List.take_zero, z9, List.foldl_nil, ZC]
    constructor
    . rintro rfl; exact ⟨rfl, fun j ws e => by simp at e⟩
    . intro h; exact List.length_eq_zero_iff.mp h.1
  | succ n ih =>
    intro hn r;have e : wss[n]? = some wss[n] := Zb (by omega);have et : wss.take (n + 1) = wss.take n ++ [wss[n]] := by rw [Zq, e]; rfl
    have ln : (wss.take n).length = n := by rw [Zj]; omega
    rw [va e]
    constructor
    . intro h
      obtain ⟨q, w, h1, h2, rfl⟩ := jh h;obtain ⟨p1, p2⟩ := (ih (by omega) q).mp h1;rw [ln] at p1;refine ⟨by rw [et, Zo, Zo, p1, ln]; rfl, fun j ws ej => ?_⟩;rw [et] at ej
      by_cases hj : j < n
      . rw [Zg (by omega)] at ej
        obtain ⟨w', a1, a2⟩ := p2 j ws ej;exact ⟨w', by rw [Zg (by omega)]; exact a1, a2⟩
      . rw [Zf (by omega), ln] at ej
        have hj0 : j - n = 0 := by
          have := (Zc.mp ej).1;simp at this;omega
        rw [hj0] at ej;simp at ej;subst ej;exact ⟨w, by rw [Zf (by omega), p1, hj0]; rfl, h2⟩
    . rintro ⟨p1, p2⟩
      rw [et] at p1 p2;have lr : r.length = n + 1 := by rw [p1, Zo, ln]; rfl
      obtain ⟨w, a1, a2⟩ := p2 n wss[n] (by rw [Zf (by omega), ln]; simp)
      have er : r = r.take n ++ [w] := by
        have : r.take (n + 1) = r := ZG (by omega);rw [Zq, a1] at this;exact this.symm
      rw [er];refine zg3 ((ih (by omega) _).mpr ⟨by rw [Zj, ln]; omega, fun j ws ej => ?_⟩) a2;have hj : j < n := by have := (Zc.mp ej).1; omega
      obtain ⟨w', b1, b2⟩ := p2 j ws (by rw [Zg (by omega)]; exact ej);exact ⟨w', by rw [List.getElem?_take, if_pos hj]; exact b1, b2⟩
theorem rowsP_iff {wss : List (List α)} {r : List α} : r ∈ z9 wss ↔ bb r wss := by
  have := zfe wss wss.length (Zm _) r
  rwa [Zt] at this
theorem zbh {rs : List (List α)} {ws : List α} (h1 : rs.Nodup) (h2 : ws.Nodup) : (xq rs ws).Nodup := by
  induction rs with
  | nil => exact Yv
  | cons r rs ih =>
    rw [fg];obtain ⟨n1, n2⟩ := ZT.mp h1;refine Yp.mpr ⟨?_, ih n2, fun x hx y hy e => ?_⟩
    . rw [x6]
      refine List.pairwise_map.mpr (List.Pairwise.imp (fun {a b} hab e => hab ?_) h2)
      simpa using e
    . obtain ⟨w, _, rfl⟩ := Zp.mp hx
      obtain ⟨q, w', hq, _, e2⟩ := jh hy;rw [e2] at e;have := (List.append_inj' e rfl).1;exact n1 (this ▸ hq)
theorem ig {wss : List (List α)} (h : ∀ ws ∈ wss, ws.Nodup) : (z9 wss).Nodup := by
  have : ∀ n, n <= wss.length -> (z9 (wss.take n)).Nodup := by
    intro n
    induction n with
    | zero => intro _; simp [z9]
    | succ n ih =>
      intro hn;have e : wss[n]? = some wss[n] := Zb (by omega);rw [va e];exact zbh (ih (by omega)) (h _ (Zl _))
  have := this wss.length (Zm _)
  rwa [Zt] at this
def insP (r : List α) (k : Nat) (w : α) : List α := r.take k ++ w :: r.drop k
theorem zgv {r : List α} {k : Nat} (w : α) (h : k <= r.length) : (insP r k w).length = r.length + 1 := by simp [insP]; omega
theorem zbv {r : List α} {k : Nat} (w : α) (h : k <= r.length) : (insP r k w)[k]? = some w := by
  rw [insP, Zf (by rw [Zj]; omega), Zj, YV h, YT];rfl
end
theorem io : ∀ {zs : List Str} {m : Nat} {z : Str}, zs[m]? = some z -> zs.idxOf z <= m
  | [], m, z, h => by simp at h
  | y :: zs, 0, z, h => by
    simp at h;subst h;simp
  | y :: zs, m + 1, z, h => by
    rw [List.idxOf_cons]
    cases y == z with
    | true => exact ZE _
    | false => exact YR (io (by simpa using h))
theorem zbx (y z : Str) : eqV (V.str y) (V.str z) = decide (y = z) := rfl
theorem dw {zs : List Str} {z : Str} (h : z ∈ zs) : FirstAt (zs.map V.str) (V.str z) (zs.idxOf z) := by
  have hl := Zz.mpr h;refine ⟨rfl, ?_, ⟨V.str z, ?_, ?_⟩, fun m y hm e => ?_⟩
  . rw [ZS]
    intro x hx;obtain ⟨y, _, rfl⟩ := Zp.mp hx;rfl
  . rw [Ze, Zb hl, Yu]
    rfl
  . rw [zbx]
    exact decide_eq_true rfl
  . rw [Ze] at e
    have hml : m < zs.length := by omega
    rw [Zb hml] at e;cases e;rw [zbx, decide_eq_false];intro ez;have := Zz.mpr h
    have hle : zs.idxOf z <= m := by
      exact io (by rw [Zb hml, ez])
    omega
def RowOf (ds : List HD) (r : List Str) : Prop := r.length = ds.length /\ ∀ (i : Nat) (d : HD) (z : Str), ds[i]? = some d -> r[i]? = some z -> z ∈ d.words
structure IntsAt (H : Hp) (ls : List Addr) (ps : List (List Int)) : Prop where
  len : ls.length = ps.length
  at' : ∀ (i : Nat) (l : Addr) (p : List Int), ls[i]? = some l -> ps[i]? = some p -> H l = some (.lst (p.map V.int))
theorem IntsAt.mono {H H' : Hp} {ls : List Addr} {ps : List (List Int)} (S : Same H H') (h : IntsAt H ls ps) : IntsAt H' ls ps := ⟨h.len, fun i l p e1 e2 => S _ _ (h.at' i l p e1 e2)⟩
theorem IntsAt.snoc {H : Hp} {ls : List Addr} {ps : List (List Int)} {l : Addr} {p : List Int} (h : IntsAt H ls ps) (hl : H l = some (.lst (p.map V.int))) : IntsAt H (ls ++ [l]) (ps ++ [p]) := by
  refine ⟨by simp [h.len], fun i a q e1 e2 => ?_⟩
  by_cases hi : i < ls.length
  . rw [Zg hi] at e1
    rw [Zg (by rw [<- h.len]; exact hi)] at e2;exact h.at' i a q e1 e2
  . rw [Zf (ZD.mp hi)] at e1
    rw [Zf (by rw [<- h.len]; exact ZD.mp hi)] at e2
    have h0 : i - ls.length = 0 := by
      have := (Zc.mp e1).1;simp at this;omega
    rw [h0] at e1;rw [<- h.len, h0] at e2;simp at e1 e2;subst e1 e2;exact hl
def yw (r : List Str) : List Key := r.map Sum.inr
theorem v5 (r : List Str) : (yw r).map kV = r.map V.str := by
  rw [yw, List.map_map];rfl
theorem u8 {r q : List Str} (h : yw r = yw q) : r = q := by
  induction r generalizing q with
  | nil => cases q with
    | nil => rfl
    | cons _ _ => cases h
  | cons x xs ih => cases q with
    | nil => cases h
    | cons y ys =>
      rw [yw, yw, ZL, ZL] at h
      injection h with h1 h2
      injection h1 with h1
      rw [h1, ih h2]
def xx (f : List Str -> Str) (rs : List (List Str)) : List (List Key × V) := rs.map fun r => (yw r, V.str (f r))
theorem zdb {f : List Str -> Str} {rs : List (List Str)} {r : List Str} (h : r ∈ rs) : valV (xx f rs) (yw r) = some (V.str (f r)) := by
  induction rs with
  | nil => cases h
  | cons q rs ih =>
    rw [xx, ZL]
    by_cases e : q = r
    . rw [o5 (by rw [e]), e]
    . rw [uy (fun z => e (u8 z))]
      exact ih ((ZK.mp h).resolve_left fun z => e z.symm)
theorem zbd {ds : List HD} {row : List Str} (h : row ∈ z9 (ds.map HD.words)) : RowOf ds row := by
  have hpk := rowsP_iff.mp h;refine ⟨by rw [hpk.1, Za], fun k d z e1 e2 => ?_⟩;obtain ⟨u, h1, h2⟩ := hpk.2 k d.words (by rw [Ze, e1]; rfl);rw [e2] at h1;cases h1;exact h2
section
variable {P : Program} {w : World} {K : Fg} {mg : Str -> Option Value} {base : Heap} {a : Ad}
theorem cr (D : zi K mg "outcomes_of" uw ["house"]) : FnAt P w K mg base "outcomes_of" 1 ["house"] (uv K 0) := by
  refine FnAt.of D e7 (fun vs H Q E h => ?_) (fun f cdv A outer s H vs Q E hr h => ?_)
  . obtain ⟨t, us, v, rfl, _⟩ := h
    rfl
  . obtain ⟨t, us, v, rfl, ht, e, q⟩ := h
    refine ⟨_, (@zh _ _ _ (@zn _ _ _ _ (@zt _ _ _ _ _ _ _ yh (pv 0) (@ze _ _ _ _) (fun _ _ => rfl)))), ?_⟩;rw [show start ["house"] [V.ref t] = [some (V.ref t)] from rfl];simp only [zc, zd, ↓reduceIte];exact ⟨_, ht, _, zw (j := 0) e, q⟩
theorem il (D : zi K mg "worths_of_hand" wa ["hand"]) : FnAt P w K mg base "worths_of_hand" 1 ["hand"] (uv K 2) := by
  refine FnAt.of D ph (fun vs H Q E h => ?_) (fun f cdv A outer s H vs Q E hr h => ?_)
  . obtain ⟨t, us, v, rfl, _⟩ := h
    rfl
  . obtain ⟨t, us, v, rfl, ht, e, q⟩ := h
    refine ⟨_, (@zh _ _ _ (@zn _ _ _ _ (@zt _ _ _ _ _ _ _ yh (pv 0) (@ze _ _ _ _) (fun _ _ => rfl)))), ?_⟩;rw [show start ["hand"] [V.ref t] = [some (V.ref t)] from rfl];simp only [zc, zd, ↓reduceIte];exact ⟨_, ht, _, zw (j := 2) e, q⟩
end
def uj (K : Fg) : Sp := fun vs H Q _ => ∃ (g : Addr) (as : List Addr) (rows : List (List Int)) (s t : Nat) (ns : List Int) (x y : Int), vs = [.ref g, .int s, .int t] /\ GridL K H g as rows /\ rows[t]? = some ns /\ ns[t]? = some x /\ ns[s]? = some y /\ Q (.int (x - y)) H
def gcA (rows : List (List Int)) (t s : Nat) : Int := (rows.getD t []).getD s 0
def ml (rows : List (List Int)) (ps : List Int) (t s : Nat) : Int := ps.getD t 0 - ps.getD s 0 - (gcA rows t t - gcA rows t s)
def zas (rows : List (List Int)) (n : Nat) : Prop := ∀ i : Nat, i < n -> ∃ ns : List Int, rows[i]? = some ns /\ ns.length = n
theorem rc {rows : List (List Int)} {t s : Nat} {ns : List Int} (h : rows[t]? = some ns) (hs : s < ns.length) : ns[s]? = some (gcA rows t s) := by
  unfold gcA;rw [Zk, Zk, h];simp [hs]
theorem i6 {ps : List Int} {t : Nat} (h : t < ps.length) : ps[t]? = some (ps.getD t 0) := by
  rw [Zk]; simp [h]
def zb4 (K : Fg) : Sp := fun vs H Q _ => ∃ (g p : Addr) (as : List Addr) (rows : List (List Int)) (ps : List Int) (n s t : Nat), vs = [.ref g, .ref p, .int t, .int s] /\ GridL K H g as rows /\ SqL K H p (ps.map V.int) /\ ps.length = n /\ zas rows n /\ s < n /\ t < n /\ Q (.int (ml rows ps t s)) H
def First (rows : List (List Int)) (ps : List Int) (n : Nat) : Option (Nat × Nat) -> Prop
  | none => ∀ t s : Nat, t < n -> s < n -> ml rows ps t s <= 0
  | some (t, s) => t < n /\ s < n /\ 0 < ml rows ps t s /\ ∀ t' s' : Nat, t' < n -> s' < n -> (t' < t \/ (t' = t /\ s' < s)) -> ml rows ps t' s' <= 0
theorem First.one {rows : List (List Int)} {ps : List Int} {n : Nat} {r r' : Option (Nat × Nat)} (h : First rows ps n r) (h' : First rows ps n r') : r = r' := by
  match r, r', h, h' with
  | none, none, _, _ => rfl
  | none, some (t, s), h, h' => have := h t s h'.1 h'.2.1; have := h'.2.2.1; omega
  | some (t, s), none, h, h' => have := h' t s h.1 h.2.1; have := h.2.2.1; omega
  | some (t, s), some (t', s'), h, h' =>
    have a1 := h.2.2.2 t' s' h'.1 h'.2.1;have a2 := h'.2.2.2 t s h.1 h.2.1;have b1 := h.2.2.1;have b2 := h'.2.2.1
    by_cases e : t = t'
    . subst e
      by_cases e2 : s = s'
      . subst e2; rfl
      . exfalso
        rcases Nat.lt_or_gt_of_ne e2 with z | z
        . have := a2 (.inr ⟨rfl, z⟩); omega
        . have := a1 (.inr ⟨rfl, z⟩); omega
    . exfalso
      rcases Nat.lt_or_gt_of_ne e with z | z
      . have := a2 (.inl z); omega
      . have := a1 (.inl z); omega
def spFG (K : Fg) : Sp := fun vs H Q _ => ∃ (g p : Addr) (as : List Addr) (rows : List (List Int)) (ps : List Int) (n : Nat), vs = [.ref g, .ref p] /\ GridL K H g as rows /\ as.length = n /\ SqL K H p (ps.map V.int) /\ ps.length = n /\ n <= 8 /\ zas rows n /\
  (First rows ps n none -> Q .non H) /\ ∀ t s : Nat, First rows ps n (some (t, s)) -> ∀ l, H l = none -> Q (.ref l) (upd H l (.tup [.int t, .int s, .int (ml rows ps t s)]))
def PvFG (g p : Addr) (rows : List (List Int)) (ps : List Int) (n : Nat) (k : Nat) (H : Hp) (i : Nat) (σ : L2.St) (H4 : Hp) : Prop := H4 = H /\ (∃ vs : List (Option V), vs.length = k /\ σ = some (.ref g) :: some (.ref p) :: vs) /\ ∀ t s : Nat, t < i -> s < n -> ml rows ps t s <= 0
def PvFG2 (g p : Addr) (rows : List (List Int)) (ps : List Int) (n : Nat) (k : Nat) (H : Hp) (t : Nat) (j : Nat) (σ : L2.St) (H4 : Hp) : Prop := H4 = H /\ (∃ vs : List (Option V), vs.length = k /\ σ = some (.ref g) :: some (.ref p) :: some (.int t) :: vs) /\ ∀ s : Nat, s < j -> ml rows ps t s <= 0
section
variable {P : Program} {w : World} {K : Fg} {mg : Str -> Option Value} {base : Heap}
theorem vx (D : zi K mg "turn" g6 ["grid", "s", "t"]) : FnAt P w K mg base "turn" 1 ["grid", "s", "t"] (uj K) := by
  refine FnAt.of D zid (fun vs H Q E h => ?_) (fun f cdv A outer s H vs Q E hr h => ?_)
  . obtain ⟨g, as, rows, s, t, ns, x, y, rfl, _⟩ := h
    rfl
  . obtain ⟨g, as, rows, s, t, ns, x, y, rfl, G, h1, h2, h3, q⟩ := h
    refine ⟨_, (@zh _ _ _ (@zn _ _ _ _ (@zm _ _ _ _ _ _ _ _ w6 (@zt _ _ _ _ _ _ _ z0 (@zt _ _ _ _ _ _ _ z0 (pv 0) (pv 2) (fun _ _ => rfl)) (pv 2) (fun _ _ => rfl)) (@zt _ _ _ _ _ _ _ z0 (@zt _ _ _ _ _ _ _ z0 (pv 0) (pv 2) (fun _ _ => rfl)) (pv 1) (fun _ _ => rfl))))), ?_⟩;rw [show start ["grid", "s", "t"] [V.ref g, V.int s, V.int t] = [some (V.ref g), some (V.int s), some (V.int t)] from rfl];simp only [zc, zd, ↓reduceIte];obtain ⟨r, e1, e2⟩ := on G h1;exact ⟨_, G.1, _, e1, r, rfl, _, e2, _, w5 h2, _, G.1, _, e1, r, rfl, _, e2, _, w5 h3, _, rfl, _, rfl, q⟩
theorem zaj (vx : FnAt P w K mg base "turn" 1 ["grid", "s", "t"] (uj K)) (D : zi K mg "gain" gk ["grid", "pays", "t", "s"]) : FnAt P w K mg base "gain" 2 ["grid", "pays", "t", "s"] (zb4 K) := by
  refine FnAt.of D zh8 (fun vs H Q E h => ?_) (fun f cdv A outer s H vs Q E hr h => ?_)
  . obtain ⟨g, p, as, rows, ps, n, s, t, rfl, _⟩ := h
    rfl
  . obtain ⟨g, p, as, rows, ps, n, s, t, rfl, G, hp, lp, hw, hs, ht, q⟩ := h
    refine ⟨_, (@zh _ _ _ (@zn _ _ _ _ (@zm _ _ _ _ _ _ _ _ w6 (@zm _ _ _ _ _ _ _ _ w6 (@zt _ _ _ _ _ _ _ z0 (pv 1) (pv 2) (fun _ _ => rfl)) (@zt _ _ _ _ _ _ _ z0 (pv 1) (pv 3) (fun _ _ => rfl))) (zk vx (hr.mono (by decide)) rfl (za (pv 0) (za (pv 3) (za (pv 2) (@zb _)))))))), ?_⟩;rw [show start ["grid", "pays", "t", "s"] [V.ref g, V.ref p, V.int t, V.int s] = [some (V.ref g), some (V.ref p), some (V.int t), some (V.int s)] from rfl];simp only [zc, zd, ↓reduceIte];obtain ⟨ns, e1, l1⟩ := hw t ht;refine ⟨_, hp, _, w5 (i6 (by omega)), _, hp, _, w5 (i6 (by omega)), _, rfl, _, rfl, g, as, rows, s, t, ns, _, _, rfl, G, e1, rc e1 (by omega), rc e1 (by omega), ?_⟩;simp only [zc, zd, ↓reduceIte];exact q
theorem ox (B : Bt mg) (zaj : FnAt P w K mg base "gain" 2 ["grid", "pays", "t", "s"] (zb4 K)) (D : zi K mg "first_gain" u9 ["grid", "pays"]) : FnAt P w K mg base "first_gain" 3 ["grid", "pays"] (spFG K) := by
  refine FnAt.of D sc_first_gain (fun vs H Q E h => ?_) (fun f cdv A outer s H vs Q E hr h => ?_)
  . obtain ⟨g, p, as, rows, ps, n, rfl, _⟩ := h
    rfl
  . obtain ⟨g, p, as, rows, ps, n, rfl, G, la, hp, lp, hn, hw, q0, q1⟩ := h
    refine ⟨_, (@zj _ _ _ _ _ (yx PassesOwn.never rfl (yl rfl B.range (za (zo zq rfl B.len ya (za (pv 0) (@zb _))) (@zb _))) (zp (i := 2) sc_first_gain.nd rfl (Or.inl rfl)) (@zh _ _ _ (yx PassesOwn.never rfl (yl rfl B.range (za (zo zq rfl B.len ya (za (pv 0) (@zb _))) (@zb _))) (zp (i := 3) sc_first_gain.nd rfl (Or.inl rfl)) (@zj _ _ _ _ _ (zz (i := 4) sc_first_gain.nd rfl (Or.inl rfl) (zk zaj (hr.mono (by decide)) rfl (za (pv 0) (za (pv 1) (za (pv 2) (za (pv 3) (@zb _))))))) (@zh _ _ _ (@yj _ _ _ _ _ _ _ _ (@yf _ _ _ _ _ _ _ _ bg (pv 4) (@ze _ _ _ _) (ye _)) (@zh _ _ _ (@zn _ _ _ _ (@y7 _ _ _ _ _ (za (pv 2) (za (pv 3) (za (pv 4) (@zb _))))))) (@yb _))))))) (@zh _ _ _ (@zn _ _ _ _ (@qq _ _ _)))), ?_⟩;rw [show start ["grid", "pays", "t", "s", "more"] [V.ref g, V.ref p] = [some (V.ref g), some (V.ref p), none, none, none] from rfl];simp only [zc, zd, ↓reduceIte];refine ⟨_, .inl G.1, ?_⟩;rw [Za, la];refine ⟨by omega, by omega, ?_⟩;rw [Zw];refine xa (PvFG g p rows ps n 3 H) ⟨rfl, ⟨_, rfl, rfl⟩, fun t s h => by omega⟩ ?_ ?_
    . rintro i σ H4 hi ⟨rfl, ⟨vs, lv, rfl⟩, no⟩
      match vs, lv with
      | [v2, v3, v4], _ =>
      simp only [zc, zd, ↓reduceIte];refine ⟨_, .inl G.1, ?_⟩;rw [Za, la];refine ⟨by omega, by omega, ?_⟩;rw [Zw];refine xa (PvFG2 g p rows ps n 2 H4 i) ⟨rfl, ⟨_, rfl, rfl⟩, fun s h => by omega⟩ ?_ ?_
      . rintro j σ H5 hj ⟨rfl, ⟨vs, lv, rfl⟩, no2⟩
        match vs, lv with
        | [v3, v4], _ =>
        simp only [zc, zd, ↓reduceIte];refine ⟨g, p, as, rows, ps, n, j, i, rfl, G, hp, lp, hw, hj, hi, ?_⟩;simp only [zc, zd, ↓reduceIte];refine ite2 (fun h => ?_) fun h => ?_
        . refine ⟨by decide, q1 i j ⟨hi, hj, of_decide_eq_true h, fun t' s' h1 h2 h3 => ?_⟩⟩
          rcases h3 with z | ⟨rfl, z⟩
          . exact no t' s' z h2
          . exact no2 s' z
        . refine ⟨rfl, ⟨_, rfl, rfl⟩, fun s hs => ?_⟩
          by_cases e : s = j
          . subst e
            exact Int.not_lt.mp fun z => h (decide_eq_true z)
          . exact no2 s (by omega)
      . rintro σ H5 ⟨rfl, ⟨vs, lv, rfl⟩, no2⟩
        refine ⟨rfl, ⟨_, by simp [lv], rfl⟩, fun t s ht hs => ?_⟩
        by_cases e : t = i
        . subst e; exact no2 s hs
        . exact no t s (by omega) hs
    . rintro σ H4 ⟨rfl, ⟨vs, lv, rfl⟩, no⟩
      simp only [zc, zd, ↓reduceIte];exact q0 fun t s ht hs => no t s ht hs
end
def z7 (rows : List (List Int)) (s t : Nat) : Int := gcA rows t t - gcA rows t s
theorem gg (rows : List (List Int)) (t : Nat) : z7 rows t t = 0 := by unfold z7; omega
def j3 : Nat -> List Nat -> Nat
  | a, [] => a
  | _, w :: ws => j3 w ws
abbrev nI (ws : List Nat) : List Int := ws.map fun w : Nat => ((w : Nat) : Int)
theorem nI_at {ws : List Nat} {i w : Nat} (h : ws[i]? = some w) : ((nI ws).map V.int)[i]? = some (V.int w) := by
  rw [Ze, Ze, h]; rfl
theorem zcw : ∀ {ws : List Nat} {a : Nat}, ((nI (a :: ws)).map V.int) = ((nI (a :: ws)).map V.int).dropLast ++ [V.int (j3 a ws)]
  | [], a => rfl
  | w :: ws, a => by
    have ih := @zcw ws w
    show V.int a :: ((nI (w :: ws)).map V.int) = V.int a :: (((nI (w :: ws)).map V.int).dropLast ++ [V.int (j3 w ws)])
    rw [<- ih]
theorem zcv (a : Nat) (ws : List Nat) : atI ((nI (a :: ws)).map V.int) (-1) = some (V.int (j3 a ws)) := by
  rw [zcw]; exact zad _ _
def wk (T : Nat -> Nat -> Int) : Nat -> List Nat -> Int
  | _, [] => 0
  | a, w :: ws => T a w + wk T w ws
def lst : Nat -> List Nat -> Nat
  | a, [] => a
  | _, w :: ws => lst w ws
theorem xu : ∀ (ws : List Nat) (a x : Nat), lst a (ws ++ [x]) = x
  | [], _, _ => rfl
  | w :: ws, _, x => xu ws w x
theorem ft : ∀ (ps : List Nat) (a b : Nat) (ss : List Nat), lst a (ps ++ b :: ss) = lst b ss
  | [], _, _, _ => rfl
  | p :: ps, _, b, ss => ft ps p b ss
theorem lu (T : Nat -> Nat -> Int) : ∀ (ps : List Nat) (a b : Nat) (ss : List Nat), wk T a (ps ++ b :: ss) = wk T a (ps ++ [b]) + wk T b ss
  | [], a, b, ss => by show T a b + wk T b ss = T a b + 0 + wk T b ss; omega
  | p :: ps, a, b, ss => by
    show T a p + wk T p (ps ++ b :: ss) = T a p + wk T p (ps ++ [b]) + wk T b ss
    rw [lu T ps p b ss]; omega
theorem w4 (T : Nat -> Nat -> Int) : ∀ (ws : List Nat) (a x : Nat), wk T a (ws ++ [x]) = wk T a ws + T (lst a ws) x
  | [], a, x => by show T a x + 0 = 0 + T a x; omega
  | w :: ws, a, x => by
    show T a w + wk T w (ws ++ [x]) = T a w + wk T w ws + T (lst w ws) x
    rw [w4 T ws w x]; omega
theorem zbt : ∀ (ws : List Nat) (a : Nat), lst a ws ∈ a :: ws
  | [], a => by simp [lst]
  | w :: ws, a => Zv _ (zbt ws w)
theorem w9 : ∀ (ws : List Nat) (a : Nat), a :: ws = (a :: ws).dropLast ++ [lst a ws]
  | [], a => rfl
  | w :: ws, a => by
    have ih := w9 ws w
    show a :: (w :: ws) = a :: ((w :: ws).dropLast ++ [lst w ws])
    rw [<- ih]
structure Wk (n k s t : Nat) (ws : List Nat) : Prop where
  len : ws.length = k
  lt : ∀ x ∈ ws, x < n
  to : lst s ws = t
structure Least (T : Nat -> Nat -> Int) (n k s t : Nat) (ws : List Nat) : Prop where
  w : Wk n k s t ws
  least : ∀ ws', Wk n k s t ws' -> wk T s ws <= wk T s ws'
theorem Least.one (T : Nat -> Nat -> Int) {n s t : Nat} (ht : t < n) : Least T n 1 s t [t] := by
  refine ⟨⟨rfl, fun x hx => by rw [ZC.mp hx]; exact ht, rfl⟩, fun ws' h => ?_⟩
  match ws', h.len, h.to with
  | [x], _, h2 =>
    have e : x = t := h2;subst e;exact Yo _
theorem Least.more {T : Nat -> Nat -> Int} {n k s t : Nat} (ht : t < n) (f : Nat -> List Nat) (hf : ∀ u, u < n -> Least T n k s u (f u)) (hk : 0 < k) {i : Nat} (hi : i < n) (hm : ∀ u, u < n -> wk T s (f i) + T i t <= wk T s (f u) + T u t) : Least T n (k + 1) s t (f i ++ [t]) := by
  have hi' := (hf i hi).w;refine ⟨⟨by rw [Zo, hi'.len]; rfl, fun x hx => ?_, xu _ _ _⟩, fun ws' h => ?_⟩
  . rcases ZH.mp hx with z | z
    . exact hi'.lt x z
    . rw [ZC.mp z]; exact ht
  . have hne : ws' ≠ [] := by intro e; subst e; have := h.len; simp at this
    obtain ⟨w, r, rfl⟩ : ∃ w r, ws' = w :: r := by
      cases ws' with
      | nil => exact absurd rfl hne
      | cons w r => exact ⟨w, r, rfl⟩
    have e1 := w9 r w;have e2 : lst w r = t := h.to;rw [e2] at e1;generalize hp : (w :: r).dropLast = p at e1;rw [e1] at h ⊢;rw [w4, w4];have hl : p.length = k := by have := h.len; rw [Zo] at this; simpa using this
    have hlt : ∀ x ∈ p, x < n := fun x hx => h.lt x (ZZ _ hx)
    have hu : lst s p < n := by
      cases p with
      | nil => simp at hl; omega
      | cons y q => exact hlt _ (zbt q y)
    have q := (hf (lst s p) hu).least p ⟨hl, hlt, rfl⟩;have q2 := hm (lst s p) hu;have q3 := hi'.to;rw [q3];omega
def NoNeg (T : Nat -> Nat -> Int) (n k : Nat) : Prop := ∀ s ws, s < n -> Wk n k s s ws -> 0 <= wk T s ws
theorem NoNeg.zero (T : Nat -> Nat -> Int) (n : Nat) : NoNeg T n 0 := fun s ws _ h => by
  have := h.len
  cases ws with
  | nil => exact Yo _
  | cons _ _ => simp at this
theorem NoNeg.one {T : Nat -> Nat -> Int} (h0 : ∀ t, T t t = 0) (n : Nat) : NoNeg T n 1 := fun s ws _ h => by
  match ws, h.len, h.to with
  | [x], _, h2 =>
    have e : x = s := h2;subst e
    show 0 <= T x x + 0
    rw [h0]; exact Yo _
theorem twice {l : List Nat} (h : ¬ l.Nodup) : ∃ x A B C, l = A ++ x :: (B ++ x :: C) := by
  induction l with
  | nil => exact absurd Yv h
  | cons a r ih =>
    by_cases ha : a ∈ r
    . obtain ⟨B, C, e⟩ := List.append_of_mem ha
      exact ⟨a, [], B, C, by rw [e]; rfl⟩
    . have hr : ¬ r.Nodup := fun q => h (ZT.mpr ⟨ha, q⟩)
      obtain ⟨x, A, B, C, e⟩ := ih hr;exact ⟨x, a :: A, B, C, by rw [e]; rfl⟩
theorem parts {T : Nat -> Nat -> Int} {n k s : Nat} {ws : List Nat} (hs : s < n) (hk : 0 < k) (h : Wk n k s s ws) (hd : ¬ (s :: ws.dropLast).Nodup) (hno : ∀ j, j < k -> NoNeg T n j) : 0 <= wk T s ws := by
  obtain ⟨x, A, B, C, e⟩ := twice hd;have hne : ws ≠ [] := by intro q; subst q; have := h.len; simp at this; omega
  obtain ⟨w, r, rfl⟩ : ∃ w r, ws = w :: r := by
    cases ws with
    | nil => exact absurd rfl hne
    | cons w r => exact ⟨w, r, rfl⟩
  have e1 := w9 r w;have e2 : lst w r = s := h.to;rw [e2] at e1;generalize hp : (w :: r).dropLast = p at e e1;rw [e1] at h ⊢;have hlen : p.length + 1 = k := by have := h.len; rw [Zo] at this; simpa using this
  have hlt := h.lt
  cases A with
  | nil =>
    injection e with ea eb
    subst ea;rw [eb] at hlen hlt ⊢;have l1 : B.length + 1 + C.length + 1 = k := by rw [Zo, ZM] at hlen; omega
    rw [YN, ZN, lu]
    have q1 := hno (B.length + 1) (by omega) s (B ++ [s]) hs ⟨by simp, fun y hy => hlt y (by
      simp only [ZH, ZK, ZC] at hy ⊢
      rcases hy with z | z
      . exact .inl (.inl z)
      . exact .inr (by simpa using z)), xu _ _ _⟩
    have q2 := hno (C.length + 1) (by omega) s (C ++ [s]) hs ⟨by simp, fun y hy => hlt y (by
      simp only [ZH, ZK, ZC] at hy ⊢
      rcases hy with z | z
      . exact .inl (.inr (.inr z))
      . exact .inr (by simpa using z)), xu _ _ _⟩
    omega
  | cons a A =>
    obtain ⟨ea, eb⟩ : s = a /\ p = A ++ x :: (B ++ x :: C) := by
      injection e with ea eb
      exact ⟨ea, eb⟩
    subst ea;rw [eb] at hlen hlt ⊢
    have l1 : A.length + 1 + B.length + 1 + C.length + 1 = k := by
      simp only [Zo, ZM] at hlen; omega
    have hx : x < n := hlt x (by simp);have e3 : (A ++ x :: (B ++ x :: C)) ++ [s] = A ++ x :: (B ++ x :: (C ++ [s])) := by simp
    rw [e3, lu, lu T B]
    have q1 := hno (B.length + 1) (by omega) x (B ++ [x]) hx ⟨by simp, fun y hy => hlt y (by
      simp only [ZH, ZK, ZC] at hy ⊢
      rcases hy with z | z
      . exact .inl (.inr (.inr (.inl z)))
      . exact .inl (.inr (.inl (by simpa using z)))), xu _ _ _⟩
    have q2 := hno (A.length + 1 + (C.length + 1)) (by omega) s (A ++ x :: (C ++ [s])) hs ⟨by simp; omega, fun y hy => hlt y (by
      simp only [ZH, ZK, ZC] at hy ⊢
      rcases hy with z | z | z | z
      . exact .inl (.inl z)
      . exact .inl (.inr (.inl z))
      . exact .inl (.inr (.inr (.inr (.inr z))))
      . exact .inr (by simpa using z)), by rw [ft, xu]⟩
    rw [lu] at q2;omega
theorem few {n : Nat} : ∀ {l : List Nat}, l.Nodup -> (∀ x ∈ l, x < n) -> l.length <= n := by
  induction n with
  | zero =>
    intro l _ h
    cases l with
    | nil => exact Zm _
    | cons a r => exact absurd (h a ZA) (Nat.not_lt_zero _)
  | succ n ih =>
    intro l hd h
    have q := ih (l := l.erase n) (hd.erase n) fun x hx => by
      have h1 := (List.Nodup.mem_erase_iff hd).mp hx;have h2 := h x h1.2;have h3 := h1.1;omega
    have z := List.length_erase (a := n) (l := l)
    split at z <;> omega
theorem NoNeg.all {T : Nat -> Nat -> Int} {n : Nat} (h : ∀ j, j <= n -> NoNeg T n j) : ∀ k, NoNeg T n k := by
  intro k
  induction k using Nat.strongRecOn with
  | ind k ih =>
    by_cases hk : k <= n
    . exact h k hk
    . intro s ws hs hw
      refine parts hs (by omega) hw (fun hd => ?_) ih;have hl : (s :: ws.dropLast).length = k := by rw [ZM, List.length_dropLast, hw.len]; omega
      have := few hd (fun x hx => by
        rcases ZK.mp hx with z | z
        . rw [z]; exact hs
        . exact hw.lt x (List.dropLast_subset _ z))
      omega
def rnd (T : Nat -> Nat -> Int) : List Nat -> Int
  | [] => 0
  | a :: ws => wk T a (ws ++ [a])
structure RingA (T : Nat -> Nat -> Int) (n : Nat) (c : List Nat) : Prop where
  two : 2 <= c.length
  nd : c.Nodup
  lt : ∀ x ∈ c, x < n
  neg : rnd T c < 0
  few : ∀ j, j < c.length -> NoNeg T n j
theorem RingA.of {T : Nat -> Nat -> Int} {n k s : Nat} {ws : List Nat} (h0 : ∀ t, T t t = 0) (hs : s < n) (h : Wk n k s s ws) (hneg : wk T s ws < 0) (hno : ∀ j, j < k -> NoNeg T n j) : RingA T n ((s :: ws).dropLast) := by
  have hk : 2 <= k := by
    rcases Nat.lt_or_ge k 2 with z | z
    . exfalso
      have : k = 0 \/ k = 1 := by omega
      rcases this with rfl | rfl
      . have := NoNeg.zero T n s ws hs h; omega
      . have := NoNeg.one h0 n s ws hs h; omega
    . exact z
  obtain ⟨w, r, rfl⟩ : ∃ w r, ws = w :: r := by
    cases ws with
    | nil => have := h.len; simp at this; omega
    | cons w r => exact ⟨w, r, rfl⟩
  have e0 : (s :: w :: r).dropLast = s :: (w :: r).dropLast := rfl;have e1 := w9 r w;have e2 : lst w r = s := h.to;rw [e2] at e1;rw [e0];have hl : (s :: (w :: r).dropLast).length = k := by rw [ZM, List.length_dropLast, h.len]; omega
  refine ⟨by rw [hl]; exact hk, Classical.byContradiction fun hd => ?_, fun x hx => ?_, ?_, fun j hj => hno j (by rw [hl] at hj; exact hj)⟩
  . have := parts hs (by omega) h hd hno
    omega
  . rcases ZK.mp hx with z | z
    . rw [z]; exact hs
    . exact h.lt x (List.dropLast_subset _ z)
  . show wk T s ((w :: r).dropLast ++ [s]) < 0
    rw [<- e1]; exact hneg
theorem NoNeg.rnd {T : Nat -> Nat -> Int} {n k : Nat} (h : NoNeg T n k) {c : List Nat} (hl : c.length = k) (hc : ∀ x ∈ c, x < n) : 0 <= rnd T c := by
  cases c with
  | nil => exact Yo _
  | cons a ws =>
    exact h a (ws ++ [a]) (hc a ZA) ⟨by simpa using hl, fun x hx => by
      rcases ZH.mp hx with z | z
      . exact hc x (Zv _ z)
      . rw [ZC.mp z]; exact hc a ZA, xu _ _ _⟩
theorem zd6 : ∀ (ws : List Nat) (a : Nat), lst a ws = j3 a ws
  | [], _ => rfl
  | w :: ws, _ => zd6 ws w
def WalkAt (H : Hp) (v : V) (T : Nat -> Nat -> Int) (s : Nat) (ws : List Nat) : Prop := ∃ p l, v = .ref p /\ H p = some (.tup [.int (wk T s ws), .ref l]) /\ H l = some (.lst ((nI (s :: ws)).map V.int))
def RowAt (H : Hp) (v : V) (T : Nat -> Nat -> Int) (n k s : Nat) : Prop := ∃ r xs, v = .ref r /\ H r = some (.lst xs) /\ xs.length = n /\ ∀ t, t < n -> ∃ x ws, xs[t]? = some x /\ WalkAt H x T s ws /\ Least T n k s t ws
def RowsAt (H : Hp) (v : V) (T : Nat -> Nat -> Int) (n k : Nat) : Prop := ∃ r xs, v = .ref r /\ H r = some (.lst xs) /\ xs.length = n /\ ∀ s, s < n -> ∃ x, xs[s]? = some x /\ RowAt H x T n k s
theorem WalkAt.mono {H H' : Hp} {v : V} {T : Nat -> Nat -> Int} {s : Nat} {ws : List Nat} (S : Same H H') (h : WalkAt H v T s ws) : WalkAt H' v T s ws := by
  obtain ⟨p, l, e, h1, h2⟩ := h;exact ⟨p, l, e, S _ _ h1, S _ _ h2⟩
theorem RowAt.mono {H H' : Hp} {v : V} {T : Nat -> Nat -> Int} {n k s : Nat} (S : Same H H') (h : RowAt H v T n k s) : RowAt H' v T n k s := by
  obtain ⟨r, xs, e, h1, h2, h3⟩ := h
  exact ⟨r, xs, e, S _ _ h1, h2, fun t ht => by
    obtain ⟨x, ws, e1, e2, e3⟩ := h3 t ht
    exact ⟨x, ws, e1, e2.mono S, e3⟩⟩
theorem RowsAt.mono {H H' : Hp} {v : V} {T : Nat -> Nat -> Int} {n k : Nat} (S : Same H H') (h : RowsAt H v T n k) : RowsAt H' v T n k := by
  obtain ⟨r, xs, e, h1, h2, h3⟩ := h
  exact ⟨r, xs, e, S _ _ h1, h2, fun s hs => by
    obtain ⟨x, e1, e2⟩ := h3 s hs
    exact ⟨x, e1, e2.mono S⟩⟩
def RowPre (H0 : Hp) (T : Nat -> Nat -> Int) (n k s : Nat) (i : Nat) (ys : List V) (H2 : Hp) : Prop := Same H0 H2 /\ ys.length = i /\ ∀ t, t < i -> ∃ x ws, ys[t]? = some x /\ WalkAt H2 x T s ws /\ Least T n k s t ws
theorem RowPre.snoc {H0 H2 H3 : Hp} {T : Nat -> Nat -> Int} {n k s i : Nat} {ys : List V} {x : V} {ws : List Nat} (h : RowPre H0 T n k s i ys H2) (S : Same H2 H3) (hx : WalkAt H3 x T s ws) (hl : Least T n k s i ws) : RowPre H0 T n k s (i + 1) (ys ++ [x]) H3 := by
  obtain ⟨h1, h2, h3⟩ := h;refine ⟨h1.trans S, by rw [Zo, h2]; rfl, fun t ht => ?_⟩
  by_cases e : t < i
  . obtain ⟨y, us, e1, e2, e3⟩ := h3 t e
    exact ⟨y, us, by rw [Zg (by omega)]; exact e1, e2.mono S, e3⟩
  . have : t = i := by omega
    subst this;exact ⟨x, ws, by rw [Zf (by omega), h2]; simp, hx, hl⟩
theorem RowPre.done {H0 H2 : Hp} {T : Nat -> Nat -> Int} {n k s : Nat} {ys : List V} {l : Addr} (h : RowPre H0 T n k s n ys H2) (hl : H2 l = none) : Same H0 (upd H2 l (.lst ys)) /\ RowAt (upd H2 l (.lst ys)) (.ref l) T n k s := by
  obtain ⟨h1, h2, h3⟩ := h;have S : Same H2 (upd H2 l (.lst ys)) := Same.upd (Same.refl _) hl;refine ⟨h1.trans S, l, ys, rfl, zg, h2, fun t ht => ?_⟩;obtain ⟨y, us, e1, e2, e3⟩ := h3 t ht;exact ⟨y, us, e1, e2.mono S, e3⟩
def RowsPre (H0 : Hp) (T : Nat -> Nat -> Int) (n k : Nat) (i : Nat) (ys : List V) (H2 : Hp) : Prop := Same H0 H2 /\ ys.length = i /\ ∀ t, t < i -> ∃ x, ys[t]? = some x /\ RowAt H2 x T n k t
theorem RowsPre.snoc {H0 H2 H3 : Hp} {T : Nat -> Nat -> Int} {n k i : Nat} {ys : List V} {x : V} (h : RowsPre H0 T n k i ys H2) (S : Same H2 H3) (hx : RowAt H3 x T n k i) : RowsPre H0 T n k (i + 1) (ys ++ [x]) H3 := by
  obtain ⟨h1, h2, h3⟩ := h;refine ⟨h1.trans S, by rw [Zo, h2]; rfl, fun t ht => ?_⟩
  by_cases e : t < i
  . obtain ⟨y, e1, e2⟩ := h3 t e
    exact ⟨y, by rw [Zg (by omega)]; exact e1, e2.mono S⟩
  . have : t = i := by omega
    subst this;exact ⟨x, by rw [Zf (by omega), h2]; simp, hx⟩
theorem RowsPre.done {H0 H2 : Hp} {T : Nat -> Nat -> Int} {n k : Nat} {ys : List V} {l : Addr} (h : RowsPre H0 T n k n ys H2) (hl : H2 l = none) : Same H0 (upd H2 l (.lst ys)) /\ RowsAt (upd H2 l (.lst ys)) (.ref l) T n k := by
  obtain ⟨h1, h2, h3⟩ := h;have S : Same H2 (upd H2 l (.lst ys)) := Same.upd (Same.refl _) hl;refine ⟨h1.trans S, l, ys, rfl, zg, h2, fun t ht => ?_⟩;obtain ⟨y, e1, e2⟩ := h3 t ht;exact ⟨y, e1, e2.mono S⟩
structure Gd (K : Fg) (H : Hp) (g : Addr) (rows : List (List Int)) (n : Nat) : Prop where
  ex : ∃ as, GridL K H g as rows /\ as.length = n
  sq : zas rows n
  n8 : n <= 8
theorem Gd.mono {K : Fg} {H H' : Hp} {g : Addr} {rows : List (List Int)} {n : Nat} (S : Same H H') (G : Gd K H g rows n) : Gd K H' g rows n := by
  obtain ⟨as, h1, h2⟩ := G.ex;exact ⟨⟨as, GridL.mono S h1, h2⟩, G.sq, G.n8⟩
theorem u6 {K : Fg} {H : Hp} {g : Addr} {rows : List (List Int)} {n s t : Nat} {Q : VK} {E : XK} (G : Gd K H g rows n) (hs : s < n) (ht : t < n) (q : Q (.int (z7 rows s t)) H) : uj K [.ref g, .int s, .int t] H Q E := by
  obtain ⟨as, h1, h2⟩ := G.ex;obtain ⟨ns, e1, l1⟩ := G.sq t ht;exact ⟨g, as, rows, s, t, ns, _, _, rfl, h1, e1, rc e1 (by omega), rc e1 (by omega), q⟩
def om : Sp := fun vs H Q _ => ∃ (p : Addr) (i : Int) (l : V), vs = [.ref p] /\ H p = some (.tup [.int i, l]) /\ Q (.int i) H
def ja : Sp := fun vs H Q _ => ∃ (p : Addr) (i : Int) (l : V), vs = [.ref p] /\ H p = some (.tup [.int i, l]) /\ Q l H
def spOne (K : Fg) : Sp := fun vs H Q _ => ∃ (g : Addr) (rows : List (List Int)) (n s : Nat), vs = [.ref g, .int s] /\ Gd K H g rows n /\ s < n /\ ∀ H' v, Same H H' -> RowAt H' v (z7 rows) n 1 s -> Q v H'
def zb9 (K : Fg) : Sp := fun vs H Q _ => ∃ (g : Addr) (rows : List (List Int)) (v : V) (n k s t : Nat), vs = [.ref g, v, .int t] /\ Gd K H g rows n /\ RowAt H v (z7 rows) n k s /\ t < n /\ s < n /\ 0 < k /\ k <= 100 /\
  ∀ H' x ws, Same H H' -> WalkAt H' x (z7 rows) s ws -> Least (z7 rows) n (k + 1) s t ws -> Q x H'
def zfn (K : Fg) : Sp := fun vs H Q _ => ∃ (g : Addr) (rows : List (List Int)) (v : V) (n k s : Nat), vs = [.ref g, v] /\ Gd K H g rows n /\ RowAt H v (z7 rows) n k s /\ s < n /\ 0 < k /\ k <= 100 /\
  ∀ H' v', Same H H' -> RowAt H' v' (z7 rows) n (k + 1) s -> Q v' H'
def zap : Sp := fun vs H Q _ => ∃ (T : Nat -> Nat -> Int) (v : V) (n k : Nat), vs = [v] /\ RowsAt H v T n k /\ 0 < k /\ n <= 8 /\ (∀ H', Same H H' -> NoNeg T n k -> Q .non H') /\
  ∀ H' s ws l, Same H H' -> H' l = some (.lst ((nI ((s :: ws).dropLast)).map V.int)) -> s < n -> Wk n k s s ws -> wk T s ws < 0 -> Q (.ref l) H'
def zai (K : Fg) : Sp := fun vs H Q _ => ∃ (g : Addr) (rows : List (List Int)) (n : Nat), vs = [.ref g] /\ Gd K H g rows n /\ 0 < n /\ (∀ H', Same H H' -> (∀ j, j <= n -> NoNeg (z7 rows) n j) -> Q .non H') /\
  ∀ H' l c, Same H H' -> H' l = some (.lst ((nI c).map V.int)) -> RingA (z7 rows) n c -> Q (.ref l) H'
section
variable {P : Program} {w : World} {K : Fg} {mg : Str -> Option Value} {base : Heap}
theorem xf (D : zi K mg "total_of" pi ["walk"]) : FnAt P w K mg base "total_of" 1 ["walk"] om := by
  refine FnAt.of D za4 (fun vs H Q E h => ?_) (fun f cdv A outer s H vs Q E hr h => ?_)
  . obtain ⟨p, i, l, rfl, _⟩ := h
    rfl
  . obtain ⟨p, i, l, rfl, hp, q⟩ := h
    refine ⟨_, (@zh _ _ _ (@zn _ _ _ _ (@zt _ _ _ _ _ _ _ yh (pv 0) (@ze _ _ _ _) (fun _ _ => rfl)))), ?_⟩;rw [show start ["walk"] [V.ref p] = [some (V.ref p)] from rfl];simp only [zc, zd, ↓reduceIte];exact ⟨_, .of hp, _, zw (j := 0) rfl, q⟩
theorem sx (D : zi K mg "words_of" oh ["walk"]) : FnAt P w K mg base "words_of" 1 ["walk"] ja := by
  refine FnAt.of D zbf (fun vs H Q E h => ?_) (fun f cdv A outer s H vs Q E hr h => ?_)
  . obtain ⟨p, i, l, rfl, _⟩ := h
    rfl
  . obtain ⟨p, i, l, rfl, hp, q⟩ := h
    refine ⟨_, (@zh _ _ _ (@zn _ _ _ _ (@zt _ _ _ _ _ _ _ yh (pv 0) (@ze _ _ _ _) (fun _ _ => rfl)))), ?_⟩;rw [show start ["walk"] [V.ref p] = [some (V.ref p)] from rfl];simp only [zc, zd, ↓reduceIte];exact ⟨_, .of hp, _, zw (j := 1) rfl, q⟩
theorem vn (B : Bt mg) (vx : FnAt P w K mg base "turn" 1 ["grid", "s", "t"] (uj K)) (D : zi K mg "walks_of_one_turn" we ["grid", "s"]) : FnAt P w K mg base "walks_of_one_turn" 2 ["grid", "s"] (spOne K) := by
  refine FnAt.of D ky (fun vs H Q E h => ?_) (fun f cdv A outer s H vs Q E hr h => ?_)
  . obtain ⟨g, rows, n, s, rfl, _⟩ := h
    rfl
  . obtain ⟨g, rows, n, s, rfl, G, hs, q⟩ := h
    have n8 := G.n8;refine ⟨_, (@zh _ _ _ (@zn _ _ _ _ (yk ["t"] ["grid", "s"] rfl (yl rfl B.range (za (zo zq rfl B.len ya (za (pv 0) (@zb _))) (@zb _))) (fun _ => (zp (i := 0) (show (["t", "grid", "s"] : List Str).Nodup by decide +kernel) rfl (Or.inl rfl))) (fun _ => (@yc _)) (fun _ => (@y7 _ _ _ _ _ (@za _ _ _ _ _ (zk vx (hr.mono (by decide)) rfl (@za _ _ _ _ _ (pv 1) (@za _ _ _ _ _ (pv 2) (@za _ _ _ _ _ (pv 0) (@zb _) (z8 nofun)) (z8 nofun)) (z8 nofun))) (@za _ _ _ _ _ (@xm _ _ _ _ (@za _ _ _ _ _ (pv 2) (@za _ _ _ _ _ (pv 0) (@zb _) (z8 nofun)) (z8 nofun))) (@zb _) (z8 nofun)) (z8 nofun)))) rfl (by decide +kernel) rfl rfl))), ?_⟩;rw [show start ["grid", "s"] [V.ref g, V.int s] = [some (V.ref g), some (V.int s)] from rfl];simp only [zc, zd, ↓reduceIte];obtain ⟨as, h1, h2⟩ := G.ex;refine ⟨_, .inl h1.1, ?_⟩;rw [Za, h2];refine ⟨by omega, by omega, fun d => ?_⟩;rw [Zw];refine xg (RowPre H (z7 rows) n 1 s) ⟨Same.refl _, rfl, fun t ht => by omega⟩ ?_ ?_ ?_
    . rintro i ys H' hi h
      rw [h.2.1];exact Zd hi (Zd n8 (by decide))
    . rintro i ys H' hi h
      simp only [zc, zd, ↓reduceIte];refine u6 (G.mono h.1) hs hi ?_;refine ⟨by show 2 <= sizeLine; decide, fun l hl => ⟨by show 2 <= sizeLine; decide, fun p hp => ?_⟩⟩;have S1 : Same H' (upd H' l (.lst [V.int s, V.int i])) := Same.upd (Same.refl _) hl;have S2 : Same (upd H' l (.lst [V.int s, V.int i])) (upd (upd H' l (.lst [V.int s, V.int i])) p (.tup [V.int (z7 rows s i), V.ref l])) := Same.upd (Same.refl _) hp;refine h.snoc (ws := [i]) (S1.trans S2) ⟨p, l, rfl, ?_, S2 _ _ zg⟩ (Least.one _ hi);rw [zg]
      show _ = some (HO.tup [V.int (z7 rows s i + 0), V.ref l])
      rw [Int.add_zero]
    . rintro ys H' h l hl
      obtain ⟨S, R⟩ := h.done hl;exact q _ _ S R
end
theorem zcx (ws : List Nat) (t : Nat) : (nI ws).map V.int ++ [V.int t] = (nI (ws ++ [t])).map V.int := by simp [nI]
theorem zg9 (xs : List V) : cutV xs none (some (-1)) = xs.dropLast := by
  unfold cutV;rw [HT.sIx_none, List.drop_zero, Nat.sub_zero, YE]
  congr 1
  unfold HT.sIx;simp;omega
theorem zbb (ws : List Nat) : ((nI ws).map V.int).dropLast = (nI ws.dropLast).map V.int := by
  rw [YE, YE, nI, nI, <- List.map_take, <- List.map_take];simp
theorem zdk {H : Hp} {T : Nat -> Nat -> Int} {n k s : Nat} {xs : List V} (h : ∀ t, t < n -> ∃ x ws, xs[t]? = some x /\ WalkAt H x T s ws /\ Least T n k s t ws) :
    ∃ f : Nat -> List Nat, ∀ t, t < n -> Least T n k s t (f t) /\ ∀ x, xs[t]? = some x -> WalkAt H x T s (f t) := by
  refine ⟨fun t => if ht : t < n then Classical.choose (Classical.choose_spec (h t ht)) else [], fun t ht => ?_⟩;have z := Classical.choose_spec (Classical.choose_spec (h t ht));simp only [ht, dif_pos];refine ⟨z.2.2, fun x hx => ?_⟩;rw [z.1] at hx;cases hx;exact z.2.1
def zch (K : Fg) : Sp := fun vs H Q _ => ∃ (g l : Addr) (rows : List (List Int)) (ts : List Int) (n t : Nat), vs = [.ref g, .ref l, .int t] /\ Gd K H g rows n /\ 0 < n /\ SqL K H l (ts.map V.int) /\ ts.length = n /\ t < n /\ ∀ H' m, Same H H' -> Q (.int m) H'
def zdf (H : Hp) (i : Nat) (ys : List V) (H' : Hp) : Prop := Same H H' /\ ∃ ns : List Int, ns.length = i /\ ys = ns.map V.int
def HonA (rows : List (List Int)) (ps : List Int) (n : Nat) : Prop := ∀ t s : Nat, t < n -> s < n -> gcA rows t s - gcA rows t t <= ps.getD s 0 - ps.getD t 0
def spHas (K : Fg) : Sp := fun vs H Q _ => ∃ (g : Addr) (rows : List (List Int)) (n : Nat), vs = [.ref g] /\ Gd K H g rows n /\ 0 < n /\ ∀ H' (b : Bool), Same H H' -> (b = true -> ∃ ps : List Int, HonA rows ps n) -> Q (.bl b) H'
def PvTotH (H : Hp) (g : Addr) (n : Nat) (i : Nat) (σ : L2.St) (H' : Hp) : Prop := Same H H' /\ ∃ (l : Addr) (ts : List Int) (v : Option V), H' l = some (.lst (ts.map V.int)) /\ ts.length = n /\ σ = [some (.ref g), some (.ref l), v]
theorem zbq {rows : List (List Int)} {ps : List Int} {n : Nat} (h : HonA rows ps n) : ∀ (ws : List Nat) (s : Nat), s < n -> (∀ x ∈ ws, x < n) -> ps.getD (lst s ws) 0 - ps.getD s 0 <= wk (z7 rows) s ws
  | [], s, _, _ => by show ps.getD s 0 - ps.getD s 0 <= 0; omega
  | w :: ws, s, hs, hw => by
    have hw' := hw w ZA;have h1 := zbq h ws w hw' fun x hx => hw x (Zv _ hx)
    have h2 := h w s hw' hs
    show ps.getD (lst w ws) 0 - ps.getD s 0 <= z7 rows s w + wk (z7 rows) w ws
    unfold z7;unfold z7 at h1;omega
theorem HonA.no {rows : List (List Int)} {ps : List Int} {n : Nat} (h : HonA rows ps n) (j : Nat) : NoNeg (z7 rows) n j := fun s ws hs W => by
  have := zbq h ws s hs W.lt;rw [W.to] at this;omega
section
variable {P : Program} {w : World} {K : Fg} {mg : Str -> Option Value} {base : Heap}
theorem sf (B : Bt mg) (vx : FnAt P w K mg base "turn" 1 ["grid", "s", "t"] (uj K)) (xf : FnAt P w K mg base "total_of" 1 ["walk"] om) (D : zi K mg "least_to" tf ["grid", "walks", "t"]) : FnAt P w K mg base "least_to" 3 ["grid", "walks", "t"] (zb9 K) := by
  refine FnAt.of D sc_least_to (fun vs H Q E h => ?_) (fun f cdv A outer s H vs Q E hr h => ?_)
  . obtain ⟨g, rows, v, n, k, s, t, rfl, _⟩ := h
    rfl
  . obtain ⟨g, rows, v, n, k, s, t, rfl, G, R, ht, hs, hk, hk2, q⟩ := h
    have n8 := G.n8;obtain ⟨r, xs, rfl, hr1, hlen, hall⟩ := R;obtain ⟨fw, hfw⟩ := zdk hall;refine ⟨_, (@zj _ _ _ _ _ (vh (i := 3) ["total", "words"] ["grid", "walks", "t", "longer"] sc_least_to.nd rfl rfl rfl (@yg _ _ _ _ (pv 1)) (fun _ => (qt rfl (y2 (zp (i := 0) (show (["total", "words", "grid", "walks", "t", "longer"] : List Str).Nodup by decide +kernel) rfl (Or.inl rfl)) (y2 (zp (i := 1) (show (["total", "words", "grid", "walks", "t", "longer"] : List Str).Nodup by decide +kernel) rfl (Or.inl rfl)) (@u5 _))))) (fun _ => (@yc _)) (fun _ => (@y7 _ _ _ _ _ (za (@zm _ _ _ _ _ _ _ _ yp (pv 0) (zk vx (hr.mono (by decide)) rfl (za (pv 2) (za (@zt _ _ _ _ _ _ _ z0 (pv 1) (@fc _ _ _ _ _ _ jg (@ze _ _ _ _)) (fun _ _ => rfl)) (za (pv 4) (@zb _)))))) (za (@zm _ _ _ _ _ _ _ _ bx (pv 1) (@xm _ _ _ _ (za (pv 4) (@zb _)))) (@zb _))))) rfl (by decide +kernel) rfl rfl rfl) (@zh _ _ _ (@zn _ _ _ _ (zb5 xf (hr.mono (by decide)) rfl rfl B.min rfl (za (pv 3) (@zb _)))))), ?_⟩;rw [show start ["grid", "walks", "t", "longer"] [V.ref g, V.ref r, V.int t] = [some (V.ref g), some (V.ref r), some (V.int t), none] from rfl];simp only [zc, zd, ↓reduceIte];refine ⟨⟨_, .of hr1⟩, fun d => ?_⟩;refine yo (xs := xs) (fun i ys H2 => Same H H2 /\ ys.length = i /\ ∀ u, u < i -> ∃ x, ys[u]? = some x /\ WalkAt H2 x (z7 rows) s (fw u ++ [t])) ⟨Same.refl _, rfl, fun u hu => by omega⟩ ?_ ?_ ?_
    . rintro i ys H2 hi ⟨S, hl, _⟩
      exact ⟨by rw [hl]; rw [hlen] at hi; exact Zd hi (Zd n8 (by decide)), S.seq (.of hr1)⟩
    . rintro i x ys H2 hx ⟨S, hl, hy⟩
      have hi : i < n := by rw [<- hlen]; exact (Zc.mp hx).1
      obtain ⟨hL, hW⟩ := hfw i hi;obtain ⟨p, l, rfl, hp, hl1⟩ := hW x hx;have hp2 := S _ _ hp;have hl2 := S _ _ hl1;have hto := hL.w.to;rw [zd6] at hto;simp only [zc, zd, ↓reduceIte];refine ⟨_, .of hp2, rfl, ?_⟩;simp only [zc, zd, ↓reduceIte];refine ⟨_, .of hl2, _, zcv s (fw i), ?_⟩;rw [hto];refine u6 (G.mono S) hi ht ?_;simp only [zc, zd, ↓reduceIte];refine ⟨by show 1 <= sizeLine; decide, fun b hb => ?_⟩;have S1 : Same H2 (upd H2 b (.lst [V.int t])) := Same.upd (Same.refl _) hb;refine ⟨_, S1 _ _ hl2, _, zg, ?_, fun c hc => ⟨by show 2 <= sizeLine; decide, fun e he => ?_⟩⟩
      . have := hL.w.len
        simp only [nI, Za, ZM, Ym, this];exact Zd (show k + 1 + 1 <= 102 by omega) (by decide)
      . have S2 : Same (upd H2 b (.lst [V.int t])) (upd (upd H2 b (.lst [V.int t])) c (.lst ((nI (s :: fw i)).map V.int ++ [V.int t]))) := Same.upd (Same.refl _) hc
        have S3 := Same.upd (o := .tup [V.int (wk (z7 rows) s (fw i) + z7 rows i t), V.ref c]) (Same.refl (upd (upd H2 b (.lst [V.int t])) c (.lst ((nI (s :: fw i)).map V.int ++ [V.int t])))) he;refine ⟨S.trans (S1.trans (S2.trans S3)), by simp [hl], fun u hu => ?_⟩
        by_cases eu : u < i
        . obtain ⟨x, e1, e2⟩ := hy u eu
          exact ⟨x, by rw [Zg (by omega)]; exact e1, e2.mono (S1.trans (S2.trans S3))⟩
        . have : u = i := by omega
          subst this;refine ⟨.ref e, by rw [Zf (by omega), hl]; simp, e, c, rfl, ?_, ?_⟩
          . rw [zg, w4, hL.w.to]
          . exact S3 _ _ (by rw [zg, zcx]; rfl)
    . rintro ys H2 ⟨S, hl, hy⟩ lo hlo
      rw [hlen] at hl hy;have S1 : Same H2 (upd H2 lo (.lst ys)) := Same.upd (Same.refl _) hlo;refine ⟨ys, .of zg, by omega, fun u => wk (z7 rows) s (fw u ++ [t]), fun i x hx => ?_, fun i x hx hm => ?_⟩
      . have hi : i < n := by rw [<- hl]; exact (Zc.mp hx).1
        obtain ⟨x', e1, p, l, e2, hp, hl1⟩ := hy i hi;rw [hx] at e1;cases e1;subst e2;exact ⟨p, _, _, rfl, S1 _ _ hp, rfl, rfl⟩
      . have hi : i < n := by rw [<- hl]; exact (Zc.mp hx).1
        obtain ⟨x', e1, hw⟩ := hy i hi;rw [hx] at e1;cases e1;refine q _ _ _ (S.trans S1) (hw.mono S1) (Least.more ht fw (fun u hu => (hfw u hu).1) hk hi fun u hu => ?_);have z : wk (z7 rows) s (fw i ++ [t]) <= wk (z7 rows) s (fw u ++ [t]) := (hm u (by omega)).1;rw [w4, w4, (hfw i hi).1.w.to, (hfw u hu).1.w.to] at z;exact z
theorem vy (B : Bt mg) (sf : FnAt P w K mg base "least_to" 3 ["grid", "walks", "t"] (zb9 K)) (D : zi K mg "lengthened" vz ["grid", "walks"]) : FnAt P w K mg base "lengthened" 4 ["grid", "walks"] (zfn K) := by
  refine FnAt.of D k9 (fun vs H Q E h => ?_) (fun f cdv A outer s H vs Q E hr h => ?_)
  . obtain ⟨g, rows, v, n, k, s, rfl, _⟩ := h
    rfl
  . obtain ⟨g, rows, v, n, k, s, rfl, G, R, hs, hk, hk2, q⟩ := h
    have n8 := G.n8;refine ⟨_, (@zh _ _ _ (@zn _ _ _ _ (yk ["t"] ["grid", "walks"] rfl (yl rfl B.range (za (zo zq rfl B.len ya (za (pv 0) (@zb _))) (@zb _))) (fun _ => (zp (i := 0) (show (["t", "grid", "walks"] : List Str).Nodup by decide +kernel) rfl (Or.inl rfl))) (fun _ => (@yc _)) (fun _ => (zk sf (hr.mono (by decide)) rfl (za (pv 1) (za (pv 2) (za (pv 0) (@zb _)))))) rfl (by decide +kernel) rfl rfl))), ?_⟩;rw [show start ["grid", "walks"] [V.ref g, v] = [some (V.ref g), some v] from rfl];simp only [zc, zd, ↓reduceIte];obtain ⟨as, h1, h2⟩ := G.ex;refine ⟨_, .inl h1.1, ?_⟩;rw [Za, h2];refine ⟨by omega, by omega, fun d => ?_⟩;rw [Zw];refine xg (RowPre H (z7 rows) n (k + 1) s) ⟨Same.refl _, rfl, fun t ht => by omega⟩ ?_ ?_ ?_
    . rintro i ys H' hi h
      rw [h.2.1];exact Zd hi (Zd n8 (by decide))
    . rintro i ys H' hi h
      simp only [zc, zd, ↓reduceIte];exact ⟨g, rows, v, n, k, s, i, rfl, G.mono h.1, R.mono h.1, hi, hs, hk, hk2, fun H2 x ws S1 hw hl => h.snoc S1 hw hl⟩
    . rintro ys H' h l hl
      obtain ⟨S, R⟩ := h.done hl;exact q _ _ S R
theorem vm (B : Bt mg) (xf : FnAt P w K mg base "total_of" 1 ["walk"] om) (sx : FnAt P w K mg base "words_of" 1 ["walk"] ja) (D : zi K mg "closed_below_zero" wb ["rows"]) : FnAt P w K mg base "closed_below_zero" 2 ["rows"] zap := by
  refine FnAt.of D sc_closed_below_zero (fun vs H Q E h => ?_) (fun f cdv A outer s H vs Q E hr h => ?_)
  . obtain ⟨T, v, n, k, rfl, _⟩ := h
    rfl
  . obtain ⟨T, v, n, k, rfl, ⟨r, xs, rfl, hr1, hlen, hall⟩, hk, n8, q0, q1⟩ := h
    refine ⟨_, (@zj _ _ _ _ _ (yx PassesOwn.never rfl (ji rfl B.enumerate (za (pv 0) (@zb _))) (qt rfl (y2 (zp (i := 1) sc_closed_below_zero.nd rfl (Or.inl rfl)) (y2 (zp (i := 2) sc_closed_below_zero.nd rfl (Or.inl rfl)) (@u5 _)))) (@zh _ _ _ (@yj _ _ _ _ _ _ _ _ (@yf _ _ _ _ _ _ _ _ jy (zk xf (hr.mono (by decide)) rfl (za (@zt _ _ _ _ _ _ _ z0 (pv 2) (pv 1) (fun _ _ => rfl)) (@zb _))) (@ze _ _ _ _) (ye _)) (@zh _ _ _ (@zn _ _ _ _ (@uz _ _ _ _ _ _ _ _ _ _ zho (zk sx (hr.mono (by decide)) rfl (za (@zt _ _ _ _ _ _ _ z0 (pv 2) (pv 1) (fun _ _ => rfl)) (@zb _))) (@rf _) (@u0 _ _ _ (@fc _ _ _ _ _ _ jg (@ze _ _ _ _)))))) (@yb _)))) (@zh _ _ _ (@zn _ _ _ _ (@qq _ _ _)))), ?_⟩;rw [show start ["rows", "s", "walks"] [V.ref r] = [some (V.ref r), none, none] from rfl];simp only [zc, zd, ↓reduceIte];refine ⟨⟨_, .of hr1⟩, ?_⟩;refine zgr (xs := xs) (fun i σ H2 => Same H H2 /\ (∃ v1 v2, σ = [some (.ref r), v1, v2]) /\ ∀ s, s < i -> ∀ ws, Wk n k s s ws -> 0 <= wk T s ws) ⟨Same.refl _, ⟨_, _, rfl⟩, fun s hs => by omega⟩ ?_ ?_ ?_
    . rintro i σ H2 hi ⟨S, _, _⟩
      exact S.seq (.of hr1)
    . rintro i x σ H2 U hx hU ⟨S, ⟨v1, v2, rfl⟩, no⟩
      have hi : i < n := by rw [<- hlen]; exact (Zc.mp hx).1
      obtain ⟨x', e1, R⟩ := hall i hi;rw [hx] at e1;cases e1;obtain ⟨r2, zs, rfl, hr2, hl2, hz⟩ := R;obtain ⟨y, ws, e2, hw, hL⟩ := hz i hi;obtain ⟨p, l, rfl, hp, hl1⟩ := hw;have SU : Same H (upd H2 U (.tup [V.int i, V.ref r2])) := Same.upd S (S.free hU);simp only [zc, zd, ↓reduceIte];refine ⟨_, .of zg, rfl, ?_⟩;simp only [zc, zd, ↓reduceIte];refine ⟨_, .of (SU _ _ hr2), _, zw e2, p, _, _, rfl, SU _ _ hp, ?_⟩;simp only [zc, zd, ↓reduceIte];refine ite2 (fun h => ?_) (fun h => ?_)
      . refine ⟨_, .of (SU _ _ hr2), _, zw e2, p, _, _, rfl, SU _ _ hp, ?_⟩
        simp only [zc, zd, ↓reduceIte];refine ⟨_, .of (SU _ _ hl1), fun b hb => ?_⟩;refine q1 _ i ws b (Same.upd SU (SU.free hb)) ?_ hi hL.w (of_decide_eq_true h);rw [zg, show (-1 : Int) = -1 from rfl, zg9, zbb]
      . refine ⟨SU, fun s hs us hu => ?_⟩
        by_cases e : s < i
        . exact no s e us hu
        . have : s = i := by omega
          subst this;have z := hL.least us hu;have : ¬ wk T s ws < 0 := fun y => h (decide_eq_true y)
          omega
    . rintro σ H2 ⟨S, ⟨v1, v2, rfl⟩, no⟩
      simp only [zc, zd, ↓reduceIte];exact q0 _ S fun s ws hs hw => no s (by omega) ws hw
theorem rk (B : Bt mg) (vx : FnAt P w K mg base "turn" 1 ["grid", "s", "t"] (uj K)) (D : zi K mg "after_a_turn" ua ["grid", "totals", "t"]) : FnAt P w K mg base "after_a_turn" 2 ["grid", "totals", "t"] (zch K) := by
  refine FnAt.of D gm (fun vs H Q E h => ?_) (fun f cdv A outer s H vs Q E hr h => ?_)
  . obtain ⟨g, l, rows, ts, n, t, rfl, _⟩ := h
    rfl
  . obtain ⟨g, l, rows, ts, n, t, rfl, G, hn, hl, lt, ht, q⟩ := h
    have n8 := G.n8;refine ⟨_, (@zh _ _ _ (@zn _ _ _ _ (zo (zfv rfl) rfl B.min a7 (za (yk ["s", "total"] ["grid", "totals", "t"] rfl (ji rfl B.enumerate (za (pv 1) (@zb _))) (fun _ => (qt rfl (y2 (zp (i := 0) (show (["s", "total", "grid", "totals", "t"] : List Str).Nodup by decide +kernel) rfl (Or.inl rfl)) (y2 (zp (i := 1) (show (["s", "total", "grid", "totals", "t"] : List Str).Nodup by decide +kernel) rfl (Or.inl rfl)) (@u5 _))))) (fun _ => (@yc _)) (fun _ => (@zm _ _ _ _ _ _ _ _ yp (pv 1) (zk vx (hr.mono (by decide)) rfl (za (pv 2) (za (pv 0) (za (pv 4) (@zb _))))))) rfl (by decide +kernel) rfl rfl) (@zb _))))), ?_⟩;rw [show start ["grid", "totals", "t"] [V.ref g, V.ref l, V.int t] = [some (V.ref g), some (V.ref l), some (V.int t)] from rfl];simp only [zc, zd, ↓reduceIte];refine ⟨⟨_, hl⟩, fun d => ?_⟩;refine ze6 (xs := ts.map V.int) (zdf H) ⟨Same.refl _, [], rfl, rfl⟩ ?_ ?_ ?_
    . rintro i ys H2 hi ⟨S, ns, ln, rfl⟩
      rw [Za] at hi;exact ⟨by rw [Za, ln]; exact Zd hi (Zd (show ts.length <= 8 by omega) (by decide)), S.seq hl⟩
    . rintro i x ys H2 T hx hT ⟨S, ns, ln, rfl⟩
      obtain ⟨y, hy, rfl⟩ := yv hx;have hi : i < n := by have := (Zc.mp hy).1; omega
      have S1 : Same H2 (upd H2 T (.tup [V.int i, V.int y])) := Same.upd (Same.refl _) hT;simp only [zc, zd, ↓reduceIte];refine ⟨_, .of zg, rfl, ?_⟩;generalize upd H2 T (.tup [V.int i, V.int y]) = H3 at *;simp only [zc, zd, ↓reduceIte];refine u6 (G.mono (S.trans S1)) hi ht ?_;simp only [zc, zd, ↓reduceIte];exact ⟨S.trans S1, ns ++ [y + z7 rows i t], by simp [ln], by simp⟩
    . rintro ys H2 ⟨S, ns, ln, rfl⟩ p hp
      rw [Za, lt] at ln;exact ⟨_, .of zg, by omega, fun m _ _ => q _ m (S.trans (Same.upd (Same.refl _) hp))⟩
theorem nu (B : Bt mg) (rk : FnAt P w K mg base "after_a_turn" 2 ["grid", "totals", "t"] (zch K)) (ox : FnAt P w K mg base "first_gain" 3 ["grid", "pays"] (spFG K)) (D : zi K mg "has_honest" t8 ["grid"]) : FnAt P w K mg base "has_honest" 4 ["grid"] (spHas K) := by
  refine FnAt.of D sc_has_honest (fun vs H Q E h => ?_) (fun f cdv A outer s H vs Q E hr h => ?_)
  . obtain ⟨g, rows, n, rfl, _⟩ := h
    rfl
  . obtain ⟨g, rows, n, rfl, G, hn, q⟩ := h
    have n8 := G.n8;refine ⟨_, (@zj _ _ _ _ _ (zz (i := 1) sc_has_honest.nd rfl (Or.inr rfl) (yk ["row"] ["grid", "totals", "size"] rfl (@yg _ _ _ _ (pv 0)) (fun _ => (zp (i := 0) (show (["row", "grid", "totals", "size"] : List Str).Nodup by decide +kernel) rfl (Or.inl rfl))) (fun _ => (@yc _)) (fun _ => (@ze _ _ _ _)) rfl (by decide +kernel) rfl rfl)) (@zj _ _ _ _ _ (yx PassesOwn.never rfl (qx rfl B.range (za (@ze _ _ _ _) (za (@zm _ _ _ _ _ _ _ _ yp (zo zq rfl B.len ya (za (pv 0) (@zb _))) (@ze _ _ _ _)) (@zb _)))) (zp (i := 2) sc_has_honest.nd rfl (Or.inl rfl)) (@zh _ _ _ (zz (i := 1) sc_has_honest.nd rfl (Or.inr rfl) (yk ["t"] ["grid", "totals", "size"] rfl (yl rfl B.range (za (zo zq rfl B.len ya (za (pv 0) (@zb _))) (@zb _))) (fun _ => (zp (i := 0) (show (["t", "grid", "totals", "size"] : List Str).Nodup by decide +kernel) rfl (Or.inl rfl))) (fun _ => (@yc _)) (fun _ => (zk rk (hr.mono (by decide)) rfl (za (pv 1) (za (pv 2) (za (pv 0) (@zb _)))))) rfl (by decide +kernel) rfl rfl)))) (@zh _ _ _ (@zn _ _ _ _ (@v9 _ _ _ _ _ _ _ _ op_isN (zk ox (hr.mono (by decide)) rfl (za (pv 0) (za (pv 1) (@zb _)))) (@qq _ _ _) (ye _)))))), ?_⟩;rw [show start ["grid", "totals", "size"] [V.ref g] = [some (V.ref g), none, none] from rfl];simp only [zc, zd, ↓reduceIte];obtain ⟨as, h1, h2⟩ := G.ex;refine ⟨⟨_, h1.1⟩, fun d => ?_⟩;refine yo (xs := as.map V.ref) (zdf H) ⟨Same.refl _, [], rfl, rfl⟩ ?_ ?_ ?_
    . rintro i ys H2 hi ⟨S, ns, ln, rfl⟩
      rw [Za, h2] at hi;exact ⟨by rw [Za, ln]; exact Zd hi (Zd n8 (by decide)), S.seq h1.1⟩
    . rintro i x ys H2 hx ⟨S, ns, ln, rfl⟩
      simp only [zc, zd, ↓reduceIte];exact ⟨S, ns ++ [0], by simp [ln], by simp⟩
    . rintro ys H2 ⟨S, ns, ln, rfl⟩ p hp
      rw [Za, h2] at ln;have S1 : Same H (upd H2 p (.lst (ns.map V.int))) := S.trans (Same.upd (Same.refl _) hp);have p1 : upd H2 p (.lst (ns.map V.int)) p = some (.lst (ns.map V.int)) := zg;generalize upd H2 p (.lst (ns.map V.int)) = H3 at *;refine ⟨_, .inl (S1.seq h1.1), ?_⟩;rw [Za, h2];refine ⟨by omega, by omega, by omega, by omega, ?_⟩;rw [show ((n : Int) + 1 - 2).toNat = n - 1 by omega];refine xa (PvTotH H g n) ⟨S1, p, ns, _, p1, ln, rfl⟩ ?_ ?_
      . rintro i σ H4 hi ⟨S4, p4, ts, v, hp4, lt, rfl⟩
        simp only [zc, zd, ↓reduceIte];refine ⟨_, .inl (S4.seq h1.1), ?_⟩;rw [Za, h2];refine ⟨by omega, by omega, fun d2 => ?_⟩;rw [Zw];refine xg (zdf H4) ⟨Same.refl _, [], rfl, rfl⟩ ?_ ?_ ?_
        . rintro j ys H5 hj ⟨S5, ms, lm, rfl⟩
          rw [Za, lm];exact Zd hj (Zd n8 (by decide))
        . rintro j ys H5 hj ⟨S5, ms, lm, rfl⟩
          simp only [zc, zd, ↓reduceIte];exact ⟨g, p4, rows, ts, n, j, rfl, G.mono (S4.trans S5), hn, .of (S5 _ _ hp4), lt, hj, fun H6 m S6 => ⟨S5.trans S6, ms ++ [m], by simp [lm], by simp⟩⟩
        . rintro ys H5 ⟨S5, ms, lm, rfl⟩ p5 hp5
          exact ⟨S4.trans (S5.trans (Same.upd (Same.refl _) hp5)), p5, ms, _, zg, lm, rfl⟩
      . rintro σ H4 ⟨S4, p4, ts, v, hp4, lt, rfl⟩
        simp only [zc, zd, ↓reduceIte];refine ⟨g, p4, as, rows, ts, n, rfl, (GridL.mono S4 h1), h2, .of hp4, lt, n8, G.sq, fun h => ?_, fun t s h l hl => ?_⟩
        . exact q H4 true S4 fun _ => ⟨ts, fun t s ht hs => by
            have := h t s ht hs;unfold ml at this
            omega⟩
        . exact q _ false (S4.trans (Same.upd (Same.refl _) hl)) fun z => by cases z
theorem jb (B : Bt mg) (nu : FnAt P w K mg base "has_honest" 4 ["grid"] (spHas K)) (vn : FnAt P w K mg base "walks_of_one_turn" 2 ["grid", "s"] (spOne K)) (vy : FnAt P w K mg base "lengthened" 4 ["grid", "walks"] (zfn K)) (vm : FnAt P w K mg base "closed_below_zero" 2 ["rows"] zap)
    (D : zi K mg "ring" gi ["grid"]) : FnAt P w K mg base "ring" 5 ["grid"] (zai K) := by
  refine FnAt.of D sc_ring (fun vs H Q E h => ?_) (fun f cdv A outer s H vs Q E hr h => ?_)
  . obtain ⟨g, rows, n, rfl, _⟩ := h
    rfl
  . obtain ⟨g, rows, n, rfl, G0, hn, q00, q10⟩ := h
    have n8 := G0.n8;refine ⟨_, (@zj _ _ _ _ _ (@yj _ _ _ _ _ _ _ _ (yz (zk nu (hr.mono (by decide)) rfl (za (pv 0) (@zb _)))) (@zh _ _ _ (@zn _ _ _ _ (@qq _ _ _))) (@yb _)) (@zj _ _ _ _ _ (vh (i := 1) ["s"] ["grid", "rows", "size", "found"] sc_ring.nd rfl rfl rfl (yl rfl B.range (za (zo zq rfl B.len ya (za (pv 0) (@zb _))) (@zb _))) (fun _ => (zp (i := 0) (show (["s", "grid", "rows", "size", "found"] : List Str).Nodup by decide +kernel) rfl (Or.inl rfl))) (fun _ => (@yc _)) (fun _ => (zk vn (hr.mono (by decide)) rfl (za (pv 1) (za (pv 0) (@zb _))))) rfl (by decide +kernel) rfl rfl rfl) (@zj _ _ _ _ _ (yx PassesOwn.never rfl (qx rfl B.range (za (@ze _ _ _ _) (za (@zm _ _ _ _ _ _ _ _ yp (zo zq rfl B.len ya (za (pv 0) (@zb _))) (@ze _ _ _ _)) (@zb _)))) (zp (i := 2) sc_ring.nd rfl (Or.inl rfl)) (@zj _ _ _ _ _ (vh (i := 1) ["walks"] ["grid", "rows", "size", "found"] sc_ring.nd rfl rfl rfl (@yg _ _ _ _ (pv 1)) (fun _ => (zp (i := 0) (show (["walks", "grid", "rows", "size", "found"] : List Str).Nodup by decide +kernel) rfl (Or.inl rfl))) (fun _ => (@yc _)) (fun _ => (zk vy (hr.mono (by decide)) rfl (za (pv 1) (za (pv 0) (@zb _))))) rfl (by decide +kernel) rfl rfl rfl) (@zj _ _ _ _ _ (zz (i := 3) sc_ring.nd rfl (Or.inl rfl) (zk vm (hr.mono (by decide)) rfl (za (pv 1) (@zb _)))) (@zh _ _ _ (@yj _ _ _ _ _ _ _ _ (@yf _ _ _ _ _ _ _ _ el (pv 3) (@qq _ _ _) (ye _)) (@zh _ _ _ (@zn _ _ _ _ (pv 3))) (@yb _)))))) (@zh _ _ _ (@zn _ _ _ _ (@qq _ _ _)))))), ?_⟩;rw [show start ["grid", "rows", "size", "found"] [V.ref g] = [some (V.ref g), none, none, none] from rfl];simp only [zc, zd, ↓reduceIte];refine ⟨g, rows, n, rfl, G0, hn, fun H0 hb S0 hHon => ?_⟩;refine ⟨hb, rfl, ite2 (fun hy => ?_) fun _ => ?_⟩
    . obtain ⟨ps, hps⟩ := hHon hy
      exact q00 H0 S0 fun j _ => hps.no j
    have G := G0.mono S0;have q0 : ∀ H', Same H0 H' -> (∀ j, j <= n -> NoNeg (z7 rows) n j) -> Q .non H' := fun H' S' h => q00 H' (S0.trans S') h
    have q1 : ∀ H' l c, Same H0 H' -> H' l = some (.lst ((nI c).map V.int)) -> RingA (z7 rows) n c -> Q (.ref l) H' := fun H' l c S' h1 h2 => q10 H' l c (S0.trans S') h1 h2
    obtain ⟨as, h1, h2⟩ := G.ex;refine ⟨_, .inl h1.1, ?_⟩;rw [Za, h2];refine ⟨by omega, by omega, fun d => ?_⟩;rw [Zw];refine xg (RowsPre H0 (z7 rows) n 1) ⟨Same.refl _, rfl, fun t ht => by omega⟩ ?_ ?_ ?_
    . rintro i ys H' hi h
      rw [h.2.1];exact Zd hi (Zd n8 (by decide))
    . rintro i ys H' hi h
      simp only [zc, zd, ↓reduceIte];exact ⟨g, rows, n, i, rfl, G.mono h.1, hi, fun H2 x S1 hR => h.snoc S1 hR⟩
    . rintro ys H' h l hl
      obtain ⟨S, R⟩ := h.done hl;generalize upd H' l (.lst ys) = H1 at *;refine ⟨_, .inl (S.seq h1.1), ?_⟩;rw [Za, h2];refine ⟨by omega, by omega, by omega, by omega, ?_⟩;rw [show ((n : Int) + 1 - 2).toNat = n - 1 by omega];refine xa (fun i σ H2 => Same H0 H2 /\ (∃ v v2 v3, σ = [some (.ref g), some v, v2, v3] /\ RowsAt H2 v (z7 rows) n (i + 1)) /\ ∀ j, j <= i + 1 -> NoNeg (z7 rows) n j) ⟨S, ⟨_, _, _, rfl, R⟩, fun j hj => ?_⟩ ?_ ?_
      . have : j = 0 \/ j = 1 := by omega
        rcases this with rfl | rfl
        . exact NoNeg.zero _ _
        . exact NoNeg.one (gg rows) _
      . rintro i σ H2 hi ⟨S2, ⟨v, v2, v3, rfl, ⟨r, xs, rfl, hr1, hlen, hall⟩⟩, no⟩
        simp only [zc, zd, ↓reduceIte];refine ⟨⟨_, .of hr1⟩, fun d2 => ?_⟩;refine yo (xs := xs) (RowsPre H2 (z7 rows) n (i + 1 + 1)) ⟨Same.refl _, rfl, fun t ht => by omega⟩ ?_ ?_ ?_
        . rintro j ys H' hj h
          rw [h.2.1];exact ⟨Zd hj (Zd (by omega) (show 8 <= sizeLine by decide)), h.1.seq (.of hr1)⟩
        . rintro j x ys H' hx h
          have hj : j < n := by rw [<- hlen]; exact (Zc.mp hx).1
          obtain ⟨x', e1, R⟩ := hall j hj;rw [hx] at e1;cases e1;simp only [zc, zd, ↓reduceIte];exact ⟨g, rows, x, n, i + 1, j, rfl, G.mono (S2.trans h.1), R.mono h.1, hj, by omega, by omega, fun H3 v' S3 hR => h.snoc S3 hR⟩
        . rintro ys H' h l hl
          rw [hlen] at h;obtain ⟨S3, R3⟩ := h.done hl;generalize upd H' l (.lst ys) = H3 at *;refine ⟨z7 rows, .ref l, n, i + 2, rfl, R3, by omega, n8, fun H4 S4 hno => ?_, fun H4 s ws b S4 hb hs hw hneg => ?_⟩
          . simp only [zc, zd, ↓reduceIte]
            refine ⟨S2.trans (S3.trans S4), R3.mono S4, fun j hj => ?_⟩
            by_cases e : j <= i + 1
            . exact no j e
            . have : j = i + 2 := by omega
              subst this;exact hno
          . simp only [zc, zd, ↓reduceIte]
            refine q1 H4 b _ (S2.trans (S3.trans S4)) hb (RingA.of (gg rows) hs hw hneg fun j hj => no j (by omega))
      . rintro σ H2 ⟨S2, ⟨v, v2, v3, rfl, _⟩, no⟩
        simp only [zc, zd, ↓reduceIte];exact q0 H2 S2 fun j hj => no j (by omega)
end
structure Rd (T : Nat -> Nat -> Int) (b : Nat -> Int) (S : Nat -> Prop) (n k t : Nat) (e : Int × List Nat) : Prop where
  ex : ∃ s ws, e.2 = s :: ws /\ S s /\ s < n /\ lst s ws = t /\ (∀ x ∈ ws, x < n) /\ e.1 = b s + wk T s ws /\ (s :: ws).Nodup /\ ws.length <= k
def Low (T : Nat -> Nat -> Int) (b : Nat -> Int) (S : Nat -> Prop) (n k t : Nat) (i : Int) : Prop := ∀ s ws, S s -> s < n -> lst s ws = t -> (∀ x ∈ ws, x < n) -> ws.length <= k -> i <= b s + wk T s ws
structure Rds (T : Nat -> Nat -> Int) (b : Nat -> Int) (S : Nat -> Prop) (n k : Nat) (f : Nat -> Int × List Nat) : Prop where
  rd : ∀ t, t < n -> Rd T b S n k t (f t)
  low : ∀ t, t < n -> Low T b S n k t (f t).1
theorem zcj {n : Nat} : ∀ (ws : List Nat) (s : Nat), s < n -> (∀ x ∈ ws, x < n) -> lst s ws < n
  | [], _, h, _ => h
  | w :: ws, _, _, h => zcj ws w (h w ZA) fun x hx => h x (Zv _ hx)
theorem lst_lt {n : Nat} {ws : List Nat} {s : Nat} (hs : s < n) (h : ∀ x ∈ ws, x < n) : lst s ws < n := zcj ws s hs h
theorem back {T : Nat -> Nat -> Int} {b : Nat -> Int} {S : Nat -> Prop} {n k i t s : Nat} {ws : List Nat} {m : Int} (no : ∀ k, NoNeg T n k) (ht : t < n) (hS : S s) (hs : s < n) (hto : lst s ws = i) (hlt : ∀ x ∈ ws, x < n) (hk : ws.length <= k) (hl : Low T b S n k t m) (hm : t ∈ s :: ws) : m <= b s + wk T s ws + T i t := by
  have closed : ∀ C : List Nat, (∀ x ∈ C, x < n) -> lst t C = i -> 0 <= wk T t C + T i t := fun C hC hi => by
    have := no (C.length + 1) t (C ++ [t]) ht ⟨by simp, fun x hx => by
      rcases ZH.mp hx with z | z
      . exact hC x z
      . rw [ZC.mp z]; exact ht, xu _ _ _⟩
    rw [w4, hi] at this;exact this
  rcases ZK.mp hm with z | z
  . subst z
    have h1 := hl t [] hS hs rfl (fun x hx => nomatch hx) (ZE _);have h2 := closed ws hlt hto;have h3 : wk T t [] = 0 := rfl;omega
  . obtain ⟨A, C, rfl⟩ := List.append_of_mem z
    have hA : ∀ x ∈ A ++ [t], x < n := fun x hx => hlt x (by
      rcases ZH.mp hx with z | z
      . exact ZZ _ z
      . rw [ZC.mp z]; simp)
    have h1 := hl s (A ++ [t]) hS hs (xu _ _ _) hA (by simp at hk ⊢; omega);rw [ft] at hto;have h2 := closed C (fun x hx => hlt x (Zu _ (Zv _ hx))) hto;rw [lu];omega
theorem Rds.step {T : Nat -> Nat -> Int} {b : Nat -> Int} {S : Nat -> Prop} {n k : Nat} {f f' : Nat -> Int × List Nat} (no : ∀ k, NoNeg T n k) (R : Rds T b S n k f)
    (h : ∀ t, t < n -> ∃ i, i < n /\ (∀ u, u < n -> (f i).1 + T i t <= (f u).1 + T u t) /\ (((f i).1 + T i t < (f t).1 /\ f' t = ((f i).1 + T i t, (f i).2 ++ [t])) \/ ((f t).1 <= (f i).1 + T i t /\ f' t = f t))) : Rds T b S n (k + 1) f' := by
  refine ⟨fun t ht => ?_, fun t ht => ?_⟩
  . obtain ⟨i, hi, hm, hc⟩ := h t ht
    rcases hc with ⟨hlt, e⟩ | ⟨_, e⟩
    . obtain ⟨s, ws, e1, hS, hs, hto, hw, hv, hd, hk⟩ := (R.rd i hi).ex
      have hn : t ∉ s :: ws := fun z => by
        have := back no ht hS hs hto hw hk (R.low t ht) z;omega
      rw [e];refine ⟨s, ws ++ [t], by rw [e1]; rfl, hS, hs, xu _ _ _, fun x hx => ?_, ?_, ?_, by simp; exact hk⟩
      . rcases ZH.mp hx with z | z
        . exact hw x z
        . rw [ZC.mp z]; exact ht
      . show (f i).1 + T i t = _
        rw [w4, hto, hv]; omega
      . show ((s :: ws) ++ [t]).Nodup
        refine Yp.mpr ⟨hd, by simp, fun x hx y hy => ?_⟩;rw [ZC.mp hy]
        rintro rfl
        exact hn hx
    . obtain ⟨s, ws, e1, hS, hs, hto, hw, hv, hd, hk⟩ := (R.rd t ht).ex
      rw [e];exact ⟨s, ws, e1, hS, hs, hto, hw, hv, hd, by omega⟩
  . obtain ⟨i, hi, hm, hc⟩ := h t ht
    have h1 : (f' t).1 <= (f t).1 /\ (f' t).1 <= (f i).1 + T i t := by
      rcases hc with ⟨hlt, e⟩ | ⟨hlt, e⟩ <;> rw [e]
      . exact ⟨by show (f i).1 + T i t <= _; omega, Yo _⟩
      . exact ⟨Yo _, hlt⟩
    intro s ws hS hs hto hw hk
    by_cases hk' : ws.length <= k
    . have := R.low t ht s ws hS hs hto hw hk'
      omega
    . obtain ⟨w, r, rfl⟩ : ∃ w r, ws = w :: r := by
        cases ws with
        | nil => simp at hk'
        | cons w r => exact ⟨w, r, rfl⟩
      have e1 := w9 r w;have e2 : lst w r = t := hto;rw [e2] at e1;generalize hp : (w :: r).dropLast = p at e1;rw [e1] at hw hk ⊢;have hwp : ∀ x ∈ p, x < n := fun x hx => hw x (ZZ _ hx)
      have hu := lst_lt hs hwp;have q1 := R.low (lst s p) hu s p hS hs rfl hwp (by simp at hk; exact hk);have q2 := hm (lst s p) hu;rw [w4];omega
theorem Rds.honest {T : Nat -> Nat -> Int} {b : Nat -> Int} {S : Nat -> Prop} {n k : Nat} {f : Nat -> Int × List Nat} (no : ∀ k, NoNeg T n k) (R : Rds T b S n k f) (hk : n <= k + 1) {s t : Nat} (hs : s < n) (ht : t < n) : (f t).1 <= (f s).1 + T s t := by
  obtain ⟨s0, ws, e1, hS, hs0, hto, hw, hv, hd, hk2⟩ := (R.rd s hs).ex
  by_cases hm : t ∈ s0 :: ws
  . have := back no ht hS hs0 hto hw hk2 (R.low t ht) hm
    omega
  . have hd2 : (s0 :: (ws ++ [t])).Nodup := by
      show ((s0 :: ws) ++ [t]).Nodup
      refine Yp.mpr ⟨hd, by simp, fun x hx y hy => ?_⟩;rw [ZC.mp hy]
      rintro rfl
      exact hm hx
    have hw2 : ∀ x ∈ ws ++ [t], x < n := fun x hx => by
      rcases ZH.mp hx with z | z
      . exact hw x z
      . rw [ZC.mp z]; exact ht
    have hl := few hd2 (fun x hx => by
      rcases ZK.mp hx with z | z
      . rw [z]; exact hs0
      . exact hw2 x z)
    have := R.low t ht s0 (ws ++ [t]) hS hs0 (xu _ _ _) hw2 (by simp at hl ⊢; omega);rw [w4, hto] at this;omega
theorem Rds.one {T : Nat -> Nat -> Int} {b : Nat -> Int} {n : Nat} {f : Nat -> Int × List Nat} (h : ∀ t, t < n -> f t = (b t, [t])) : Rds T b (fun _ => True) n 0 f := by
  refine ⟨fun t ht => ⟨t, [], by rw [h t ht], trivial, ht, rfl, (fun x hx => nomatch hx), by rw [h t ht]; show b t = b t + 0; omega, by simp, Zm _⟩, fun t ht s ws _ hs hto hw hk => ?_⟩
  cases ws with
  | nil =>
    have e : s = t := hto;subst e;rw [h s ht]
    show b s <= b s + 0
    omega
  | cons _ _ => simp at hk
theorem Rd.most {T : Nat -> Nat -> Int} {b : Nat -> Int} {S : Nat -> Prop} {n k t : Nat} {e : Int × List Nat} (R : Rd T b S n k t e) {p : Nat -> Int} (hp : ∀ s t, s < n -> t < n -> p t - p s <= T s t) (hb : ∀ s, s < n -> S s -> p s <= b s) : p t <= e.1 := by
  obtain ⟨s, ws, e1, hS, hs, hto, hw, hv, hd, hk⟩ := R.ex
  have gen : ∀ (ws : List Nat) (s : Nat), s < n -> (∀ x ∈ ws, x < n) -> p (lst s ws) <= p s + wk T s ws := by
    intro ws
    induction ws with
    | nil => intro s _ _; show p s <= p s + 0; omega
    | cons w r ih =>
      intro s hs hw;have hw' := hw w ZA;have h1 := ih w hw' fun x hx => hw x (Zv _ hx)
      have h2 := hp s w hs hw'
      show p (lst w r) <= p s + (T s w + wk T w r)
      omega
  have h1 := gen ws s hs hw;have h2 := hb s hs hS;rw [hto] at h1;omega
structure WsL (H : Hp) (xs : List V) (fs : List (Int × List Nat × Addr)) : Prop where
  len : xs.length = fs.length
  at' : ∀ (t : Nat) e, fs[t]? = some e -> ∃ p, xs[t]? = some (V.ref p) /\ H p = some (.tup [.int e.1, .ref e.2.2]) /\ H e.2.2 = some (.lst ((nI e.2.1).map V.int))
theorem WsL.mono {H H' : Hp} {xs : List V} {fs : List (Int × List Nat × Addr)} (S : Same H H') (h : WsL H xs fs) : WsL H' xs fs := ⟨h.len, fun t e he => by
  obtain ⟨p, a1, a2, a3⟩ := h.at' t e he
  exact ⟨p, a1, S _ _ a2, S _ _ a3⟩⟩
theorem WsL.nil {H : Hp} : WsL H [] [] := ⟨rfl, fun t e he => by simp at he⟩
theorem v0 {α : Type} {xs : List α} {x y : α} {t : Nat} (h : (xs ++ [x])[t]? = some y) : xs[t]? = some y \/ (t = xs.length /\ y = x) := by
  by_cases ht : t < xs.length
  . rw [Zg ht] at h
    exact .inl h
  . have ht' : xs.length <= t := ZD.mp ht
    rw [Zf ht'] at h
    have h0 : t - xs.length = 0 := by
      have := (Zc.mp h).1;simp at this; omega
    rw [h0] at h;simp at h;exact .inr ⟨by omega, h.symm⟩
theorem wv {α : Type} {xs : List α} {y : α} {t : Nat} (h : xs[t]? = some y) : t < xs.length := (Zc.mp h).1
theorem jt {α : Type} {xs : List α} {x d : α} {t : Nat} (h : xs[t]? = some x) : xs.getD t d = x := by rw [Zk, h]; rfl
theorem vd {α : Type} {xs : List α} {t : Nat} (h : t < xs.length) : ∃ y, xs[t]? = some y := ⟨xs[t], by simp [h]⟩
theorem WsL.snoc {H H' : Hp} {xs : List V} {fs : List (Int × List Nat × Addr)} {p l : Addr} {i : Int} {ws : List Nat} (h : WsL H xs fs) (S : Same H H') (hp : H' p = some (.tup [.int i, .ref l])) (hl : H' l = some (.lst ((nI ws).map V.int))) : WsL H' (xs ++ [.ref p]) (fs ++ [(i, ws, l)]) := by
  refine ⟨by simp [h.len], fun t e he => ?_⟩
  rcases v0 he with z | ⟨z, rfl⟩
  . obtain ⟨q, a1, a2, a3⟩ := h.at' t e z
    exact ⟨q, by rw [Zg (wv a1)]; exact a1, S _ _ a2, S _ _ a3⟩
  . refine ⟨p, ?_, hp, hl⟩
    rw [z, Zf (by rw [h.len]; exact Zm _), h.len];simp
def Dis (fs : List (Int × List Nat × Addr)) : Prop := ∀ (t u : Nat) e d, fs[t]? = some e -> fs[u]? = some d -> e.2.2 = d.2.2 -> t = u
theorem Dis.nil : Dis [] := fun t u e d he => by simp at he
theorem Dis.snoc {H : Hp} {xs : List V} {fs : List (Int × List Nat × Addr)} {l : Addr} {i : Int} {ws : List Nat} (h : Dis fs) (w : WsL H xs fs) (hl : H l = none) : Dis (fs ++ [(i, ws, l)]) := by
  have old : ∀ (t : Nat) e, fs[t]? = some e -> e.2.2 ≠ l := fun t e he z => by
    obtain ⟨p, _, _, a3⟩ := w.at' t e he;rw [z, hl] at a3;cases a3
  intro t u e d he hd ee
  rcases v0 he with z | ⟨z, rfl⟩ <;> rcases v0 hd with z' | ⟨z', rfl⟩
  . exact h t u e d z z' ee
  . exact absurd ee (old t e z)
  . exact absurd ee.symm (old u d z')
  . rw [z, z']
def zdv (fs : List (Int × List Nat × Addr)) : Prop := ∀ (t : Nat) e, fs[t]? = some e -> ∃ a ws, e.2.1 = a :: ws /\ j3 a ws = t /\ ws.length <= 100
structure zee (T : Nat -> Nat -> Int) (H : Hp) (fs gs : List (Int × List Nat × Addr)) (n : Nat) : Prop where
  len : gs.length = n
  dis : Dis gs
  new : ∀ (t : Nat) e, gs[t]? = some e -> H e.2.2 = none
  min : ∀ (t : Nat) e', gs[t]? = some e' -> ∃ i e, fs[i]? = some e /\ (∀ u d, fs[u]? = some d -> e.1 + T i t <= d.1 + T u t) /\ e'.1 = e.1 + T i t /\ e'.2.1 = e.2.1 ++ [t]
def ag (K : Fg) : Sp := fun vs H Q _ => ∃ (g r : Addr) (rows : List (List Int)) (xs : List V) (fs : List (Int × List Nat × Addr)) (n t : Nat), vs = [.ref g, .ref r, .int t] /\ Gd K H g rows n /\ H r = some (.lst xs) /\ WsL H xs fs /\ fs.length = n /\ zdv fs /\ t < n /\
  ∀ H' p l i e, Same H H' -> H l = none -> fs[i]? = some e -> (∀ u d, fs[u]? = some d -> e.1 + z7 rows i t <= d.1 + z7 rows u t) -> H' p = some (.tup [.int (e.1 + z7 rows i t), .ref l]) -> H' l = some (.lst ((nI (e.2.1 ++ [t])).map V.int)) -> Q (.ref p) H'
def zcs (K : Fg) : Sp := fun vs H Q _ => ∃ (g r : Addr) (rows : List (List Int)) (xs : List V) (fs : List (Int × List Nat × Addr)) (n : Nat), vs = [.ref g, .ref r] /\ Gd K H g rows n /\ H r = some (.lst xs) /\ WsL H xs fs /\ fs.length = n /\ zdv fs /\
  ∀ H' r' ys gs, Same H H' -> H' r' = some (.lst ys) -> WsL H' ys gs -> zee (z7 rows) H fs gs n -> Q (.ref r') H'
def bt : Sp := fun vs H Q _ => ∃ (p q : Addr) (i j : Int) (l m : V), vs = [.ref p, .ref q] /\ H p = some (.tup [.int i, l]) /\ H q = some (.tup [.int j, m]) /\ (j < i -> Q (.ref q) H) /\ (i <= j -> Q (.ref p) H)
section
variable {P : Program} {w : World} {K : Fg} {mg : Str -> Option Value} {base : Heap}
theorem zc8 (B : Bt mg) (vx : FnAt P w K mg base "turn" 1 ["grid", "s", "t"] (uj K)) (xf : FnAt P w K mg base "total_of" 1 ["walk"] om) (D : zi K mg "least_to" tf ["grid", "walks", "t"]) : FnAt P w K mg base "least_to" 3 ["grid", "walks", "t"] (ag K) := by
  refine FnAt.of D sc_least_to (fun vs H Q E h => ?_) (fun f cdv A outer s H vs Q E hr h => ?_)
  . obtain ⟨g, r, rows, xs, fs, n, t, rfl, _⟩ := h
    rfl
  . obtain ⟨g, r, rows, xs, fs, n, t, rfl, G, hr1, W, hlen, hend, ht, q⟩ := h
    have n8 := G.n8;have hxl := W.len;refine ⟨_, (@zj _ _ _ _ _ (vh (i := 3) ["total", "words"] ["grid", "walks", "t", "longer"] sc_least_to.nd rfl rfl rfl (@yg _ _ _ _ (pv 1)) (fun _ => (qt rfl (y2 (zp (i := 0) (show (["total", "words", "grid", "walks", "t", "longer"] : List Str).Nodup by decide +kernel) rfl (Or.inl rfl)) (y2 (zp (i := 1) (show (["total", "words", "grid", "walks", "t", "longer"] : List Str).Nodup by decide +kernel) rfl (Or.inl rfl)) (@u5 _))))) (fun _ => (@yc _)) (fun _ => (@y7 _ _ _ _ _ (za (@zm _ _ _ _ _ _ _ _ yp (pv 0) (zk vx (hr.mono (by decide)) rfl (za (pv 2) (za (@zt _ _ _ _ _ _ _ z0 (pv 1) (@fc _ _ _ _ _ _ jg (@ze _ _ _ _)) (fun _ _ => rfl)) (za (pv 4) (@zb _)))))) (za (@zm _ _ _ _ _ _ _ _ bx (pv 1) (@xm _ _ _ _ (za (pv 4) (@zb _)))) (@zb _))))) rfl (by decide +kernel) rfl rfl rfl) (@zh _ _ _ (@zn _ _ _ _ (zb5 xf (hr.mono (by decide)) rfl rfl B.min rfl (za (pv 3) (@zb _)))))), ?_⟩;rw [show start ["grid", "walks", "t", "longer"] [V.ref g, V.ref r, V.int t] = [some (V.ref g), some (V.ref r), some (V.int t), none] from rfl];simp only [zc, zd, ↓reduceIte];refine ⟨⟨_, .of hr1⟩, fun d => ?_⟩;refine yo (xs := xs) (fun i ys H2 => Same H H2 /\ ∃ gs, WsL H2 ys gs /\ gs.length = i /\ ∀ (u : Nat) e', gs[u]? = some e' -> H e'.2.2 = none /\ ∃ e, fs[u]? = some e /\ e'.1 = e.1 + z7 rows u t /\ e'.2.1 = e.2.1 ++ [t]) ⟨Same.refl _, [], WsL.nil, rfl, fun u e he => by simp at he⟩ ?_ ?_ ?_
    . rintro i ys H2 hi ⟨S, gs, W2, hl, _⟩
      exact ⟨by rw [W2.len, hl]; exact Zd hi (Zd (show xs.length <= 8 by omega) (by decide)), S.seq (.of hr1)⟩
    . rintro i x ys H2 hx ⟨S, gs, W2, hl, hy⟩
      have hi : i < n := by have := wv hx; omega
      obtain ⟨e, he⟩ := vd (xs := fs) (t := i) (by omega);obtain ⟨p, a1, a2, a3⟩ := W.at' i e he;rw [hx] at a1;cases a1;obtain ⟨s0, ws, e1, e2, e3⟩ := hend i e he;rw [e1] at a3;have hp2 := S _ _ a2;have hl2 := S _ _ a3;simp only [zc, zd, ↓reduceIte];refine ⟨_, .of hp2, rfl, ?_⟩;simp only [zc, zd, ↓reduceIte];refine ⟨_, .of hl2, _, zcv s0 ws, ?_⟩;rw [e2];refine u6 (G.mono S) hi ht ?_;simp only [zc, zd, ↓reduceIte];refine ⟨by show 1 <= sizeLine; decide, fun b hb => ?_⟩;have S1 : Same H2 (upd H2 b (.lst [V.int t])) := Same.upd (Same.refl _) hb;refine ⟨_, S1 _ _ hl2, _, zg, ?_, fun c hc => ⟨by show 2 <= sizeLine; decide, fun z hz => ?_⟩⟩
      . simp only [nI, Za, ZM, Ym]
        exact Zd (show ws.length + 1 + 1 <= 102 by omega) (by decide)
      . have S2 : Same (upd H2 b (.lst [V.int t])) (upd (upd H2 b (.lst [V.int t])) c (.lst ((nI (s0 :: ws)).map V.int ++ [V.int t]))) := Same.upd (Same.refl _) hc
        have hc2 : upd (upd H2 b (.lst [V.int t])) c (.lst ((nI (s0 :: ws)).map V.int ++ [V.int t])) c = some (.lst ((nI (e.2.1 ++ [t])).map V.int)) := by rw [zg, zcx, e1]
        have hcH : H c = none := (S.trans S1).free hc;have S3 := Same.upd (o := .tup [V.int (e.1 + z7 rows i t), V.ref c]) (Same.refl (upd (upd H2 b (.lst [V.int t])) c (.lst ((nI (s0 :: ws)).map V.int ++ [V.int t])))) hz;have SS := S1.trans (S2.trans S3);refine ⟨S.trans SS, gs ++ [(e.1 + z7 rows i t, e.2.1 ++ [t], c)], W2.snoc SS zg (S3 _ _ hc2), by simp [hl], fun u e' hu => ?_⟩
        rcases v0 hu with y | ⟨y, rfl⟩
        . exact hy u e' y
        . rw [y, hl]
          exact ⟨hcH, e, he, rfl, rfl⟩
    . rintro ys H2 ⟨S, gs, W2, hl, hy⟩ lo hlo
      have S1 : Same H2 (upd H2 lo (.lst ys)) := Same.upd (Same.refl _) hlo;have hyl := W2.len;refine ⟨ys, .of zg, by omega, fun u => (gs.getD u (0, [], 0)).1, fun i x hx => ?_, fun i x hx hm => ?_⟩
      . obtain ⟨e', he'⟩ := vd (xs := gs) (t := i) (by have := wv hx; omega)
        obtain ⟨p, a1, a2, a3⟩ := W2.at' i e' he';rw [hx] at a1;cases a1;refine ⟨p, _, _, rfl, S1 _ _ a2, ?_, rfl⟩
        show V.int e'.1 = V.int (gs.getD i (0, [], 0)).1
        rw [jt he']
      . obtain ⟨e', he'⟩ := vd (xs := gs) (t := i) (by have := wv hx; omega)
        obtain ⟨p, a1, a2, a3⟩ := W2.at' i e' he';rw [hx] at a1;cases a1;obtain ⟨h0, e, b1, b2, b3⟩ := hy i e' he';rw [b2] at a2;rw [b3] at a3;refine q _ p e'.2.2 i e (S.trans S1) h0 b1 (fun u d hu => ?_) (S1 _ _ a2) (S1 _ _ a3);obtain ⟨d', hd'⟩ := vd (xs := gs) (t := u) (by have := wv hu; omega);obtain ⟨_, d2, c1, c2, c3⟩ := hy u d' hd';rw [hu] at c1;cases c1;have z := (hm u (by have := wv hu; omega)).1;have z' : (gs.getD i (0, [], 0)).1 <= (gs.getD u (0, [], 0)).1 := z;rw [jt he', jt hd'] at z';omega
theorem zat (B : Bt mg) (sf : FnAt P w K mg base "least_to" 3 ["grid", "walks", "t"] (ag K)) (D : zi K mg "lengthened" vz ["grid", "walks"]) : FnAt P w K mg base "lengthened" 4 ["grid", "walks"] (zcs K) := by
  refine FnAt.of D k9 (fun vs H Q E h => ?_) (fun f cdv A outer s H vs Q E hr h => ?_)
  . obtain ⟨g, r, rows, xs, fs, n, rfl, _⟩ := h
    rfl
  . obtain ⟨g, r, rows, xs, fs, n, rfl, G, hr1, W, hlen, hend, q⟩ := h
    have n8 := G.n8;refine ⟨_, (@zh _ _ _ (@zn _ _ _ _ (yk ["t"] ["grid", "walks"] rfl (yl rfl B.range (za (zo zq rfl B.len ya (za (pv 0) (@zb _))) (@zb _))) (fun _ => (zp (i := 0) (show (["t", "grid", "walks"] : List Str).Nodup by decide +kernel) rfl (Or.inl rfl))) (fun _ => (@yc _)) (fun _ => (zk sf (hr.mono (by decide)) rfl (za (pv 1) (za (pv 2) (za (pv 0) (@zb _)))))) rfl (by decide +kernel) rfl rfl))), ?_⟩;rw [show start ["grid", "walks"] [V.ref g, V.ref r] = [some (V.ref g), some (V.ref r)] from rfl];simp only [zc, zd, ↓reduceIte];obtain ⟨as, h1, h2⟩ := G.ex;refine ⟨_, .inl h1.1, ?_⟩;rw [Za, h2];refine ⟨by omega, by omega, fun d => ?_⟩;rw [Zw];refine xg (fun i ys H2 => Same H H2 /\ ∃ gs, WsL H2 ys gs /\ zee (z7 rows) H fs gs i) ⟨Same.refl _, [], WsL.nil, rfl, Dis.nil, fun t e he => by simp at he, fun t e he => by simp at he⟩ ?_ ?_ ?_
    . rintro i ys H' hi ⟨S, gs, W2, L⟩
      rw [W2.len, L.len];exact Zd hi (Zd n8 (by decide))
    . rintro i ys H' hi ⟨S, gs, W2, L⟩
      simp only [zc, zd, ↓reduceIte];refine ⟨g, r, rows, xs, fs, n, i, rfl, G.mono S, S _ _ hr1, W.mono S, hlen, hend, hi, fun H2 p l j e S2 hl hj hm hp hl2 => ?_⟩;refine ⟨S.trans S2, gs ++ [(e.1 + z7 rows j i, e.2.1 ++ [i], l)], W2.snoc S2 hp hl2, by simp [L.len], L.dis.snoc W2 hl, fun t e' he' => ?_, fun t e' he' => ?_⟩
      . rcases v0 he' with y | ⟨y, rfl⟩
        . exact L.new t e' y
        . exact S.free hl
      . rcases v0 he' with y | ⟨y, rfl⟩
        . exact L.min t e' y
        . rw [y, L.len]
          exact ⟨j, e, hj, hm, rfl, rfl⟩
    . rintro ys H' ⟨S, gs, W2, L⟩ l hl
      have S1 : Same H' (upd H' l (.lst ys)) := Same.upd (Same.refl _) hl;exact q _ l ys gs (S.trans S1) zg (W2.mono S1) L
theorem iw (xf : FnAt P w K mg base "total_of" 1 ["walk"] om) (D : zi K mg "lesser" k7 ["walk", "longer"]) : FnAt P w K mg base "lesser" 2 ["walk", "longer"] bt := by
  refine FnAt.of D ze8 (fun vs H Q E h => ?_) (fun f cdv A outer s H vs Q E hr h => ?_)
  . obtain ⟨p, q, i, j, l, m, rfl, _⟩ := h
    rfl
  . obtain ⟨p, q, i, j, l, m, rfl, hp, hq, q1, q2⟩ := h
    refine ⟨_, (@zh _ _ _ (@zn _ _ _ _ (@zgs _ _ _ _ _ _ _ _ (@yf _ _ _ _ _ _ _ _ jy (zk xf (hr.mono (by decide)) rfl (za (pv 1) (@zb _))) (zk xf (hr.mono (by decide)) rfl (za (pv 0) (@zb _))) (ye _)) (pv 1) (pv 0)))), ?_⟩;rw [show start ["walk", "longer"] [V.ref p, V.ref q] = [some (V.ref p), some (V.ref q)] from rfl];simp only [zc, zd, ↓reduceIte];refine ⟨q, j, m, rfl, hq, ?_⟩;simp only [zc, zd, ↓reduceIte];refine ⟨p, i, l, rfl, hp, ?_⟩;simp only [zc, zd, ↓reduceIte];exact ite2 (fun h => q1 (of_decide_eq_true h)) fun h => q2 (Int.not_lt.mp fun z => h (decide_eq_true z))
end
def fOf (fs : List (Int × List Nat × Addr)) (t : Nat) : Int × List Nat := ((fs.getD t (0, [], 0)).1, (fs.getD t (0, [], 0)).2.1)
theorem ve {fs : List (Int × List Nat × Addr)} {t : Nat} {e : Int × List Nat × Addr} (h : fs[t]? = some e) : fOf fs t = (e.1, e.2.1) := by unfold fOf; rw [jt h]
theorem Rds.endOk {T : Nat -> Nat -> Int} {b : Nat -> Int} {S : Nat -> Prop} {n k : Nat} {fs : List (Int × List Nat × Addr)} (R : Rds T b S n k (fOf fs)) (hl : fs.length = n) (hk : k <= 100) : zdv fs := fun t e he => by
  obtain ⟨s, ws, e1, hS, hs, hto, hw, hv, hd, hk2⟩ := (R.rd t (by have := wv he; omega)).ex;rw [ve he] at e1;exact ⟨s, ws, e1, by rw [<- zd6]; exact hto, by omega⟩
structure Told (T : Nat -> Nat -> Int) (b : Nat -> Int) (S : Nat -> Prop) (n k : Nat) (fs gs : List (Int × List Nat × Addr)) : Prop where
  len : gs.length = n
  dis : Dis gs
  rds : Rds T b S n k (fOf gs)
  le : ∀ t, t < n -> (fOf gs t).1 <= (fOf fs t).1
def NewOr (H : Hp) (fs gs : List (Int × List Nat × Addr)) : Prop := ∀ e ∈ gs, (∃ d ∈ fs, d.2.2 = e.2.2) \/ H e.2.2 = none
def zbw (K : Fg) : Sp := fun vs H Q _ => ∃ (g r : Addr) (rows : List (List Int)) (xs : List V) (fs : List (Int × List Nat × Addr)) (n k : Nat) (b : Nat -> Int) (S : Nat -> Prop), vs = [.ref g, .ref r] /\ Gd K H g rows n /\ 0 < n /\ (∀ k, NoNeg (z7 rows) n k) /\ H r = some (.lst xs) /\ WsL H xs fs /\
  fs.length = n /\ Dis fs /\ Rds (z7 rows) b S n k (fOf fs) /\ k <= 1 /\ ∀ H' r' ys gs, Same H H' -> H' r' = some (.lst ys) -> WsL H' ys gs -> Told (z7 rows) b S n (k + (n - 1)) fs gs -> NewOr H fs gs -> Q (.ref r') H'
def PvMix (H3 : Hp) (gs hs : List (Int × List Nat × Addr)) (i : Nat) (vs : List V) (H4 : Hp) : Prop := Same H3 H4 /\ ∃ ks, WsL H4 vs ks /\ ks.length = i /\ ∀ (t : Nat) e, ks[t]? = some e -> ∃ d e', gs[t]? = some d /\ hs[t]? = some e' /\ ((e'.1 < d.1 /\ e = e') \/ (d.1 <= e'.1 /\ e = d))
def zhm (H : Hp) (g : Addr) (T : Nat -> Nat -> Int) (b : Nat -> Int) (S : Nat -> Prop) (n k : Nat) (fs : List (Int × List Nat × Addr)) (i : Nat) (σ : L2.St) (H2 : Hp) : Prop := Same H H2 /\ ∃ r' ys gs v2, σ = [some (.ref g), some (.ref r'), v2] /\ H2 r' = some (.lst ys) /\ WsL H2 ys gs /\ Told T b S n (k + i) fs gs /\ NewOr H fs gs
section
variable {P : Program} {w : World} {K : Fg} {mg : Str -> Option Value} {base : Heap}
theorem qz (B : Bt mg) (vy : FnAt P w K mg base "lengthened" 4 ["grid", "walks"] (zcs K)) (iw : FnAt P w K mg base "lesser" 2 ["walk", "longer"] bt) (D : zi K mg "least_roads" up ["grid", "walks"]) : FnAt P w K mg base "least_roads" 5 ["grid", "walks"] (zbw K) := by
  refine FnAt.of D sc_least_roads (fun vs H Q E h => ?_) (fun f cdv A outer s H vs Q E hr h => ?_)
  . obtain ⟨g, r, rows, xs, fs, n, k, b, S, rfl, _⟩ := h
    rfl
  . obtain ⟨g, r, rows, xs, fs, n, k, b, Sd, rfl, G, hn, no, hr1, W, hlen, hdis, R, hk, q⟩ := h
    have n8 := G.n8;refine ⟨_, (@zj _ _ _ _ _ (yx PassesOwn.never rfl (qx rfl B.range (za (@ze _ _ _ _) (za (@zm _ _ _ _ _ _ _ _ yp (zo zq rfl B.len ya (za (pv 0) (@zb _))) (@ze _ _ _ _)) (@zb _)))) (zp (i := 2) sc_least_roads.nd rfl (Or.inl rfl)) (@zh _ _ _ (vh (i := 1) ["walk", "longer"] ["grid", "walks", "size"] sc_least_roads.nd rfl rfl rfl (pi_zip rfl B.zip (za (pv 1) (za (zk vy (hr.mono (by decide)) rfl (za (pv 0) (za (pv 1) (@zb _)))) (@zb _)))) (fun _ => (qt rfl (y2 (zp (i := 0) (show (["walk", "longer", "grid", "walks", "size"] : List Str).Nodup by decide +kernel) rfl (Or.inl rfl)) (y2 (zp (i := 1) (show (["walk", "longer", "grid", "walks", "size"] : List Str).Nodup by decide +kernel) rfl (Or.inl rfl)) (@u5 _))))) (fun _ => (@yc _)) (fun _ => (zk iw (hr.mono (by decide)) rfl (za (pv 0) (za (pv 1) (@zb _))))) rfl (by decide +kernel) rfl rfl rfl))) (@zh _ _ _ (@zn _ _ _ _ (pv 1)))), ?_⟩;rw [show start ["grid", "walks", "size"] [V.ref g, V.ref r] = [some (V.ref g), some (V.ref r), none] from rfl];simp only [zc, zd, ↓reduceIte];obtain ⟨as, h1, h2⟩ := G.ex;refine ⟨_, .inl h1.1, ?_⟩;rw [Za, h2];refine ⟨by omega, by omega, by omega, by omega, ?_⟩;rw [show ((n : Int) + 1 - 2).toNat = n - 1 by omega];refine xa (zhm H g (z7 rows) b Sd n k fs) ⟨Same.refl _, r, xs, fs, _, rfl, hr1, W, ⟨hlen, hdis, R, fun t ht => Yo _⟩, fun e he => .inl ⟨e, he, rfl⟩⟩ ?_ ?_
    . rintro i σ H2 hi ⟨S2, r', ys, gs, v2, rfl, hr2, W2, Td, Nw⟩
      have lg := Td.len;have ly := W2.len;have le := Td.le;simp only [zc, zd, ↓reduceIte];refine ⟨g, r', rows, ys, gs, n, rfl, G.mono S2, hr2, W2, lg, Td.rds.endOk lg (by omega), fun H3 r3 zs hs S3 hr3 W3 L => ?_⟩;have lh := L.len;have lz := W3.len;simp only [zc, zd, ↓reduceIte];refine ⟨⟨_, .of (S3 _ _ hr2)⟩, ⟨_, .of hr3⟩, fun d => ?_⟩;refine zgx (xs := ys) (zs := zs) (PvMix H3 gs hs) ⟨Same.refl _, [], WsL.nil, rfl, fun t e he => by simp at he⟩ ?_ ?_ ?_
      . rintro j vs H4 hj ⟨S4, ks, W4, lk, _⟩
        refine ⟨?_, (S3.trans S4).seq (.of hr2), S4.seq (.of hr3)⟩;rw [W4.len, lk];exact Zd hj (Zd (Nat.min_le_left _ _) (Zd (show ys.length <= 8 by omega) (by decide)))
      . rintro j x z vs H4 U hx hz hU ⟨S4, ks, W4, lk, hks⟩
        obtain ⟨d1, hd1⟩ := vd (xs := gs) (t := j) (by have := wv hx; omega);obtain ⟨e1, he1⟩ := vd (xs := hs) (t := j) (by have := wv hz; omega);obtain ⟨p, a1, a2, a3⟩ := W2.at' j d1 hd1;obtain ⟨p', b1, b2, b3⟩ := W3.at' j e1 he1;rw [hx] at a1;cases a1;rw [hz] at b1;cases b1;have SU : Same H4 (upd H4 U (.tup [V.ref p, V.ref p'])) := Same.upd (Same.refl _) hU;simp only [zc, zd, ↓reduceIte];refine ⟨_, .of zg, rfl, ?_⟩;simp only [zc, zd, ↓reduceIte];generalize upd H4 U (.tup [V.ref p, V.ref p']) = H5 at *;have S35 := S4.trans SU;have S25 := S3.trans S35;refine ⟨p, p', _, _, _, _, rfl, S25 _ _ a2, S35 _ _ b2, fun hlt => ?_, fun hle => ?_⟩
        . refine ⟨S35, ks ++ [e1], W4.snoc SU (S35 _ _ b2) (S35 _ _ b3), by simp [lk], fun t e he => ?_⟩
          rcases v0 he with y | ⟨y, rfl⟩
          . exact hks t e y
          . rw [y, lk]
            exact ⟨d1, _, hd1, he1, .inl ⟨hlt, rfl⟩⟩
        . refine ⟨S35, ks ++ [d1], W4.snoc SU (S25 _ _ a2) (S25 _ _ a3), by simp [lk], fun t e he => ?_⟩
          rcases v0 he with y | ⟨y, rfl⟩
          . exact hks t e y
          . rw [y, lk]
            exact ⟨_, e1, hd1, he1, .inr ⟨hle, rfl⟩⟩
      . rintro vs H4 ⟨S4, ks, W4, lk, hks⟩ l hl
        have lk' : ks.length = n := by rw [lk]; omega
        have S5 : Same H4 (upd H4 l (.lst vs)) := Same.upd (Same.refl _) hl;refine ⟨S2.trans (S3.trans (S4.trans S5)), l, vs, ks, _, rfl, zg, W4.mono S5, ⟨lk', ?_, ?_, fun t ht => ?_⟩, fun e he => ?_⟩
        . intro t u e d he hd ee
          obtain ⟨d1, e1, c1, c2, c3⟩ := hks t e he;obtain ⟨d2, e2, c4, c5, c6⟩ := hks u d hd
          rcases c3 with ⟨_, rfl⟩ | ⟨_, rfl⟩ <;> rcases c6 with ⟨_, rfl⟩ | ⟨_, rfl⟩
          . exact L.dis t u _ _ c2 c5 ee
          . obtain ⟨_, _, _, x3⟩ := W2.at' u _ c4
            rw [<- ee, L.new t _ c2] at x3;cases x3
          . obtain ⟨_, _, _, x3⟩ := W2.at' t _ c1
            rw [ee, L.new u _ c5] at x3;cases x3
          . exact Td.dis t u _ _ c1 c4 ee
        . refine Td.rds.step no fun t ht => ?_
          obtain ⟨e, he⟩ := vd (xs := ks) (t := t) (by omega);obtain ⟨d1, e1, c1, c2, c3⟩ := hks t e he;obtain ⟨i2, e2, x1, x2, x3, x4⟩ := L.min t e1 c2;refine ⟨i2, by have := wv x1; omega, fun u hu => ?_, ?_⟩
          . obtain ⟨d, hd⟩ := vd (xs := gs) (t := u) (by omega)
            rw [ve x1, ve hd];exact x2 u d hd
          . rw [ve x1, ve c1, ve he]
            rcases c3 with ⟨y, rfl⟩ | ⟨y, rfl⟩
            . left
              rw [x3] at y;exact ⟨y, by rw [x3, x4]⟩
            . right
              rw [x3] at y;exact ⟨y, rfl⟩
        . obtain ⟨e, he⟩ := vd (xs := ks) (t := t) (by omega)
          obtain ⟨d1, e1, c1, c2, c3⟩ := hks t e he;have z := le t ht;rw [ve c1] at z;rw [ve he];have z' : d1.1 <= (fOf fs t).1 := z
          show e.1 <= _
          rcases c3 with ⟨y, rfl⟩ | ⟨y, rfl⟩
          . omega
          . exact z'
        . obtain ⟨t, ht⟩ := Yb he
          obtain ⟨d1, e1, c1, c2, c3⟩ := hks t e ht
          rcases c3 with ⟨_, rfl⟩ | ⟨_, rfl⟩
          . exact .inr (S2.free (L.new t _ c2))
          . exact Nw _ (Zi c1)
    . rintro σ H2 ⟨S2, r', ys, gs, v2, rfl, hr2, W2, Td, Nw⟩
      simp only [zc, zd, ↓reduceIte];exact q H2 r' ys gs S2 hr2 W2 Td Nw
end
structure ToldAt (H : Hp) (v : V) (gs : List (Int × List Nat × Addr)) : Prop where
  ex : ∃ tp pl rl, v = V.ref tp /\ H tp = some (.tup [.ref pl, .ref rl]) /\ H pl = some (.lst ((gs.map fun e => e.1).map V.int)) /\ H rl = some (.lst (gs.map fun e => V.ref e.2.2))
  road : ∀ e ∈ gs, H e.2.2 = some (.lst ((nI e.2.1).map V.int))
theorem ToldAt.mono {H H' : Hp} {v : V} {gs : List (Int × List Nat × Addr)} (S : Same H H') (h : ToldAt H v gs) : ToldAt H' v gs := by
  obtain ⟨tp, pl, rl, e, h1, h2, h3⟩ := h.ex;exact ⟨⟨tp, pl, rl, e, S _ _ h1, S _ _ h2, S _ _ h3⟩, fun e he => S _ _ (h.road e he)⟩
def au (a : Ad) (K : Fg) : Sp := fun vs H Q E => ∃ (g : Addr) (rows : List (List Int)) (n : Nat), vs = [.ref g] /\ Gd K H g rows n /\ 0 < n /\ (∀ H', Same H H' -> (∀ j, j <= n -> NoNeg (z7 rows) n j) -> Q .non H') /\
  ∀ H' c, Same H H' -> RingA (z7 rows) n c -> E (.ref a.NoPays) none H'
def PvTot (H3 : Hp) (gs : List (Int × List Nat × Addr)) (i : Nat) (ys : List V) (H4 : Hp) : Prop := H4 = H3 /\ ys = ((gs.take i).map fun e => e.1).map V.int
def PvWds (H3 : Hp) (gs : List (Int × List Nat × Addr)) (i : Nat) (ys : List V) (H4 : Hp) : Prop := H4 = H3 /\ ys = (gs.take i).map fun e => V.ref e.2.2
section
variable {P : Program} {w : World} {K : Fg} {mg : Str -> Option Value} {base : Heap} {a : Ad}
theorem q9 (B : Bt mg) (C : Ct K mg a) (jb : FnAt P w K mg base "ring" 5 ["grid"] (zai K)) (D : zi K mg "refuse_ring" ux ["grid"]) : FnAtX P w K mg base "refuse_ring" 6 ["grid"] (au a K) := by
  refine FnAtX.of D e6 (fun vs H Q E h => ?_) (fun f cdv A outer s H vs Q E hr h => ?_)
  . obtain ⟨g, rows, n, rfl, _⟩ := h
    rfl
  . obtain ⟨g, rows, n, rfl, G, hn, q0, q1⟩ := h
    refine ⟨_, (@zh _ _ _ (@yj _ _ _ _ _ _ _ _ (@yf _ _ _ _ _ _ _ _ el (zk jb (hr.mono (by decide)) rfl (za (pv 0) (@zb _))) (@qq _ _ _) (ye _)) (@zh _ _ _ (iq rfl C.q_NoPays.toErr rfl C.m_NoPays (m9 rfl) (za (@u7 _ _ _ _) (@zb _)))) (@yb _))), ?_⟩;rw [show start ["grid"] [V.ref g] = [some (V.ref g)] from rfl];simp only [zc, zd, ↓reduceIte];refine ⟨g, rows, n, rfl, G, hn, fun H1 S1 no => ?_, fun H1 l c S1 hl R => ?_⟩
    . simp only [zc, zd, ↓reduceIte]
      exact ite2 (fun z => absurd z (by simp)) fun _ => q0 H1 S1 no
    . simp only [zc, zd, ↓reduceIte]
      exact ite2 (fun _ => ⟨by decide, q1 H1 c S1 R⟩) fun z => (z (by simp)).elim
end
structure Great (rows : List (List Int)) (n : Nat) (gs : List (Int × List Nat × Addr)) : Prop where
  len : gs.length = n
  dis : Dis gs
  no : ∀ k, NoNeg (z7 rows) n k
  rds : Rds (z7 rows) (fun t => gcA rows t t) (fun _ => True) n (n - 1) (fOf gs)
  le : ∀ t, t < n -> (fOf gs t).1 <= gcA rows t t
def ToldN (H H' : Hp) (v : V) (gs : List (Int × List Nat × Addr)) : Prop := ∀ tp pl rl, v = .ref tp -> H' tp = some (.tup [.ref pl, .ref rl]) -> H pl = none /\ H rl = none /\ pl ≠ rl /\ ∀ e ∈ gs, H e.2.2 = none /\ e.2.2 ≠ pl /\ e.2.2 ≠ rl
def PvOneN (H : Hp) (b : Nat -> Int) (i : Nat) (ys : List V) (H4 : Hp) : Prop := Same H H4 /\ ∃ gs, WsL H4 ys gs /\ gs.length = i /\ Dis gs /\ (∀ t, t < i -> fOf gs t = (b t, [t])) /\ ∀ e ∈ gs, H e.2.2 = none
def zc0 (a : Ad) (K : Fg) : Sp := fun vs H Q E => ∃ (g : Addr) (rows : List (List Int)) (n : Nat), vs = [.ref g] /\ Gd K H g rows n /\ 0 < n /\ (∀ H' v gs, Same H H' -> ToldAt H' v gs -> ToldN H H' v gs -> Great rows n gs -> Q v H') /\
  ∀ H' c, Same H H' -> RingA (z7 rows) n c -> E (.ref a.NoPays) none H'
section
variable {P : Program} {w : World} {K : Fg} {mg : Str -> Option Value} {base : Heap} {a : Ad}
theorem kz (B : Bt mg) (C : Ct K mg a) (q9 : FnAtX P w K mg base "refuse_ring" 6 ["grid"] (au a K)) (qz : FnAt P w K mg base "least_roads" 5 ["grid", "walks"] (zbw K)) (xf : FnAt P w K mg base "total_of" 1 ["walk"] om) (sx : FnAt P w K mg base "words_of" 1 ["walk"] ja)
    (D : zi K mg "greatest" px ["grid"]) : FnAtX P w K mg base "greatest" 7 ["grid"] (zc0 a K) := by
  refine FnAtX.of D sc_greatest (fun vs H Q E h => ?_) (fun f cdv A outer s H vs Q E hr h => ?_)
  . obtain ⟨g, rows, n, rfl, _⟩ := h
    rfl
  . obtain ⟨g, rows, n, rfl, G, hn, q0, q1⟩ := h
    have n8 := G.n8;refine ⟨_, (@zj _ _ _ _ _ (wx (zgi q9 (hr.mono (by decide)) (zea rfl) rfl (za (pv 0) (@zb _)))) (@zj _ _ _ _ _ (PS.nox (zz (i := 1) sc_greatest.nd rfl (Or.inl rfl) (zk qz (hr.mono (by decide)) rfl (za (pv 0) (za (yk ["t"] ["grid", "walks"] rfl (yl rfl B.range (za (zo zq rfl B.len ya (za (pv 0) (@zb _))) (@zb _))) (fun _ => (zp (i := 0) (show (["t", "grid", "walks"] : List Str).Nodup by decide +kernel) rfl (Or.inl rfl))) (fun _ => (@yc _)) (fun _ => (@y7 _ _ _ _ _ (@za _ _ _ _ _ (@zt _ _ _ _ _ _ _ z0 (@zt _ _ _ _ _ _ _ z0 (pv 1) (pv 0) (fun _ _ => rfl)) (pv 0) (fun _ _ => rfl)) (@za _ _ _ _ _ (@xm _ _ _ _ (@za _ _ _ _ _ (pv 0) (@zb _) (z8 nofun))) (@zb _) (z8 nofun)) (z8 nofun)))) rfl (by decide +kernel) rfl rfl) (@zb _)))))) (@zh _ _ _ (PS.nox (@zn _ _ _ _ (@y7 _ _ _ _ _ (za (yk ["walk"] ["grid", "walks"] rfl (@yg _ _ _ _ (pv 1)) (fun _ => (zp (i := 0) (show (["walk", "grid", "walks"] : List Str).Nodup by decide +kernel) rfl (Or.inl rfl))) (fun _ => (@yc _)) (fun _ => (zk xf (hr.mono (by decide)) rfl (za (pv 0) (@zb _)))) rfl (by decide +kernel) rfl rfl) (za (yk ["walk"] ["grid", "walks"] rfl (@yg _ _ _ _ (pv 1)) (fun _ => (zp (i := 0) (show (["walk", "grid", "walks"] : List Str).Nodup by decide +kernel) rfl (Or.inl rfl))) (fun _ => (@yc _)) (fun _ => (zk sx (hr.mono (by decide)) rfl (za (pv 0) (@zb _)))) rfl (by decide +kernel) rfl rfl) (@zb _))))))))), ?_⟩;rw [show start ["grid", "walks"] [V.ref g] = [some (V.ref g), none] from rfl];simp only [zc, zd, ↓reduceIte];refine ⟨g, rows, n, rfl, G, hn, fun H1 S1 no => ?_, fun H1 c S1 R => q1 H1 c S1 R⟩;have no' := NoNeg.all no;simp only [zc, zd, ↓reduceIte];obtain ⟨as, h1, h2⟩ := (G.mono S1).ex;refine ⟨_, .inl h1.1, ?_⟩;rw [Za, h2];refine ⟨by omega, by omega, fun d => ?_⟩;rw [Zw];refine xg (PvOneN H1 fun t => gcA rows t t) ⟨Same.refl _, [], WsL.nil, rfl, Dis.nil, (fun t ht => by omega), fun e he => nomatch he⟩ ?_ ?_ ?_
    . rintro i ys H2 hi ⟨S2, gs, W2, lg, _⟩
      rw [W2.len, lg];exact Zd hi (Zd n8 (by decide))
    . rintro i ys H2 hi ⟨S2, gs, W2, lg, hd, hf, hnw⟩
      obtain ⟨ns', e1, l1⟩ := G.sq i hi;have G2 := GridL.mono S2 h1;obtain ⟨r, k1, k2⟩ := on G2 e1;simp only [zc, zd, ↓reduceIte];refine ⟨_, G2.1, _, k1, r, rfl, _, k2, _, w5 (rc e1 (by omega)), by show 1 <= sizeLine; decide, fun l hl => ⟨by show 2 <= sizeLine; decide, fun p hp => ?_⟩⟩;have S3 : Same H2 (upd H2 l (.lst [V.int i])) := Same.upd (Same.refl _) hl;have hl3 : upd H2 l (.lst [V.int i]) l = some (.lst ((nI [i]).map V.int)) := zg;generalize upd H2 l (.lst [V.int i]) = H3 at *;have S4 : Same H3 (upd H3 p (.tup [V.int (gcA rows i i), V.ref l])) := Same.upd (Same.refl _) hp;have hp4 : upd H3 p (.tup [V.int (gcA rows i i), V.ref l]) p = some (.tup [V.int (gcA rows i i), V.ref l]) := zg;generalize upd H3 p (.tup [V.int (gcA rows i i), V.ref l]) = H4 at *;refine ⟨S2.trans (S3.trans S4), gs ++ [(gcA rows i i, [i], l)], W2.snoc (S3.trans S4) hp4 (S4 _ _ hl3), by simp [lg], hd.snoc W2 hl, fun t ht => ?_, fun e he => ?_⟩
      rotate_left
      . rcases ZH.mp he with he | he
        . exact hnw e he
        . rw [ZC.mp he]
          exact S2.free hl
      by_cases e : t < i
      . rw [<- hf t e]
        unfold fOf;rw [Zk, Zg (by omega), <- Zk]
      . have : t = i := by omega
        subst this;rw [ve (e := (gcA rows t t, [t], l)) (by rw [Zf (by omega), lg]; simp)]
    . rintro ys H2 ⟨S2, gs, W2, lg, hd, hf, hnw⟩ l hl
      have S3 : Same H2 (upd H2 l (.lst ys)) := Same.upd (Same.refl _) hl;have hl3 : upd H2 l (.lst ys) l = some (.lst ys) := zg;generalize upd H2 l (.lst ys) = H3 at *;have S13 := S1.trans (S2.trans S3);refine ⟨g, l, rows, ys, gs, n, 0, _, _, rfl, G.mono S13, hn, no', hl3, W2.mono S3, lg, hd, Rds.one hf, by omega, fun H4 r4 zs hs S4 hr4 W4 Td Nw => ?_⟩
      have hnew : ∀ e ∈ hs, H e.2.2 = none := fun e he => by
        rcases Nw e he with ⟨d, hd, e1⟩ | h
        . rw [<- e1]; exact S1.free (hnw d hd)
        . exact S13.free h
      have lz := W4.len;have lh := Td.len;simp only [zc, zd, ↓reduceIte];refine ⟨⟨_, .of hr4⟩, fun d2 => ?_⟩;refine yo (xs := zs) (PvTot H4 hs) ⟨rfl, rfl⟩ ?_ ?_ ?_
      . rintro i ys5 H5 hi ⟨rfl, rfl⟩
        refine ⟨?_, .of hr4⟩;rw [Za, Za, Zj];exact Zd (ZB _ _) (Zd (show hs.length <= 8 by omega) (by decide))
      . rintro i x ys5 H5 hx ⟨rfl, rfl⟩
        obtain ⟨e, he⟩ := vd (xs := hs) (t := i) (by have := wv hx; omega);obtain ⟨p, a1, a2, a3⟩ := W4.at' i e he;rw [hx] at a1;cases a1;simp only [zc, zd, ↓reduceIte];refine ⟨p, _, _, rfl, a2, rfl, ?_⟩;rw [Zq, he];simp
      . rintro ys5 H5 ⟨rfl, rfl⟩ pl hpl
        rw [lz, Zt];have S6 : Same H5 (upd H5 pl (.lst ((hs.map fun e => e.1).map V.int))) := Same.upd (Same.refl _) hpl;have hp6 : upd H5 pl (.lst ((hs.map fun e => e.1).map V.int)) pl = some (.lst ((hs.map fun e => e.1).map V.int)) := zg;generalize upd H5 pl (.lst ((hs.map fun e => e.1).map V.int)) = H6 at *;refine ⟨⟨_, S6.seq (.of hr4)⟩, fun d3 => ?_⟩;refine yo (xs := zs) (PvWds H6 hs) ⟨rfl, rfl⟩ ?_ ?_ ?_
        . rintro i ys5 H5 hi ⟨rfl, rfl⟩
          refine ⟨?_, S6.seq (.of hr4)⟩;rw [Za, Zj];exact Zd (ZB _ _) (Zd (show hs.length <= 8 by omega) (by decide))
        . rintro i x ys5 H5 hx ⟨rfl, rfl⟩
          obtain ⟨e, he⟩ := vd (xs := hs) (t := i) (by have := wv hx; omega);obtain ⟨p, a1, a2, a3⟩ := W4.at' i e he;rw [hx] at a1;cases a1;simp only [zc, zd, ↓reduceIte];refine ⟨p, _, _, rfl, S6 _ _ a2, rfl, ?_⟩;rw [Zq, he];simp
        . rintro ys7 H7 ⟨rfl, rfl⟩ rl hrl
          rw [lz, Zt];have S7 : Same H7 (upd H7 rl (.lst (hs.map fun e => V.ref e.2.2))) := Same.upd (Same.refl _) hrl;have hr7 : upd H7 rl (.lst (hs.map fun e => V.ref e.2.2)) rl = some (.lst (hs.map fun e => V.ref e.2.2)) := zg;generalize upd H7 rl (.lst (hs.map fun e => V.ref e.2.2)) = H8 at *;refine ⟨by show 2 <= sizeLine; decide, fun tp htp => ?_⟩;have S9 : Same H8 (upd H8 tp (.tup [V.ref pl, V.ref rl])) := Same.upd (Same.refl _) htp;have ht9 : upd H8 tp (.tup [V.ref pl, V.ref rl]) tp = some (.tup [V.ref pl, V.ref rl]) := zg;generalize upd H8 tp (.tup [V.ref pl, V.ref rl]) = H9 at *;have S79 := S7.trans S9;refine q0 H9 _ hs (S13.trans (S4.trans (S6.trans S79))) ⟨⟨tp, pl, rl, rfl, ht9, S79 _ _ hp6, S9 _ _ hr7⟩, fun e he => ?_⟩ (fun tp' pl' rl' e1 e2 => ?_) ⟨lh, Td.dis, no', by have := Td.rds; rw [Nat.zero_add] at this; exact this, fun t ht => ?_⟩
          . obtain ⟨t, ht, rfl⟩ := Zy he
            obtain ⟨p, a1, a2, a3⟩ := W4.at' t hs[t] (by simp [ht]);exact (S6.trans S79) _ _ a3
          . cases e1
            rw [ht9] at e2;cases e2;refine ⟨(S13.trans S4).free hpl, (S13.trans (S4.trans S6)).free hrl, fun z => ?_, fun e he => ⟨hnew e he, fun z => ?_, fun z => ?_⟩⟩
            . rw [<- z, hp6] at hrl
              cases hrl
            . obtain ⟨t, ht, rfl⟩ := Zy he
              obtain ⟨p, a1, a2, a3⟩ := W4.at' t hs[t] (by simp [ht]);rw [z, hpl] at a3;cases a3
            . obtain ⟨t, ht, rfl⟩ := Zy he
              obtain ⟨p, a1, a2, a3⟩ := W4.at' t hs[t] (by simp [ht]);rw [z] at a3;rw [S6 _ _ a3] at hrl;cases hrl
          . have := Td.le t ht
            rw [hf t ht] at this;exact this
end
def Hon (rows : List (List Int)) (ps : List Int) (n : Nat) : Prop := ∀ t s : Nat, t < n -> s < n -> gcA rows t s - gcA rows t t <= ps.getD s 0 - ps.getD t 0
theorem zb0 {gs : List (Int × List Nat × Addr)} {t : Nat} (h : t < gs.length) : (gs.map fun e => e.1).getD t 0 = (fOf gs t).1 := by
  obtain ⟨e, he⟩ := vd h;rw [ve he, Zk, Ze, he];rfl
theorem Great.hon {rows : List (List Int)} {n : Nat} {gs : List (Int × List Nat × Addr)} (g : Great rows n gs) : Hon rows (gs.map fun e => e.1) n := fun t s ht hs => by
  have lg := g.len;rw [zb0 (by omega), zb0 (by omega)];have := g.rds.honest g.no (by omega) hs ht;unfold z7 at this;omega
theorem Great.most {rows : List (List Int)} {n : Nat} {gs : List (Int × List Nat × Addr)} (g : Great rows n gs) {ds : List Int} {m : Int} (h : Hon rows ds n) (hm : ∀ t, t < n -> ds.getD t 0 - gcA rows t t <= m) {t : Nat} (ht : t < n) : ds.getD t 0 - m <= (fOf gs t).1 := by
  refine (g.rds.rd t ht).most (p := fun t => ds.getD t 0 - m) (fun s t hs ht => ?_) (fun s hs _ => ?_)
  . have := h t s ht hs
    show ds.getD t 0 - m - (ds.getD s 0 - m) <= z7 rows s t
    unfold z7;omega
  . have := hm s hs
    show ds.getD s 0 - m <= gcA rows s s
    omega
def dq : Sp := fun vs H Q _ => ∃ (c : Addr) (r : List Str) (k : Nat) (z : Str), vs = [.ref c, .int k, .str z] /\ H c = some (.tup (r.map V.str)) /\ k <= r.length /\ r.length <= 8 /\ ∀ H' p, Same H H' -> H' p = some (.tup ((insP r k z).map V.str)) -> Q (.ref p) H'
section
variable {P : Program} {w : World} {K : Fg} {mg : Str -> Option Value} {base : Heap} {a : Ad}
theorem kg (B : Bt mg) (D : zi K mg "row_with" pp ["others", "k", "word"]) : FnAt P w K mg base "row_with" 1 ["others", "k", "word"] dq := by
  refine FnAt.of D za6 (fun vs H Q E h => ?_) (fun f cdv A outer s H vs Q E hr h => ?_)
  . obtain ⟨c, r, k, z, rfl, _⟩ := h
    rfl
  . obtain ⟨c, r, k, z, rfl, hc, hk, h8, q⟩ := h
    refine ⟨_, (@zh _ _ _ (@zn _ _ _ _ (@zm _ _ _ _ _ _ _ _ rb (@zm _ _ _ _ _ _ _ _ rb (@uz _ _ _ _ _ _ _ _ _ _ ju (pv 0) (@rf _) (@u0 _ _ _ (pv 1))) (@y7 _ _ _ _ _ (za (pv 2) (@zb _)))) (@uz _ _ _ _ _ _ _ _ _ _ ju (pv 0) (@u0 _ _ _ (pv 1)) (@rf _))))), ?_⟩;rw [show start ["others", "k", "word"] [V.ref c, V.int k, V.str z] = [some (V.ref c), some (V.int k), some (V.str z)] from rfl];simp only [zc, zd, ↓reduceIte];refine ⟨_, hc, fun H1 p1 S1 h1 => ⟨by decide, fun p2 hp2 => ?_⟩⟩;rw [dc (by rw [Za]; exact hk)] at h1;have S2 : Same H1 (upd H1 p2 (.tup [V.str z])) := Same.upd (Same.refl _) hp2;refine ⟨_, S2 _ _ h1, _, zg, ?_, fun H3 p3 S3 h3 => ?_⟩
    . rw [Zj, Za]
      exact Zd (show _ <= 9 by simp; omega) (by decide)
    refine ⟨_, (S1.trans (S2.trans S3)) _ _ hc, fun H4 p4 S4 h4 => ?_⟩;rw [jl (by rw [Za]; exact hk)] at h4;refine ⟨_, S4 _ _ h3, _, h4, ?_, fun H5 p5 S5 h5 => ?_⟩
    . simp only [Zo, Zj, Yh, Za, ZM, Ym]
      exact Zd (show _ <= 17 by omega) (by decide)
    . refine q H5 p5 (S1.trans (S2.trans (S3.trans (S4.trans S5)))) ?_
      rw [h5, insP];simp
end
def putP (f : List Str -> Str) (outs o : List Str) (k : Nat) (us : List Str) : List Nat := us.map fun u => outs.idxOf (f (insP o k u))
def colP (d : HD) (ps : List Nat) : List (List Int) := d.worths.map fun r => ps.map fun p => r.getD p 0
def bi (f : List Str -> Str) (rs : List (List Str)) (outs o : List Str) (k : Nat) (d : HD) : Prop := k <= o.length /\ o.length <= 8 /\ ∀ u ∈ d.words, insP o k u ∈ rs /\ f (insP o k u) ∈ outs
def zcn : Sp := fun vs H Q _ => ∃ (p o h t c : Addr) (hs : List Addr) (outs : List Str) (ds : List HD) (f : List Str -> Str) (rs : List (List Str)) (ot : List Str) (k : Nat) (d : HD), vs = [.ref p, .ref t, .int k, .ref c] /\ HHouse H p o h hs outs ds /\ GoodHouse outs ds /\ H t = some (.dT (xx f rs)) /\ ds[k]? = some d /\ H c = some (.tup (ot.map V.str)) /\ bi f rs outs ot k d /\
  ∀ H' l, Same H H' -> H' l = some (.lst ((nI (putP f outs ot k d.words)).map V.int)) -> Q (.ref l) H'
def i8 : Sp := fun vs H Q _ => ∃ (t l : Addr) (ns : List Int) (ps : List Nat), vs = [.ref t, .ref l] /\ H t = some (.tup (ns.map V.int)) /\ H l = some (.lst ((nI ps).map V.int)) /\ (∀ p ∈ ps, p < ns.length) /\ ps.length <= 8 /\ ∀ H' l', Same H H' -> H' l' = some (.lst ((ps.map fun p => ns.getD p 0).map V.int)) -> Q (.ref l') H'
def za0 : Sp := fun vs H Q _ => ∃ (p o h t c : Addr) (hs : List Addr) (outs : List Str) (ds : List HD) (f : List Str -> Str) (rs : List (List Str)) (ot : List Str) (k : Nat) (d : HD), vs = [.ref p, .ref t, .int k, .ref c] /\ HHouse H p o h hs outs ds /\ GoodHouse outs ds /\ H t = some (.dT (xx f rs)) /\ ds[k]? = some d /\ H c = some (.tup (ot.map V.str)) /\ bi f rs outs ot k d /\
  ∀ H' l ls, Same H H' -> H' l = some (.lst (ls.map V.ref)) -> IntsAt H' ls (colP d (putP f outs ot k d.words)) -> Q (.ref l) H'
def PvTu (H : Hp) (o : List Str) (k : Nat) (us : List Str) (i : Nat) (ys : List V) (H' : Hp) : Prop := Same H H' /\ ∃ as : List Addr, ys = as.map V.ref /\ TupsAt H' as ((us.take i).map (insP o k))
def PvPp (H : Hp) (f : List Str -> Str) (outs o : List Str) (k : Nat) (us : List Str) (i : Nat) (ys : List V) (H' : Hp) : Prop := H' = H /\ ys = (nI (putP f outs o k (us.take i))).map V.int
def PvWa (H : Hp) (ns : List Int) (ps : List Nat) (i : Nat) (ys : List V) (H' : Hp) : Prop := H' = H /\ ys = ((ps.take i).map fun p => ns.getD p 0).map V.int
def PvCl (H : Hp) (d : HD) (ps : List Nat) (i : Nat) (ys : List V) (H' : Hp) : Prop := Same H H' /\ ∃ ls : List Addr, ys = ls.map V.ref /\ IntsAt H' ls ((colP d ps).take i)
section
variable {P : Program} {w : World} {K : Fg} {mg : Str -> Option Value} {base : Heap} {a : Ad}
theorem rj (B : Bt mg) (kg : FnAt P w K mg base "row_with" 1 ["others", "k", "word"] dq) (yu : FnAt P w K mg base "words_of_hand" 1 ["hand"] (uv K 1)) (f_hands_of : FnAt P w K mg base "hands_of" 1 ["house"] (uv K 1)) (f_outcomes_of : FnAt P w K mg base "outcomes_of" 1 ["house"] (uv K 0)) (D : zi K mg "dealt_places" v8 ["house", "table", "k", "others"]) : FnAt P w K mg base "dealt_places" 2 ["house", "table", "k", "others"] zcn := by
  refine FnAt.of D sc_dealt_places (fun vs H Q E h => ?_) (fun f cdv A outer s H vs Q E hr h => ?_)
  . obtain ⟨p, o, h, t, c, hs, outs, ds, f, rs, ot, k, d, rfl, _⟩ := h
    rfl
  . obtain ⟨p, o, h, t, c, hs, outs, ds, f, rs, ot, k, d, rfl, hH, G, ht, hd, hc, ⟨hk, h8, hD⟩, q⟩ := h
    refine ⟨_, (@zj _ _ _ _ _ (vh (i := 4) ["word"] ["house", "table", "k", "others", "rows"] sc_dealt_places.nd rfl rfl rfl (@gv _ _ _ _ (zk yu (hr.mono (by decide)) rfl (za (@zt _ _ _ _ _ _ _ yh (zk f_hands_of (hr.mono (by decide)) rfl (za (pv 0) (@zb _))) (pv 2) (fun _ _ => rfl)) (@zb _)))) (fun _ => (zp (i := 0) (show (["word", "house", "table", "k", "others", "rows"] : List Str).Nodup by decide +kernel) rfl (Or.inl rfl))) (fun _ => (@yc _)) (fun _ => (zk kg (hr.mono (by decide)) rfl (za (pv 4) (za (pv 3) (za (pv 0) (@zb _)))))) rfl (by decide +kernel) rfl rfl rfl) (@zh _ _ _ (@zn _ _ _ _ (yk ["row"] ["house", "table", "k", "others", "rows"] rfl (@yg _ _ _ _ (pv 4)) (fun _ => (zp (i := 0) (show (["row", "house", "table", "k", "others", "rows"] : List Str).Nodup by decide +kernel) rfl (Or.inl rfl))) (fun _ => (@yc _)) (fun _ => (pe_bmT PySem.F.plainAttrs_tuple PySem.F.slot_tuple_index PySem.F.type_tuple_index zec (zk f_outcomes_of (hr.mono (by decide)) rfl (za (pv 1) (@zb _))) (za (@df _ _ _ _ _ _ (hu10 hr) (pv 2) (pv 0) (fun _ _ => rfl)) (@zb _)))) rfl (by decide +kernel) rfl rfl)))), ?_⟩;rw [show start ["house", "table", "k", "others", "rows"] [V.ref p, V.ref t, V.int k, V.ref c] = [some (V.ref p), some (V.ref t), some (V.int k), some (V.ref c), none] from rfl];simp only [zc, zd, ↓reduceIte];have hkl : k < ds.length := (Zc.mp hd).1;obtain ⟨x, hx⟩ : ∃ x, hs[k]? = some x := ⟨hs[k]'(by rw [hH.hand.1]; exact hkl), by simp⟩;obtain ⟨wd, g, gs, hA⟩ := hH.hand.2 k x d hx hd;refine ⟨p, _, _, rfl, .of hH.tup, rfl, h, rfl, _, .of hH.hands, _, zw (v := V.ref x) (by rw [Ze, hx]; rfl), ?_⟩;refine ⟨x, _, _, rfl, .of hA.tup, rfl, wd, rfl, ⟨_, .of hA.words⟩, fun dd => ?_⟩;have w8 := (G.words1 d (Zi hd)).2;refine ik (xs := d.words.map V.str) (PvTu H ot k d.words) ⟨Same.refl _, [], rfl, rfl, fun i a r e => by simp at e⟩ ?_ ?_ ?_
    . rintro i ys H2 hi ⟨S2, as, rfl, T2⟩
      refine ⟨?_, .of (S2 _ _ hA.words)⟩;rw [Za, T2.len, Za, Zj];exact Zd (ZB _ _) (Zd w8 (by decide))
    . rintro i y ys H2 hy ⟨S2, as, rfl, T2⟩
      obtain ⟨u, hu, rfl⟩ := yv hy;simp only [zc, zd, ↓reduceIte];refine ⟨c, ot, k, u, rfl, S2 _ _ hc, hk, h8, fun H3 p3 S3 h3 => ?_⟩;refine ⟨S2.trans S3, as ++ [p3], by simp, ?_⟩;rw [Zq, hu, Zn];exact (T2.mono S3).append (TupsAt.one h3)
    . rintro ys H2 ⟨S2, as, rfl, T2⟩ l hl
      rw [Za, Zt] at T2;have S3 : Same H2 (upd H2 l (.lst (as.map V.ref))) := Same.upd (Same.refl _) hl;have h3 : upd H2 l (.lst (as.map V.ref)) l = some (.lst (as.map V.ref)) := zg;generalize upd H2 l (.lst (as.map V.ref)) = H3 at *;have T3 := T2.mono S3;have S13 := S2.trans S3;refine ⟨⟨_, .of h3⟩, fun dd => ?_⟩;refine yo (xs := as.map V.ref) (PvPp H3 f outs ot k d.words) ⟨rfl, rfl⟩ ?_ ?_ ?_
      . rintro i ys H4 hi ⟨rfl, rfl⟩
        refine ⟨?_, .of h3⟩;rw [Za, nI, Za, putP, Za, Zj];exact Zd (ZB _ _) (Zd w8 (by decide))
      . rintro i y ys H4 hy ⟨rfl, rfl⟩
        obtain ⟨b, hb, rfl⟩ := re hy;have hi : i < d.words.length := by have := (Zc.mp hb).1; have := T3.len; rw [Za] at this; omega
        have hu : d.words[i]? = some d.words[i] := Zb hi;have hrow := T3.at' i b _ hb (by rw [Ze, hu]; rfl);obtain ⟨z1, z2⟩ := hD _ (Zl hi);generalize d.words[i] = u at *;have hval : valV (xx f rs) (yw (insP ot k u)) = some (V.str (f (insP ot k u))) := zdb z1
        have gt : DGet H4 t (.ref b) (some (V.str (f (insP ot k u)))) := by
          have := DGet.t (k := yw (insP ot k u)) (S13 _ _ ht) (b := b) (by rw [v5]; exact hrow)
          rwa [hval] at this
        simp only [zc, zd, ↓reduceIte];have hH4 := hH.mono S13;refine ⟨p, _, _, rfl, .of hH4.tup, rfl, ⟨o, rfl, _, .of hH4.outs⟩, _, gt, o, rfl, _, .of hH4.outs, _, dw z2, rfl, ?_⟩;rw [Zq, hu];simp [putP, nI]
      . rintro ys H4 ⟨rfl, rfl⟩ l2 hl2
        rw [Za, T3.len, Za, Zt];exact q _ l2 (S13.trans (Same.upd (Same.refl _) hl2)) zg
theorem lc (D : zi K mg "worths_at" qk ["worths", "places"]) : FnAt P w K mg base "worths_at" 1 ["worths", "places"] i8 := by
  refine FnAt.of D zah (fun vs H Q E h => ?_) (fun f cdv A outer s H vs Q E hr h => ?_)
  . obtain ⟨t, l, ns, ps, rfl, _⟩ := h
    rfl
  . obtain ⟨t, l, ns, ps, rfl, ht, hl, hp, h8, q⟩ := h
    refine ⟨_, (@zh _ _ _ (@zn _ _ _ _ (yk ["place"] ["worths", "places"] rfl (@yg _ _ _ _ (pv 1)) (fun _ => (zp (i := 0) (show (["place", "worths", "places"] : List Str).Nodup by decide +kernel) rfl (Or.inl rfl))) (fun _ => (@yc _)) (fun _ => (@zt _ _ _ _ _ _ _ yh (pv 1) (pv 0) (fun _ _ => rfl))) rfl (by decide +kernel) rfl rfl))), ?_⟩;rw [show start ["worths", "places"] [V.ref t, V.ref l] = [some (V.ref t), some (V.ref l)] from rfl];simp only [zc, zd, ↓reduceIte];refine ⟨⟨_, .of hl⟩, fun dd => ?_⟩;refine yo (xs := (nI ps).map V.int) (PvWa H ns ps) ⟨rfl, rfl⟩ ?_ ?_ ?_
    . rintro i ys H4 hi ⟨rfl, rfl⟩
      refine ⟨?_, .of hl⟩;rw [Za, Za, Zj];exact Zd (ZB _ _) (Zd h8 (by decide))
    . rintro i y ys H4 hy ⟨rfl, rfl⟩
      obtain ⟨z, hz, rfl⟩ := ix hy;rw [nI, Ze] at hz
      obtain ⟨pl, hpl⟩ : ∃ y, ps[i]? = some y := by
        cases e : ps[i]? with
        | none => rw [e] at hz; cases hz
        | some y => exact ⟨y, rfl⟩
      rw [hpl] at hz;cases hz;have lt := hp pl (Zi hpl);have ex : ns[pl]? = some (ns.getD pl 0) := by rw [Zk, Zb lt]; rfl
      simp only [zc, zd, ↓reduceIte];refine ⟨_, .of ht, _, w5 ex, rfl, ?_⟩;rw [Zq, hpl, Zn, Zn];rfl
    . rintro ys H4 ⟨rfl, rfl⟩ l2 hl2
      rw [Za, nI, Za, Zt];exact q _ l2 (Same.upd (Same.refl _) hl2) zg
theorem jj (B : Bt mg) (rj : FnAt P w K mg base "dealt_places" 2 ["house", "table", "k", "others"] zcn) (lc : FnAt P w K mg base "worths_at" 1 ["worths", "places"] i8) (xh : FnAt P w K mg base "worths_of_hand" 1 ["hand"] (uv K 2)) (f_hands_of : FnAt P w K mg base "hands_of" 1 ["house"] (uv K 1)) (D : zi K mg "grid_of" mh ["house", "table", "k", "others"]) : FnAt P w K mg base "grid_of" 3 ["house", "table", "k", "others"] za0 := by
  refine FnAt.of D sc_grid_of (fun vs H Q E h => ?_) (fun f cdv A outer s H vs Q E hr h => ?_)
  . obtain ⟨p, o, h, t, c, hs, outs, ds, f, rs, ot, k, d, rfl, _⟩ := h
    rfl
  . obtain ⟨p, o, h, t, c, hs, outs, ds, f, rs, ot, k, d, rfl, hH, G, ht, hd, hc, hD, q⟩ := h
    refine ⟨_, (@zj _ _ _ _ _ (zz (i := 4) sc_grid_of.nd rfl (Or.inr rfl) (zk rj (hr.mono (by decide)) rfl (za (pv 0) (za (pv 1) (za (pv 2) (za (pv 3) (@zb _))))))) (@zh _ _ _ (@zn _ _ _ _ (yk ["worths"] ["house", "table", "k", "others", "places"] rfl (@gv _ _ _ _ (zk xh (hr.mono (by decide)) rfl (za (@zt _ _ _ _ _ _ _ yh (zk f_hands_of (hr.mono (by decide)) rfl (za (pv 0) (@zb _))) (pv 2) (fun _ _ => rfl)) (@zb _)))) (fun _ => (zp (i := 0) (show (["worths", "house", "table", "k", "others", "places"] : List Str).Nodup by decide +kernel) rfl (Or.inl rfl))) (fun _ => (@yc _)) (fun _ => (zk lc (hr.mono (by decide)) rfl (za (pv 0) (za (pv 5) (@zb _))))) rfl (by decide +kernel) rfl rfl)))), ?_⟩;rw [show start ["house", "table", "k", "others", "places"] [V.ref p, V.ref t, V.int k, V.ref c] = [some (V.ref p), some (V.ref t), some (V.int k), some (V.ref c), none] from rfl];simp only [zc, zd, ↓reduceIte];refine ⟨p, o, h, t, c, hs, outs, ds, f, rs, ot, k, d, rfl, hH, G, ht, hd, hc, hD, fun H1 l S1 hl => ?_⟩;have hkl : k < ds.length := (Zc.mp hd).1;obtain ⟨x, hx⟩ : ∃ x, hs[k]? = some x := ⟨hs[k]'(by rw [hH.hand.1]; exact hkl), by simp⟩;have hH1 := hH.mono S1;obtain ⟨wd, g, gs, hA⟩ := hH1.hand.2 k x d hx hd;have hmd := Zi hd;have w8 := (G.words1 d hmd).2;have ro := G.rows d hmd;simp only [zc, zd, ↓reduceIte];refine ⟨p, _, _, rfl, .of hH1.tup, rfl, h, rfl, _, .of hH1.hands, _, zw (v := V.ref x) (by rw [Ze, hx]; rfl), ?_⟩;refine ⟨x, _, _, rfl, .of hA.tup, rfl, g, rfl, ⟨_, .of hA.grid⟩, fun dd => ?_⟩
    have hps : ∀ p ∈ putP f outs ot k d.words, p < outs.length := fun p hp => by
      obtain ⟨u, hu, rfl⟩ := Zp.mp hp;exact Zz.mpr (hD.2.2 u hu).2
    have lps : (putP f outs ot k d.words).length = d.words.length := by rw [putP, Za]
    generalize putP f outs ot k d.words = ps at *;refine ik (xs := gs.map V.ref) (PvCl H1 d ps) ⟨Same.refl _, [], rfl, rfl, fun i a r e => by simp at e⟩ ?_ ?_ ?_
    . rintro i ys H2 hi ⟨S2, as, rfl, T2⟩
      refine ⟨?_, .of (S2 _ _ hA.grid)⟩;rw [Za, T2.len, Zj, colP, Za];exact Zd (ZB _ _) (Zd (show _ <= 8 by omega) (by decide))
    . rintro i y ys H2 hy ⟨S2, as, rfl, T2⟩
      obtain ⟨b, hb, rfl⟩ := re hy;have hi : i < d.worths.length := by have := (Zc.mp hb).1; have := hA.len; omega
      have er : d.worths[i]? = some d.worths[i] := Zb hi;have hrow := S2 _ _ (hA.row i b _ hb er);have hcl := G.cols d hmd _ (Zl hi);simp only [zc, zd, ↓reduceIte];refine ⟨b, l, d.worths[i], ps, rfl, hrow, S2 _ _ hl, fun p hp => by rw [hcl]; exact hps p hp, by omega, fun H3 l3 S3 h3 => ?_⟩;refine ⟨S2.trans S3, as ++ [l3], by simp, ?_⟩;rw [Zq, colP, Ze, er];exact (T2.mono S3).snoc h3
    . rintro ys H2 ⟨S2, as, rfl, T2⟩ l2 hl2
      rw [Za, hA.len, ZG (by rw [colP, Za]; exact Zm _)] at T2;have S3 : Same H2 (upd H2 l2 (.lst (as.map V.ref))) := Same.upd (Same.refl _) hl2;exact q _ l2 as (S1.trans (S2.trans S3)) zg (T2.mono S3)
end
def dueK (ds : List HD) (m : Nat) : List (Nat × List Str) := (List.range m).flatMap fun k => (z9 ((ds.eraseIdx k).map HD.words)).map fun o => (k, o)
theorem u3 (ds : List HD) (m : Nat) : dueK ds (m + 1) = dueK ds m ++ (z9 ((ds.eraseIdx m).map HD.words)).map fun o => (m, o) := by
  rw [dueK, Yn, List.flatMap_append];simp [dueK]
def yy (f : List Str -> Str) (outs : List Str) (ds : List HD) (x : Nat × List Str) : List (List Int) := match ds[x.1]? with
  | some d => colP d (putP f outs x.2 x.1 d.words)
  | none => []
def xj (ds : List HD) (x : Nat × List Str) : Nat := match ds[x.1]? with
  | some d => d.words.length
  | none => 0
theorem kd {f : List Str -> Str} {outs : List Str} {ds : List HD} {k : Nat} {o : List Str} {d : HD} (h : ds[k]? = some d) : yy f outs ds (k, o) = colP d (putP f outs o k d.words) := by rw [yy]; simp only [h]
theorem jd {ds : List HD} {k : Nat} {o : List Str} {d : HD} (h : ds[k]? = some d) : xj ds (k, o) = d.words.length := by rw [xj]; simp only [h]
def iy (f : List Str -> Str) (rs : List (List Str)) (outs : List Str) (ds : List HD) : Prop := ∀ (k : Nat) (d : HD) (o : List Str), ds[k]? = some d -> o ∈ z9 ((ds.eraseIdx k).map HD.words) -> bi f rs outs o k d
structure GridsAt (H : Hp) (as : List Addr) (xs : List (Nat × List Str)) (F : Nat × List Str -> List (List Int)) : Prop where
  len : as.length = xs.length
  at' : ∀ (i : Nat) (a : Addr) (x : Nat × List Str), as[i]? = some a -> xs[i]? = some x -> ∃ c g ls, H a = some (.tup [.int x.1, .ref c, .ref g]) /\ H c = some (.tup (x.2.map V.str)) /\ H g = some (.lst (ls.map V.ref)) /\ IntsAt H ls (F x)
theorem GridsAt.mono {H H' : Hp} {as : List Addr} {xs : List (Nat × List Str)} {F : Nat × List Str -> List (List Int)} (S : Same H H') (h : GridsAt H as xs F) : GridsAt H' as xs F := ⟨h.len, fun i a x e1 e2 => by
  obtain ⟨c, g, ls, h1, h2, h3, h4⟩ := h.at' i a x e1 e2
  exact ⟨c, g, ls, S _ _ h1, S _ _ h2, S _ _ h3, h4.mono S⟩⟩
theorem app_at {α β : Type} {as bs : List α} {xs ys : List β} {i : Nat} {a : α} {x : β} (hl : as.length = xs.length) (e1 : (as ++ bs)[i]? = some a) (e2 : (xs ++ ys)[i]? = some x) : (as[i]? = some a /\ xs[i]? = some x) \/ (bs[i - as.length]? = some a /\ ys[i - as.length]? = some x) := by
  by_cases hi : i < as.length
  . rw [Zg hi] at e1
    rw [Zg (by omega)] at e2;exact .inl ⟨e1, e2⟩
  . rw [Zf (by omega)] at e1
    rw [Zf (by omega)] at e2;rw [<- hl] at e2;exact .inr ⟨e1, e2⟩
theorem GridsAt.append {H : Hp} {as bs : List Addr} {xs ys : List (Nat × List Str)} {F : Nat × List Str -> List (List Int)} (h : GridsAt H as xs F) (h' : GridsAt H bs ys F) : GridsAt H (as ++ bs) (xs ++ ys) F := ⟨by simp [h.len, h'.len], fun i a x e1 e2 => by
  rcases app_at h.len e1 e2 with ⟨z1, z2⟩ | ⟨z1, z2⟩
  . exact h.at' i a x z1 z2
  . exact h'.at' _ a x z1 z2⟩
theorem GridsAt.one {H : Hp} {a c g : Addr} {ls : List Addr} {x : Nat × List Str} {F : Nat × List Str -> List (List Int)} (h1 : H a = some (.tup [.int x.1, .ref c, .ref g])) (h2 : H c = some (.tup (x.2.map V.str))) (h3 : H g = some (.lst (ls.map V.ref))) (h4 : IntsAt H ls (F x)) : GridsAt H [a] [x] F := ⟨rfl, fun i b y e1 e2 => by
  have : i = 0 := by have := (Zc.mp e1).1; simp at this; omega
  subst this;cases e1;cases e2
  exact ⟨c, g, ls, h1, h2, h3, h4⟩⟩
def ca : Sp := fun vs H Q _ => ∃ (p o h t : Addr) (hs : List Addr) (outs : List Str) (ds : List HD) (f : List Str -> Str) (rs : List (List Str)), vs = [.ref p, .ref t] /\ HHouse H p o h hs outs ds /\ GoodHouse outs ds /\ H t = some (.dT (xx f rs)) /\ iy f rs outs ds /\
  ∀ H' l as, Same H H' -> H l = none -> H' l = some (.lst (as.map V.ref)) -> GridsAt H' as (dueK ds ds.length) (yy f outs ds) -> Q (.ref l) H'
def jm (rows : List (List Int)) (n : Nat) : Prop := ∀ j, NoNeg (z7 rows) n j
structure PD where
  c : Addr
  pl : Addr
  rl : Addr
  gs : List (Int × List Nat × Addr)
def PD.adr (d : PD) : List Addr := d.pl :: d.rl :: d.gs.map fun e => e.2.2
structure PapN (H : Hp) (a : Addr) (x : Nat × List Str) (rows : List (List Int)) (n : Nat) (d : PD) : Prop where
  tup : H a = some (.tup [.int x.1, .ref d.c, .ref d.pl, .ref d.rl])
  oth : H d.c = some (.tup (x.2.map V.str))
  pays : H d.pl = some (.lst ((d.gs.map fun e => e.1).map V.int))
  roads : H d.rl = some (.lst (d.gs.map fun e => V.ref e.2.2))
  road : ∀ e ∈ d.gs, H e.2.2 = some (.lst ((nI e.2.1).map V.int))
  great : Great rows n d.gs
  apart : d.pl ≠ d.rl /\ ∀ e ∈ d.gs, e.2.2 ≠ d.pl /\ e.2.2 ≠ d.rl
theorem PapN.mono {H H' : Hp} {a : Addr} {x : Nat × List Str} {rows : List (List Int)} {n : Nat} {d : PD} (S : Same H H') (h : PapN H a x rows n d) : PapN H' a x rows n d := ⟨S _ _ h.tup, S _ _ h.oth, S _ _ h.pays, S _ _ h.roads, fun e he => S _ _ (h.road e he), h.great, h.apart⟩
theorem PapN.past {H : Hp} {a y : Addr} {x : Nat × List Str} {rows : List (List Int)} {n : Nat} {d : PD} {zs : List V} {o : HO} (hy : H y = some (.lst zs)) (hn : y ∉ d.adr) (h : PapN H a x rows n d) : PapN (upd H y o) a x rows n d := by
  have t : ∀ {b : Addr} {us : List V}, H b = some (.tup us) -> upd H y o b = some (.tup us) := fun {b us} hb => by
    rw [zx (fun e => by rw [e, hy] at hb; cases hb)];exact hb
  have l : ∀ {b : Addr} {u : HO}, b ∈ d.adr -> H b = some u -> upd H y o b = some u := fun {b u} hb h => by
    have e : b ≠ y := fun e => hn (e ▸ hb)
    rw [zx e];exact h
  exact ⟨t h.tup, t h.oth, l (by simp [PD.adr]) h.pays, l (by simp [PD.adr]) h.roads, fun e he => l (by simp only [PD.adr, ZK]; exact .inr (.inr (Zp.mpr ⟨e, he, rfl⟩))) (h.road e he), h.great, h.apart⟩
theorem PapN.there {H : Hp} {a : Addr} {x : Nat × List Str} {rows : List (List Int)} {n : Nat} {d : PD} (h : PapN H a x rows n d) : ∀ y ∈ d.adr, ∃ zs, H y = some (.lst zs) := fun y hy => by
  simp only [PD.adr, ZK] at hy
  rcases hy with rfl | rfl | hy
  . exact ⟨_, h.pays⟩
  . exact ⟨_, h.roads⟩
  . obtain ⟨e, he, rfl⟩ := Zp.mp hy
    exact ⟨_, h.road e he⟩
def zc1 (K : Fg) : Sp := fun vs H Q _ => ∃ (x : Nat × List Str) (c g : Addr) (rows : List (List Int)) (n : Nat), vs = [.int x.1, .ref c, .ref g] /\ H c = some (.tup (x.2.map V.str)) /\ Gd K H g rows n /\ 0 < n /\ jm rows n /\ ∀ H' a d, Same H H' -> PapN H' a x rows n d -> (∀ y ∈ d.adr, H y = none) -> Q (.ref a) H'
structure PapersN (H0 H : Hp) (as : List Addr) (xs : List (Nat × List Str)) (F : Nat × List Str -> List (List Int)) (W : Nat × List Str -> Nat) (ps : List PD) : Prop where
  len : as.length = xs.length
  lenp : ps.length = xs.length
  at' : ∀ (i : Nat) (a : Addr) (x : Nat × List Str) (d : PD), as[i]? = some a -> xs[i]? = some x -> ps[i]? = some d -> PapN H a x (F x) (W x) d
  new : ∀ d ∈ ps, ∀ y ∈ d.adr, H0 y = none
  disj : ∀ (i j : Nat) (d e : PD), i < j -> ps[i]? = some d -> ps[j]? = some e -> ∀ y ∈ d.adr, y ∉ e.adr
section
variable {H0 H H' : Hp} {as : List Addr} {xs : List (Nat × List Str)} {F : Nat × List Str -> List (List Int)} {W : Nat × List Str -> Nat} {ps : List PD}
theorem PapersN.mono (S : Same H H') (h : PapersN H0 H as xs F W ps) : PapersN H0 H' as xs F W ps := ⟨h.len, h.lenp, fun i a x d e1 e2 e3 => (h.at' i a x d e1 e2 e3).mono S, h.new, h.disj⟩
theorem PapersN.all (h : PapersN H0 H as xs F W ps) {d : PD} (hd : d ∈ ps) : ∀ y ∈ d.adr, ∃ zs, H y = some (.lst zs) := by
  obtain ⟨i, hi⟩ := Yb hd;have li := (Zc.mp hi).1;have := h.len;have := h.lenp;exact (h.at' i as[i] xs[i] d (Zb _) (Zb _) hi).there
theorem PapersN.past {l : Addr} {zs : List V} {o : HO} (hl : H l = some (.lst zs)) (h0 : ∃ u, H0 l = some u) (h : PapersN H0 H as xs F W ps) : PapersN H0 (upd H l o) as xs F W ps := ⟨h.len, h.lenp, fun i a x d e1 e2 e3 => (h.at' i a x d e1 e2 e3).past hl (fun hy => by
    obtain ⟨u, hu⟩ := h0;rw [h.new d (Zi e3) l hy] at hu
    cases hu), h.new, h.disj⟩
theorem PapersN.tup (h : PapersN H0 H as xs F W ps) : ∀ a ∈ as, ∃ us, H a = some (.tup us) := fun a ha => by
  obtain ⟨i, hi⟩ := Yb ha;have li := (Zc.mp hi).1;have := h.len;have := h.lenp;exact ⟨_, (h.at' i a xs[i] ps[i] hi (Zb _) (Zb _)).tup⟩
theorem PapersN.snoc {H1 : Hp} {a : Addr} {x : Nat × List Str} {d : PD} (h : PapersN H0 H as xs F W ps) (S0 : ∀ y, H y = none -> H0 y = none) (S : Same H H1) (p : PapN H1 a x (F x) (W x) d) (n : ∀ y ∈ d.adr, H y = none) : PapersN H0 H1 (as ++ [a]) (xs ++ [x]) F W (ps ++ [d]) := by
  have l1 := h.len;have l2 := h.lenp;refine ⟨by simp [l1], by simp [l2], fun i b y e e1 e2 e3 => ?_, fun e he y hy => ?_, fun i j e e' hij e1 e2 y hy => ?_⟩
  . by_cases hi : i < xs.length
    . rw [Zg (by omega)] at e1 e2 e3
      exact (h.at' i b y e e1 e2 e3).mono S
    . have hx : i = xs.length := by
        have := (Zc.mp e2).1;rw [Zo, Yg] at this;omega
      subst hx;rw [Zf (by omega)] at e1 e2 e3;rw [l1, YT] at e1;rw [l2, YT] at e3;rw [YT] at e2;cases e1;cases e2;cases e3;exact p
  . rcases ZH.mp he with z | z
    . exact h.new e z y hy
    . rw [ZC.mp z] at hy
      exact S0 _ (n y hy)
  . have lj := (Zc.mp e2).1
    rw [Zo, Yg] at lj;rw [Zg (by omega)] at e1
    by_cases hj : j < ps.length
    . rw [Zg hj] at e2
      exact h.disj i j e e' hij e1 e2 y hy
    . rw [Zf (by omega), show j - ps.length = 0 by omega] at e2
      cases e2;intro hy';obtain ⟨zs, hz⟩ := h.all (Zi e1) y hy;rw [n y hy'] at hz;cases hz
end
def d5 (K : Fg) : Sp := fun vs H Q _ => ∃ (p o h t : Addr) (hs : List Addr) (outs : List Str) (ds : List HD) (f : List Str -> Str) (rs : List (List Str)), vs = [.ref p, .ref t] /\ HHouse H p o h hs outs ds /\ GoodHouse outs ds /\ H t = some (.dT (xx f rs)) /\ iy f rs outs ds /\
  (∀ H0 H' tp l as ps, Same H H0 -> H l = none -> H0 l ≠ none -> Same H H' -> H' tp = some (.tup [.str "pays", .ref l]) -> H' l = some (.lst (as.map V.ref)) -> PapersN H0 H' as (dueK ds ds.length) (yy f outs ds) (xj ds) ps -> Q (.ref tp) H') /\
  ∀ (H' : Hp) (tp c l : Addr) (i : Nat) (x : Nat × List Str) (cy : List Nat), Same H H' -> (dueK ds ds.length)[i]? = some x -> (∀ (j : Nat) (y : Nat × List Str), j < i -> (dueK ds ds.length)[j]? = some y -> jm (yy f outs ds y) (xj ds y)) -> H' tp = some (.tup [.str "ring", .int x.1, .ref c, .ref l]) -> H' c = some (.tup (x.2.map V.str)) -> H' l = some (.lst ((nI cy).map V.int)) -> RingA (z7 (yy f outs ds x)) (xj ds x) cy -> Q (.ref tp) H'
theorem km {outs : List Str} {ds : List HD} (G : GoodHouse outs ds) : ∀ m, m <= ds.length -> (dueK ds m).length <= m * 4096
  | 0, _ => by simp [dueK]
  | m + 1, h => by
    have ih := km G m (by omega);have h4 := G.hands.2
    have few := rg (wss := (ds.eraseIdx m).map HD.words) (by rw [Za, ZX (by omega)]; omega) (fun ws hws => by
      obtain ⟨d, hd, rfl⟩ := Zp.mp hws
      exact (G.words1 d (Yi hd)).2) _ (Zm _)
    rw [Zt] at few;rw [u3, Zo, Za];omega
theorem kt {ds : List HD} {m : Nat} {x : Nat × List Str} (h : x ∈ dueK ds m) : x.1 < m /\ x.2 ∈ z9 ((ds.eraseIdx x.1).map HD.words) := by
  rw [dueK, List.mem_flatMap] at h;obtain ⟨k, hk, h⟩ := h;obtain ⟨o, ho, rfl⟩ := Zp.mp h;exact ⟨ZU.mp hk, ho⟩
theorem GridsAt.past {H : Hp} {l : Addr} {o : HO} {as0 cs : List Addr} {xs : List (Nat × List Str)} {F : Nat × List Str -> List (List Int)} (hl : H l = some (.lst (as0.map V.ref))) (h0 : ∀ a ∈ as0, ∃ us, H a = some (.tup us)) (ne : ∀ x ∈ xs, F x ≠ [] /\ ∀ r ∈ F x, r ≠ []) (h : GridsAt H cs xs F) : GridsAt (upd H l o) cs xs F := ⟨h.len, fun i a x e1 e2 => by
  obtain ⟨c, g, ls, h1, h2, h3, h4⟩ := h.at' i a x e1 e2;obtain ⟨n1, n2⟩ := ne x (Zi e2);have k1 : a ≠ l := fun e => by rw [e, hl] at h1; cases h1
  have k2 : c ≠ l := fun e => by rw [e, hl] at h2; cases h2
  have k4 : ∀ r ∈ ls, r ≠ l := fun r hr e => by
    obtain ⟨j, hj, rfl⟩ := Zy hr;have hj2 : j < (F x).length := by rw [<- h4.len]; exact hj
    have := h4.at' j _ _ (Zb hj) (Zb hj2);rw [e, hl] at this;have nz := n2 _ (Zl hj2);generalize (F x)[j] = p at *
    cases p with
    | nil => exact nz rfl
    | cons z p => cases as0 <;> simp at this
  have k3 : g ≠ l := fun e => by
    rw [e, hl] at h3;have z : as0.map V.ref = ls.map V.ref := by simpa using h3
    have hl0 : 0 < ls.length := by
      rw [h4.len]
      cases e : F x with
      | nil => exact absurd e n1
      | cons _ _ => simp
    have hl1 : 0 < as0.length := by have := congrArg List.length z; simp at this; omega
    have hj2 : 0 < (F x).length := by rw [<- h4.len]; exact hl0
    have r1 := h4.at' 0 _ _ (Zb hl0) (Zb hj2)
    have ee : as0[0] = ls[0] := by
      have := congrArg (fun q => q[0]?) z
      simpa [Ze, Zb hl0, Zb hl1] using this
    obtain ⟨us, hu⟩ := h0 _ (Zl hl1);rw [ee, r1] at hu;cases hu
  refine ⟨c, g, ls, by rw [zx k1]; exact h1, by rw [zx k2]; exact h2, by rw [zx k3]; exact h3, h4.len, fun j r p e3 e4 => ?_⟩;rw [zx (k4 r (Zi e3))]
  exact h4.at' j r p e3 e4⟩
theorem GridsAt.tup {H : Hp} {as : List Addr} {xs : List (Nat × List Str)} {F : Nat × List Str -> List (List Int)} (h : GridsAt H as xs F) : ∀ a ∈ as, ∃ us, H a = some (.tup us) := fun a ha => by
  obtain ⟨j, hj, rfl⟩ := Zy ha;have hj2 : j < xs.length := by rw [<- h.len]; exact hj
  obtain ⟨c, g, ls, h1, _⟩ := h.at' j _ _ (Zb hj) (Zb hj2);exact ⟨_, h1⟩
theorem av {f : List Str -> Str} {outs : List Str} {ds : List HD} (G : GoodHouse outs ds) {x : Nat × List Str} (h : x.1 < ds.length) : yy f outs ds x ≠ [] /\ ∀ r ∈ yy f outs ds x, r ≠ [] := by
  obtain ⟨k, o⟩ := x;have hd : ds[k]? = some ds[k] := Zb h;have hm := Zl h;have w1 := (G.words1 _ hm).1;have ro := G.rows _ hm;rw [kd hd];generalize ds[k] = d at *;refine ⟨fun e => ?_, fun r hr e => ?_⟩
  . have := congrArg List.length e
    rw [colP, Za] at this;simp at this;rw [this] at ro;simp at ro;omega
  . obtain ⟨r', _, rfl⟩ := Zp.mp hr
    have := congrArg List.length e;rw [Za, putP, Za] at this;simp at this;rw [this] at w1;simp at w1
def PvGs (p t : Addr) (ds : List HD) (F : Nat × List Str -> List (List Int)) (H : Hp) (i : Nat) (σ : L2.St) (H' : Hp) : Prop := ∃ (l : Addr) (as : List Addr) (v : Option V), Same H H' /\ H l = none /\ H' l = some (.lst (as.map V.ref)) /\ GridsAt H' as (dueK ds i) F /\ σ = [some (.ref p), some (.ref t), some (.ref l), v]
def PvG3 (k : Nat) (os : List (List Str)) (F : Nat × List Str -> List (List Int)) (H : Hp) (i : Nat) (ys : List V) (H' : Hp) : Prop := Same H H' /\ ∃ as : List Addr, ys = as.map V.ref /\ GridsAt H' as ((os.take i).map fun o => (k, o)) F
section
variable {P : Program} {w : World} {K : Fg} {mg : Str -> Option Value} {base : Heap} {a : Ad}
theorem kc (B : Bt mg) (f_hands_of : FnAt P w K mg base "hands_of" 1 ["house"] (uv K 1)) (jj : FnAt P w K mg base "grid_of" 3 ["house", "table", "k", "others"] za0) (ug : FnAt P w K mg base "others_of" 3 ["house", "k"] (k8 K)) (D : zi K mg "grids_of" pj ["house", "table"]) : FnAt P w K mg base "grids_of" 4 ["house", "table"] ca := by
  refine FnAt.of D sc_grids_of (fun vs H Q E h => ?_) (fun f cdv A outer s H vs Q E hr h => ?_)
  . obtain ⟨p, o, h, t, hs, outs, ds, f, rs, rfl, _⟩ := h
    rfl
  . obtain ⟨p, o, h, t, hs, outs, ds, f, rs, rfl, hH, G, ht, hD, q⟩ := h
    refine ⟨_, (@zj _ _ _ _ _ (zz (i := 2) sc_grids_of.nd rfl (Or.inl rfl) (@xm _ _ _ _ (@zb _))) (@zj _ _ _ _ _ (yx PassesOwn.never rfl (yl rfl B.range (za (zo zq rfl B.len ya (za (zk f_hands_of (hr.mono (by decide)) rfl (za (pv 0) (@zb _))) (@zb _))) (@zb _))) (zp (i := 3) sc_grids_of.nd rfl (Or.inr rfl)) (@zh _ _ _ (wx (qe PySem.F.plainAttrs_list PySem.F.slot_list_extend PySem.F.type_list_extend du (pv 2) (za (yk ["others"] ["house", "table", "grids", "k"] rfl (@yg _ _ _ _ (zk ug (hr.mono (by decide)) rfl (za (pv 0) (za (pv 3) (@zb _))))) (fun _ => (zp (i := 0) (show (["others", "house", "table", "grids", "k"] : List Str).Nodup by decide +kernel) rfl (Or.inl rfl))) (fun _ => (@yc _)) (fun _ => (@y7 _ _ _ _ _ (za (pv 4) (za (pv 0) (za (zk jj (hr.mono (by decide)) rfl (za (pv 1) (za (pv 2) (za (pv 4) (za (pv 0) (@zb _)))))) (@zb _)))))) rfl (by decide +kernel) rfl rfl) (@zb _)))))) (@zh _ _ _ (@zn _ _ _ _ (pv 2))))), ?_⟩;rw [show start ["house", "table", "grids", "k"] [V.ref p, V.ref t] = [some (V.ref p), some (V.ref t), none, none] from rfl];simp only [zc, zd, ↓reduceIte];refine ⟨by decide, fun l0 hl0 => ?_⟩;have S1 : Same H (upd H l0 (.lst [])) := Same.upd (Same.refl _) hl0;have h1 : upd H l0 (.lst []) l0 = some (.lst (([] : List Addr).map V.ref)) := zg;generalize upd H l0 (.lst []) = H1 at *;have hH1 := hH.mono S1;have h4 := G.hands.2;refine ⟨p, _, _, rfl, .of hH1.tup, rfl, h, rfl, _, .inr (.of hH1.hands), ?_⟩;rw [Za, hH1.hand.1];refine ⟨by omega, by omega, ?_⟩;rw [Zw];refine xa (PvGs p t ds (yy f outs ds) H) ⟨l0, [], _, S1, hl0, h1, ⟨rfl, fun i a x e => by simp at e⟩, rfl⟩ ?_ ?_
    . rintro k σ H2 hk ⟨l, as, v, S2, hn, h2, G2, rfl⟩
      have hd : ds[k]? = some ds[k] := Zb hk;have hH2 := hH.mono S2;simp only [zc, zd, ↓reduceIte];refine ⟨.inl ⟨rfl, _, .of h2⟩, ?_⟩;refine ⟨p, o, h, hs, outs, ds, k, rfl, hH2.k, hk, h4, fun d hd => (G.words1 d hd).2, fun H3 rl bs S3 _ R3 => ⟨rl, rfl, ⟨_, .of R3.lst⟩, fun dd => ?_⟩⟩
      have few := rg (wss := (ds.eraseIdx k).map HD.words) (by rw [Za, ZX hk]; omega) (fun ws hws => by
        obtain ⟨d, hd, rfl⟩ := Zp.mp hws
        exact (G.words1 d (Yi hd)).2) _ (Zm _)
      rw [Zt] at few;have hin : ∀ r ∈ z9 ((ds.eraseIdx k).map HD.words), bi f rs outs r k ds[k] := fun r hr => hD k _ r hd hr
      have hsu := u3 ds k;have fk := km G k (by omega);generalize z9 ((ds.eraseIdx k).map HD.words) = os at *;refine yo (xs := bs.map V.ref) (PvG3 k os (yy f outs ds) H3) ⟨Same.refl _, [], rfl, rfl, fun i a x e => by simp at e⟩ ?_ ?_ ?_
      . rintro i ys H4 hi ⟨S4, cs, rfl, T4⟩
        refine ⟨?_, .of (S4 _ _ R3.lst)⟩;rw [Za, T4.len, Za, Zj];exact Zd (ZB _ _) (Zd few (by decide))
      . rintro i y ys H4 hy ⟨S4, cs, rfl, T4⟩
        obtain ⟨c, hc, rfl⟩ := re hy;have hi : i < os.length := by have := (Zc.mp hc).1; have := R3.tups.len; omega
        have eo : os[i]? = some os[i] := Zb hi;have hc4 := S4 _ _ (R3.tups.at' i c _ hc eo);have hdl := hin _ (Zl hi);have S24 := S2.trans (S3.trans S4);simp only [zc, zd, ↓reduceIte];refine ⟨p, o, h, t, c, hs, outs, ds, f, rs, os[i], k, ds[k], rfl, hH.mono S24, G, S24 _ _ ht, hd, hc4, hdl, fun H5 g ls S5 hg I5 => ⟨by decide, fun tp htp => ?_⟩⟩;have S6 : Same H5 (upd H5 tp (.tup [V.int k, V.ref c, V.ref g])) := Same.upd (Same.refl _) htp;refine ⟨S4.trans (S5.trans S6), cs ++ [tp], by simp, ?_⟩;rw [Zq, eo, Zn];exact (T4.mono (S5.trans S6)).append (GridsAt.one (x := (k, os[i])) zg ((S5.trans S6) _ _ hc4) (S6 _ _ hg) (by rw [kd hd]; exact I5.mono S6))
      . rintro ys H4 ⟨S4, cs, rfl, T4⟩ l2 hl2
        rw [Za, R3.tups.len, Zt] at T4;have S5 : Same H4 (upd H4 l2 (.lst (cs.map V.ref))) := Same.upd (Same.refl _) hl2;have h5 : upd H4 l2 (.lst (cs.map V.ref)) l2 = some (.lst (cs.map V.ref)) := zg;generalize upd H4 l2 (.lst (cs.map V.ref)) = H5 at *;have S25 := S3.trans (S4.trans S5);have hl5 := S25 _ _ h2;have GG := (G2.mono S25).append (T4.mono S5);rw [<- hsu] at GG;refine ⟨_, hl5, _, h5, ?_, l, as ++ cs, _, Same.upd (S2.trans S25) hn, hn, by rw [zg, Zn], ?_, rfl⟩
        . rw [Za, Za, G2.len, T4.len, Za]
          exact Zd (show _ <= 4 * 4096 + 4096 by omega) (by decide)
        . exact GG.past hl5 (G2.mono S25).tup fun x hx => av G (by have := (kt hx).1; omega)
    . rintro σ H2 ⟨l, as, v, S2, hn, h2, G2, rfl⟩
      simp only [zc, zd, ↓reduceIte];exact q H2 l as S2 hn h2 G2
end
theorem zao {rows : List (List Int)} {n : Nat} {c : List Nat} (no : jm rows n) (R : RingA (z7 rows) n c) : False := by
  have h1 := NoNeg.rnd (no c.length) rfl R.lt;have := R.neg;omega
theorem Great.ne {rows : List (List Int)} {n : Nat} {gs : List (Int × List Nat × Addr)} (g : Great rows n gs) (h : 0 < n) : gs ≠ [] /\ ∀ e ∈ gs, e.2.1 ≠ [] := by
  refine ⟨fun e => ?_, fun e he q => ?_⟩
  . have := g.len
    rw [e] at this;simp at this;omega
  . obtain ⟨t, ht, rfl⟩ := Zy he
    obtain ⟨s, ws, e1, _⟩ := (g.rds.rd t (by rw [<- g.len]; exact ht)).ex;rw [ve (Zb ht)] at e1;have e1' : (gs[t]).2.1 = s :: ws := e1;rw [q] at e1';cases e1'
theorem ki {outs : List Str} {ds : List HD} (G : GoodHouse outs ds) {x : Nat × List Str} (h : x.1 < ds.length) : 0 < xj ds x /\ xj ds x <= 8 := by
  obtain ⟨k, o⟩ := x;rw [jd (Zb h)];have := G.words1 _ (Zl h);omega
theorem iu {K : Fg} {H : Hp} {g : Addr} {ls : List Addr} {f : List Str -> Str} {outs : List Str} {ds : List HD} (G : GoodHouse outs ds) {x : Nat × List Str} (h : x.1 < ds.length) (hg : H g = some (.lst (ls.map V.ref))) (I : IntsAt H ls (yy f outs ds x)) : Gd K H g (yy f outs ds x) (xj ds x) := by
  have h8 := (ki G h).2;obtain ⟨k, o⟩ := x;have hd : ds[k]? = some ds[k] := Zb h;have ro := G.rows _ (Zl h);have e1 := kd (f := f) (outs := outs) (o := o) hd;have e2 := jd (o := o) hd;have lr : (yy f outs ds (k, o)).length = xj ds (k, o) := by rw [e1, e2, colP, Za]; exact ro
  refine ⟨⟨ls, ⟨.of hg, by rw [I.len], fun i r ns a1 a2 => .of (I.at' i r ns a1 a2)⟩, by rw [I.len, lr]⟩, fun i hi => ⟨(yy f outs ds (k, o))[i]'(by omega), Zb (by omega), ?_⟩, h8⟩;have hm : (yy f outs ds (k, o))[i]'(by omega) ∈ yy f outs ds (k, o) := Zl _;generalize (yy f outs ds (k, o))[i]'(by omega) = r at *;rw [e1] at hm;obtain ⟨r', _, rfl⟩ := Zp.mp hm;rw [Za, putP, Za, e2]
def PvVd (p t l gl : Addr) (gas : List Addr) (xs : List (Nat × List Str)) (F : Nat × List Str -> List (List Int)) (W : Nat × List Str -> Nat) (H Hd : Hp) (i : Nat) (σ : L2.St) (H' : Hp) : Prop := ∃ (as : List Addr) (ps : List PD) (v1 v2 v3 v4 : Option V), Same H H' /\ (∀ y, H' y = none -> Hd y = none) /\ H' l = some (.lst (as.map V.ref)) /\ H' gl = some (.lst (gas.map V.ref)) /\ GridsAt H' gas xs F /\ PapersN Hd H' as (xs.take i) F W ps /\ (∀ (j : Nat) (y : Nat × List Str), j < i -> xs[j]? = some y -> jm (F y) (W y)) /\ σ = [some (.ref p), some (.ref t), some (.ref l), v1, v2, v3, v4]
section
variable {P : Program} {w : World} {K : Fg} {mg : Str -> Option Value} {base : Heap} {a : Ad}
theorem e5 (B : Bt mg) (kz : FnAtX P w K mg base "greatest" 7 ["grid"] (zc0 a K)) (D : zi K mg "paper" j4 ["k", "others", "grid"]) : FnAt P w K mg base "paper" 8 ["k", "others", "grid"] (zc1 K) := by
  refine FnAt.of D sc_paper (fun vs H Q E h => ?_) (fun f cdv A outer s H vs Q E hr h => ?_)
  . obtain ⟨x, c, g, rows, n, rfl, _⟩ := h
    rfl
  . obtain ⟨x, c, g, rows, n, rfl, hc, hG, h0, no, q⟩ := h
    refine ⟨_, (@zj _ _ _ _ _ (zz (i := 3) sc_paper.nd rfl (Or.inl rfl) (bv kz (hr.mono (by decide)) rfl (za (pv 2) (@zb _)))) (@zh _ _ _ (@zn _ _ _ _ (@y7 _ _ _ _ _ (za (pv 0) (za (pv 1) (za (@zt _ _ _ _ _ _ _ yh (pv 3) (@ze _ _ _ _) (fun _ _ => rfl)) (za (@zt _ _ _ _ _ _ _ yh (pv 3) (@ze _ _ _ _) (fun _ _ => rfl)) (@zb _))))))))), ?_⟩;rw [show start ["k", "others", "grid", "told"] [V.int x.1, V.ref c, V.ref g] = [some (V.int x.1), some (V.ref c), some (V.ref g), none] from rfl];simp only [zc, zd, ↓reduceIte];refine ⟨g, rows, n, rfl, hG, h0, fun H1 v gs S1 Td Tn Gt => ?_, fun H1 cc S1 R => (zao no R).elim⟩;obtain ⟨tp, pl, rl, rfl, d1, d2, d3⟩ := Td.ex;obtain ⟨n1, n2, n3, n4⟩ := Tn tp pl rl rfl d1;simp only [zc, zd, ↓reduceIte];refine ⟨_, .of d1, _, rfl, _, .of d1, _, rfl, by decide, fun p hp => ?_⟩;have S2 : Same H1 (upd H1 p (.tup [V.int x.1, V.ref c, V.ref pl, V.ref rl])) := Same.upd (Same.refl _) hp;refine q _ p ⟨c, pl, rl, gs⟩ (S1.trans S2) ⟨zg, (S1.trans S2) _ _ hc, S2 _ _ d2, S2 _ _ d3, fun e he => S2 _ _ (Td.road e he), Gt, n3, fun e he => (n4 e he).2⟩ fun y hy => ?_
    simp only [PD.adr, ZK] at hy
    rcases hy with rfl | rfl | hy
    . exact n1
    . exact n2
    . obtain ⟨e, he, rfl⟩ := Zp.mp hy
      exact (n4 e he).1
theorem nv (B : Bt mg) (kc : FnAt P w K mg base "grids_of" 4 ["house", "table"] ca) (jb : FnAt P w K mg base "ring" 5 ["grid"] (zai K)) (e5 : FnAt P w K mg base "paper" 8 ["k", "others", "grid"] (zc1 K)) (D : zi K mg "verdict" mf ["house", "table"]) : FnAt P w K mg base "verdict" 9 ["house", "table"] (d5 K) := by
  refine FnAt.of D sc_verdict (fun vs H Q E h => ?_) (fun f cdv A outer s H vs Q E hr h => ?_)
  . obtain ⟨p, o, h, t, hs, outs, ds, f, rs, rfl, _⟩ := h
    rfl
  . obtain ⟨p, o, h, t, hs, outs, ds, f, rs, rfl, hH, G, ht, hD, q1, q2⟩ := h
    refine ⟨_, (@zj _ _ _ _ _ (zz (i := 2) sc_verdict.nd rfl (Or.inl rfl) (@xm _ _ _ _ (@zb _))) (@zj _ _ _ _ _ (yx PassesOwn.never rfl (@yg _ _ _ _ (zk kc (hr.mono (by decide)) rfl (za (pv 0) (za (pv 1) (@zb _))))) (qt rfl (y2 (zp (i := 3) sc_verdict.nd rfl (Or.inl rfl)) (y2 (zp (i := 4) sc_verdict.nd rfl (Or.inl rfl)) (y2 (zp (i := 5) sc_verdict.nd rfl (Or.inl rfl)) (@u5 _))))) (@zj _ _ _ _ _ (zz (i := 6) sc_verdict.nd rfl (Or.inl rfl) (zk jb (hr.mono (by decide)) rfl (za (pv 5) (@zb _)))) (@zj _ _ _ _ _ (@yj _ _ _ _ _ _ _ _ (@yf _ _ _ _ _ _ _ _ el (pv 6) (@qq _ _ _) (ye _)) (@zh _ _ _ (@zn _ _ _ _ (@y7 _ _ _ _ _ (za (@u7 _ _ _ _) (za (pv 3) (za (pv 4) (za (pv 6) (@zb _)))))))) (@yb _)) (@zh _ _ _ (wx (qe PySem.F.plainAttrs_list PySem.F.slot_list_append PySem.F.type_list_append qw (pv 2) (za (zk e5 (hr.mono (by decide)) rfl (za (pv 3) (za (pv 4) (za (pv 5) (@zb _))))) (@zb _)))))))) (@zh _ _ _ (@zn _ _ _ _ (@y7 _ _ _ _ _ (za (@u7 _ _ _ _) (za (pv 2) (@zb _)))))))), ?_⟩;rw [show start ["house", "table", "papers", "k", "others", "grid", "found"] [V.ref p, V.ref t] = [some (V.ref p), some (V.ref t), none, none, none, none, none] from rfl];simp only [zc, zd, ↓reduceIte];refine ⟨by decide, fun l0 hl0 => ?_⟩;have S1 : Same H (upd H l0 (.lst [])) := Same.upd (Same.refl _) hl0;have h1 : upd H l0 (.lst []) l0 = some (.lst (([] : List Addr).map V.ref)) := zg;generalize upd H l0 (.lst []) = H1 at *;refine ⟨p, o, h, t, hs, outs, ds, f, rs, rfl, hH.mono S1, G, S1 _ _ ht, hD, fun H2 gl gas S2 ngl hgl GA => ⟨gl, rfl, ⟨_, .of hgl⟩, ?_⟩⟩;have S12 := S1.trans S2;have hgn : gl ≠ l0 := fun e => by rw [e, h1] at ngl; cases ngl
    have hmem : ∀ x ∈ dueK ds ds.length, x.1 < ds.length := fun x hx => (kt hx).1
    have hfew := km G _ (Zm _);have h4 := G.hands.2;generalize dueK ds ds.length = xs at *;have hne : ∀ x ∈ xs, yy f outs ds x ≠ [] /\ ∀ r ∈ yy f outs ds x, r ≠ [] := fun x hx => av G (hmem x hx)
    refine x9 (xs := gas.map V.ref) (PvVd p t l0 gl gas xs (yy f outs ds) (xj ds) H H1) ⟨[], [], _, _, _, _, S12, (fun y hy => S2.free hy), S2 _ _ h1, hgl, GA, ⟨rfl, rfl, (fun i a x d e => by simp at e), (fun d hd => nomatch hd), fun i j d e _ h => by simp at h⟩, fun j y h => absurd h (Nat.not_lt_zero _), rfl⟩ ?_ ?_ ?_
    . rintro i σ H3 hi ⟨as, ps, v1, v2, v3, v4, S3, D3, h3, hg3, GA3, P3, no, rfl⟩
      exact .of hg3
    . rintro i y σ H3 hy ⟨as, ps, v1, v2, v3, v4, S3, D3, h3, hg3, GA3, P3, no, rfl⟩
      obtain ⟨c, hc, rfl⟩ := re hy;have hi : i < xs.length := by have := (Zc.mp hc).1; have := GA3.len; omega
      have ex : xs[i]? = some xs[i] := Zb hi;have hk := hmem _ (Zl hi);obtain ⟨cc, g, ls, t1, t2, t3, I3⟩ := GA3.at' i c _ hc ex;have hwp := ki G hk;have GD : Gd K H3 g (yy f outs ds xs[i]) (xj ds xs[i]) := iu G hk t3 I3;generalize hx : xs[i] = x at *;simp only [zc, zd, ↓reduceIte];refine ⟨_, .of t1, rfl, _, _, rfl, _, _, rfl, _, _, rfl, rfl, g, _, _, rfl, GD, hwp.1, fun H4 S4 nn => ?_, fun H4 l4 cy S4 h4' R => ?_⟩
      . have nr : jm (yy f outs ds x) (xj ds x) := NoNeg.all nn
        refine ite2 (fun h => absurd h (by simp)) fun _ => ⟨.inl ⟨rfl, _, .of (S4 _ _ h3)⟩, x, cc, g, _, _, rfl, S4 _ _ t2, GD.mono S4, hwp.1, nr, fun H5 pa pd S5 hp5 nw => ?_⟩
        have S45 := S4.trans S5;have hl5 := S45 _ _ h3;have P5 := P3.mono S45;have P6 := (P3.mono S4).snoc (fun y hy => D3 y (S4.free hy)) S5 hp5 nw;have GA5 := GA3.mono S45
        refine ⟨_, hl5, ?_, as ++ [pa], ps ++ [pd], _, _, _, _, Same.upd (S3.trans S45) hl0, (fun y hy => D3 y (by
          by_cases e : y = l0
          . rw [e, zg] at hy; cases hy
          . rw [zx e] at hy; exact S45.free hy)), by rw [zg, Zn]; rfl, by rw [zx hgn]; exact S45 _ _ hg3, GA5.past hl5 P5.tup hne, ?_, fun j y hj ey => ?_, rfl⟩
        . rw [Za, P5.len, Zj]
          exact ZQ (show _ <= 4 * 4096 by omega) (by decide)
        . rw [Zq, ex]
          exact P6.past hl5 ⟨_, h1⟩
        . by_cases e : j = i
          . subst e
            rw [ex] at ey;cases ey;exact nr
          . exact no j y (by omega) ey
      . refine ite2 (fun _ => ⟨by decide, fun tp htp => ?_⟩) fun h => absurd (by simp : (!decide (V.ref l4 = V.non)) = true) h
        have S5 : Same H4 (upd H4 tp (.tup [V.str (Str.ofString "ring"), V.int x.1, V.ref cc, V.ref l4])) := Same.upd (Same.refl _) htp;exact q2 _ tp cc l4 i x cy (S3.trans (S4.trans S5)) ex no zg ((S4.trans S5) _ _ t2) (S5 _ _ h4') R
    . rintro σ H3 ⟨as, ps, v1, v2, v3, v4, S3, D3, h3, hg3, GA3, P3, no, rfl⟩
      simp only [zc, zd, ↓reduceIte];rw [Za, GA3.len, Zt] at P3;refine ⟨by decide, fun tp htp => ?_⟩;have S5 : Same H3 (upd H3 tp (.tup [V.str (Str.ofString "pays"), V.ref l0])) := Same.upd (Same.refl _) htp;exact q1 H1 _ tp l0 as ps S1 hl0 (by rw [h1]; simp) (S3.trans S5) zg (S5 _ _ h3) (P3.mono S5)
end
def zcm : Sp := fun vs H Q _ => ∃ (b : Addr) (xs : List HX) (ds : List HD), vs = [.ref b] /\ HandsL H b xs ds /\ ds.length <= 4 /\ (∀ d ∈ ds, d.words.length <= 8) /\ ∀ H' l as, Same H H' -> RwsAt H' l as (z9 (ds.map HD.words)) -> Q (.ref l) H'
def PvGw (b l h : Addr) (rs : List (List Str)) (ws : List Str) (H : Hp) (m : Nat) (σ : L2.St) (H' : Hp) : Prop := Same H H' /\ ∃ (p : Addr) (as' : List Addr) (v : Option V), RwsAt H' p as' (xq (rs.take m) ws) /\ σ = [some (.ref b), some (.ref l), some (.ref h), some (.ref p), v]
def PvRo (b : Addr) (H : Hp) (ds : List HD) (i : Nat) (σ : L2.St) (H' : Hp) : Prop := Same H H' /\ ∃ (l : Addr) (as : List Addr) (v1 v2 v3 : Option V), RwsAt H' l as (z9 ((ds.map HD.words).take i)) /\ σ = [some (.ref b), some (.ref l), v1, v2, v3]
section
variable {P : Program} {w : World} {K : Fg} {mg : Str -> Option Value} {base : Heap} {a : Ad}
theorem kj (D : zi K mg "_law_rows" oe ["hands"]) : FnAt P w K mg base "_law_rows" 1 ["hands"] zcm := by
  refine FnAt.of D sc_law_rows (fun vs H Q E h => ?_) (fun f cdv A outer s H vs Q E hr h => ?_)
  . obtain ⟨b, xs, ds, rfl, _⟩ := h
    rfl
  . obtain ⟨b, xs, ds, rfl, hH, h4, h8, q⟩ := h
    refine ⟨_, (@zj _ _ _ _ _ (@zz _ _ 1 _ _ _ _ sc_law_rows.nd rfl (Or.inl rfl) (@xm _ _ _ _ (@za _ _ _ _ _ (@y7 _ _ _ _ _ (@zb _)) (@zb _) (z8 nofun))) rfl (Or.inl rfl)) (@zj _ _ _ _ _ (yx PassesOwn.never rfl (@yg _ _ _ _ (pv 0)) (zp (i := 2) sc_law_rows.nd rfl (Or.inl rfl)) (@zj _ _ _ _ _ (zz (i := 3) sc_law_rows.nd rfl (Or.inl rfl) (@xm _ _ _ _ (@zb _))) (@zj _ _ _ _ _ (yx PassesOwn.never rfl (@yg _ _ _ _ (pv 1)) (zp (i := 4) sc_law_rows.nd rfl (Or.inr rfl)) (@zh _ _ _ (zz (i := 3) sc_law_rows.nd rfl (Or.inl rfl) (@zm _ _ _ _ _ _ _ _ bx (pv 3) (yk ["word"] ["hands", "rows", "hand", "grown", "row"] rfl (@yg _ _ _ _ (@zt _ _ _ _ _ _ _ yh (pv 2) (@ze _ _ _ _) (fun _ _ => rfl))) (fun _ => (zp (i := 0) (show (["word", "hands", "rows", "hand", "grown", "row"] : List Str).Nodup by decide +kernel) rfl (Or.inl rfl))) (fun _ => (@yc _)) (fun _ => (@zm _ _ _ _ _ _ _ _ rb (pv 5) (@y7 _ _ _ _ _ (za (pv 0) (@zb _))))) rfl (by decide +kernel) rfl rfl))))) (@zh _ _ _ (zz (i := 1) sc_law_rows.nd rfl (Or.inl rfl) (pv 3)))))) (@zh _ _ _ (@zn _ _ _ _ (pv 1))))), ?_⟩;rw [show start ["hands", "rows", "hand", "grown", "row"] [V.ref b] = [some (V.ref b), none, none, none, none] from rfl];simp only [zc, zd, ↓reduceIte];refine ⟨by decide, fun e he => ?_⟩;have S1 : Same H (upd H e (.tup [])) := Same.upd (Same.refl _) he;have t1 : upd H e (.tup []) e = some (.tup []) := zg;generalize upd H e (.tup []) = H1 at *;refine ⟨by decide, fun l hl => ?_⟩;have S2 : Same H1 (upd H1 l (.lst [V.ref e])) := Same.upd (Same.refl _) hl;have t2 : upd H1 l (.lst [V.ref e]) l = some (.lst [V.ref e]) := zg;generalize upd H1 l (.lst [V.ref e]) = H2 at *;have hH2 := hH.mono (S1.trans S2);refine ⟨⟨_, .of hH2.at'⟩, ?_⟩;refine x9 (xs := xs.map fun x => V.ref x.t) (PvRo b H2 ds) ⟨Same.refl _, l, [e], _, _, _, ⟨t2, TupsAt.one (S2 _ _ t1)⟩, rfl⟩ ?_ ?_ ?_
    . rintro i σ H3 hi ⟨S3, l3, as, v1, v2, v3, hR, rfl⟩
      exact .of (S3 _ _ hH2.at')
    . rintro i x σ H3 hx ⟨S3, l3, as, v1, v2, v3, hR, rfl⟩
      obtain ⟨h, hh, rfl⟩ := yv hx;have hi : i < ds.length := by have := (Zc.mp hh).1; have := hH.len; omega
      have ed : ds[i]? = some ds[i] := Zb hi;have hA := (hH2.mono S3).hand i h _ hh ed;have w8 := h8 _ (Zl hi);have ew : (ds.map HD.words)[i]? = some ds[i].words := by rw [Ze, ed]; rfl
      have hwid := j8 (ds.map HD.words) i (by rw [Za]; omega)
      have few := rg (wss := ds.map HD.words) (by rw [Za]; exact h4) (fun ws hws => by
        obtain ⟨d, hd, rfl⟩ := Zp.mp hws
        exact h8 d hd) i (by rw [Za]; omega)
      simp only [zc, zd, ↓reduceIte];refine ⟨by decide, fun p hp => ?_⟩;have S4 : Same H3 (upd H3 p (.lst [])) := Same.upd (Same.refl _) hp;have t4 : upd H3 p (.lst []) p = some (.lst []) := zg;generalize upd H3 p (.lst []) = H4 at *;have hR4 := hR.mono S4;generalize hrs : z9 ((ds.map HD.words).take i) = rs at *;refine ⟨⟨_, .of hR4.lst⟩, ?_⟩;refine x9 (xs := as.map V.ref) (PvGw b l3 h.t rs ds[i].words H4) ⟨Same.refl _, p, [], _, ⟨t4, TupsAt.nil⟩, rfl⟩ ?_ ?_ ?_
      . rintro m σ H5 hm ⟨S5, p5, as', v, hG, rfl⟩
        exact .of (S5 _ _ hR4.lst)
      . rintro m x σ H5 hx ⟨S5, p5, as', v, hG, rfl⟩
        obtain ⟨r, er, rfl⟩ := yv hx;have hm : m < rs.length := by have := (Zc.mp er).1; have := hR.tups.len; omega
        have er2 : rs[m]? = some rs[m] := Zb hm;have hr5 := (hR4.mono S5).tups.at' m r _ er er2;have lr5 := hwid _ (Zl hm);have h15 := (S4.trans S5) _ _ hA.tup;have h25 := (S4.trans S5) _ _ hA.words;simp only [zc, zd, ↓reduceIte];refine ⟨_, .of h15, _, zw (j := 1) rfl, _, rfl, ⟨_, .of h25⟩, fun d => ?_⟩;refine yo (xs := ds[i].words.map V.str) (zf3 rs[m] ds[i].words H5) ⟨[], rfl, TupsAt.nil, Same.refl _⟩ ?_ ?_ ?_
        . rintro k ys H6 hk ⟨bs, rfl, t6, S6⟩
          refine ⟨?_, .of (S6 _ _ h25)⟩;rw [Za, t6.len, uc, Zj];exact Zd (ZB _ _) (Zd w8 (by decide))
        . rintro k y ys H6 hy ⟨bs, rfl, t6, S6⟩
          obtain ⟨z, ez, rfl⟩ := yv hy;simp only [zc, zd, ↓reduceIte];refine ⟨by decide, fun u hu => ?_⟩;have S7 : Same H6 (upd H6 u (.tup [V.str z])) := Same.upd (Same.refl _) hu;have t7 : upd H6 u (.tup [V.str z]) u = some (.tup [V.str z]) := zg;generalize upd H6 u (.tup [V.str z]) = H7 at *;refine ⟨_, (S6.trans S7) _ _ hr5, _, t7, ?_, fun H8 w S8 hw => ?_⟩
          . rw [Za, lr5]
            exact Zd (show i + 1 <= 9 by omega) (by decide)
          . refine ⟨bs ++ [w], by simp, ?_, S6.trans (S7.trans S8)⟩
            rw [Zq, ez]
            show TupsAt H8 (bs ++ [w]) (x6 _ (ds[i].words.take k ++ [z]))
            rw [x6, Zn];exact (t6.mono (S7.trans S8)).append (TupsAt.one (by rw [hw]; simp))
        . rintro ys H6 ⟨bs, rfl, t6, S6⟩ l hl
          rw [Za, Zt] at t6;have S7 : Same H6 (upd H6 l (.lst (bs.map V.ref))) := Same.upd (Same.refl _) hl;have t7 : upd H6 l (.lst (bs.map V.ref)) l = some (.lst (bs.map V.ref)) := zg;generalize upd H6 l (.lst (bs.map V.ref)) = H7 at *;have S57 := S6.trans S7;refine ⟨_, S57 _ _ hG.lst, _, t7, ?_, fun p6 hp6 => ?_⟩
          . rw [Za, Za, hG.tups.len, t6.len, uc, qo, Zj]
            have : min m rs.length * ds[i].words.length <= 4096 * 8 := Yq (by omega) w8;exact Zd (show _ <= 4096 * 8 + 8 by omega) (by decide)
          . have S8 : Same H7 (upd H7 p6 (.lst (as'.map V.ref ++ bs.map V.ref))) := Same.upd (Same.refl _) hp6
            refine ⟨S5.trans (S57.trans S8), p6, as' ++ bs, _, ⟨by rw [zg, Zn], ?_⟩, rfl⟩;rw [Zq, er2]
            show TupsAt _ _ (xq (rs.take m ++ [rs[m]]) _)
            rw [gd];exact (hG.tups.mono (S57.trans S8)).append (t6.mono (S7.trans S8))
      . rintro σ H5 ⟨S5, p5, as', v, hG, rfl⟩
        simp only [zc, zd, ↓reduceIte];rw [Za, hR.tups.len, Zt] at hG;refine ⟨S3.trans (S4.trans S5), p5, as', _, _, _, ?_, rfl⟩;rw [va ew, hrs];exact hG
    . rintro σ H3 ⟨S3, l3, as, v1, v2, v3, hR, rfl⟩
      simp only [zc, zd, ↓reduceIte];rw [Za, hH.len, ZG (by rw [Za]; omega)] at hR;exact q H3 l3 as (S1.trans (S2.trans S3)) hR
end
def yq (pl : List Str -> Nat) (rs : List (List Str)) : List (List Key × V) := rs.map fun r => (yw r, V.int (pl r))
theorem zd0 {pl : List Str -> Nat} {rs : List (List Str)} {r : List Str} (h : r ∉ rs) : valV (yq pl rs) (yw r) = none := by
  induction rs with
  | nil => rfl
  | cons q rs ih =>
    rw [yq, ZL, uy (fun z => h (by rw [u8 z]; exact ZA))];exact ih fun z => h (Zv _ z)
theorem j6 {pl : List Str -> Nat} {rs : List (List Str)} {r : List Str} (h : r ∈ rs) : valV (yq pl rs) (yw r) = some (V.int (pl r)) := by
  induction rs with
  | nil => cases h
  | cons q rs ih =>
    rw [yq, ZL]
    by_cases e : q = r
    . rw [o5 (by rw [e]), e]
    . rw [uy (fun z => e (u8 z))]
      exact ih ((ZK.mp h).resolve_left fun z => e z.symm)
theorem zfi {f : List Str -> Str} {rs : List (List Str)} {r : List Str} (h : r ∉ rs) : valV (xx f rs) (yw r) = none := by
  induction rs with
  | nil => rfl
  | cons q rs ih =>
    rw [xx, ZL, uy (fun z => h (by rw [u8 z]; exact ZA))];exact ih fun z => h (Zv _ z)
theorem zdz {f : List Str -> Str} {rs : List (List Str)} {r : List Str} (h : r ∉ rs) : putK (xx f rs) (yw r) (V.str (f r)) = xx f (rs ++ [r]) := by
  rw [zac _ (zfi h), xx, xx, Zn];rfl
theorem zbc {pl : List Str -> Nat} {rs : List (List Str)} {r : List Str} (h : r ∉ rs) (p : Nat) : putK (yq pl rs) (yw r) (V.int p) = yq (fun q => if q = r then p else pl q) (rs ++ [r]) := by
  rw [zac _ (zd0 h), yq, yq, Zn]
  congr 1
  . refine Yj fun q hq => ?_
    rw [if_neg fun (z : q = r) => h (z ▸ hq)]
  . simp
theorem cp {pl : List Str -> Nat} {rs : List (List Str)} {r : List Str} (h : r ∈ rs) (p : Nat) : putK (yq pl rs) (yw r) (V.int p) = yq (fun q => if q = r then p else pl q) rs := by
  have ha : ((yq pl rs).any fun kv => decide (kv.1 = yw r)) = true := List.any_eq_true.mpr ⟨(yw r, V.int (pl r)), Zp.mpr ⟨r, h, rfl⟩, decide_eq_true rfl⟩;unfold putK;rw [if_pos ha, yq, yq, List.map_map];refine Yj fun q _ => ?_
  show (if yw q = yw r then (yw q, V.int p) else (yw q, V.int (pl q))) = _
  by_cases e : q = r
  . rw [if_pos (by rw [e]), if_pos e]
  . rw [if_neg fun z => e (u8 z), if_neg e]
theorem ij {H : Hp} {pl : List Str -> Nat} : ∀ {rs : List (List Str)} {as : List Addr}, jq H (yq pl rs) as -> TupsAt H as rs := by
  intro rs
  induction rs with
  | nil =>
    intro as h;cases h;exact TupsAt.nil
  | cons r rs ih =>
    intro as h
    cases h with
    | cons h1 h2 =>
      have := (TupsAt.one (r := r) (by rw [<- v5]; exact h1)).append (ih h2);exact this
def tmL (ds : List HD) (row : List Str) (ws : List Int) (k j : Nat) : Int := match ds[j]?, row[j]?, ws[j]? with
  | some d, some y, some n => n * (d.worths.getD (d.words.idxOf y) []).getD k 0
  | _, _, _ => 0
def scL (ds : List HD) (row : List Str) (ws : List Int) (k : Nat) : Nat -> Int
  | 0 => 0
  | i + 1 => scL ds row ws k i + tmL ds row ws k i
def zax : Sp := fun vs H Q _ => ∃ (b r l : Addr) (xs : List HX) (outs : List Str) (ds : List HD) (row : List Str) (ws : List Int) (k : Nat), vs = [.ref b, .ref r, .ref l, .int k] /\ HandsL H b xs ds /\ GoodHouse outs ds /\ H r = some (.tup (row.map V.str)) /\ RowOf ds row /\ H l = some (.lst (ws.map V.int)) /\ ws.length = ds.length /\ (∀ n ∈ ws, -(10 ^ 60) <= n /\ n <= 10 ^ 60) /\ k < outs.length /\ Q (.int (scL ds row ws k ds.length)) H
def PvSl (b r l : Addr) (k : Nat) (z : Nat -> Int) (H : Hp) (i : Nat) (σ : L2.St) (H' : Hp) : Prop := H' = H /\ ∃ v1 v2 : Option V, σ = [some (.ref b), some (.ref r), some (.ref l), some (.int k), some (.int (z i)), v1, v2]
def bp : Sp := fun vs H Q _ => ∃ (o t : Addr) (outs : List Str) (pl : List Str -> Nat) (rs : List (List Str)), vs = [.ref o, .ref t] /\ H o = some (.lst (outs.map V.str)) /\ H t = some (.dT (yq pl rs)) /\ rs.Nodup /\ rs.length <= 4096 /\ (∀ r ∈ rs, pl r < outs.length) /\
  ∀ H' d, Same H H' -> H' d = some (.dT (xx (fun r => outs.getD (pl r) ⟨#[]⟩) rs.reverse)) -> Q (.ref d) H'
def PvTb (o t d : Addr) (H : Hp) (f : List Str -> Str) (rs : List (List Str)) (i : Nat) (σ : L2.St) (H' : Hp) : Prop := ∃ v : Option V, (∀ b u, b ≠ d -> H b = some u -> H' b = some u) /\ H' d = some (.dT (xx f (rs.take i))) /\ σ = [some (.ref o), some (.ref t), some (.ref d), v]
section
variable {P : Program} {w : World} {K : Fg} {mg : Str -> Option Value} {base : Heap} {a : Ad}
theorem qd (B : Bt mg) (D : zi K mg "_law_table" qf ["outcomes", "places"]) : FnAt P w K mg base "_law_table" 1 ["outcomes", "places"] bp := by
  refine FnAt.of D sc_law_table (fun vs H Q E h => ?_) (fun f cdv A outer s H vs Q E hr h => ?_)
  . obtain ⟨o, t, outs, pl, rs, rfl, _⟩ := h
    rfl
  . obtain ⟨o, t, outs, pl, rs, rfl, ho, ht, nd, l4, hp, q⟩ := h
    refine ⟨_, (@zj _ _ _ _ _ (zz (i := 2) sc_law_table.nd rfl (Or.inl rfl) (@al _ _)) (@zj _ _ _ _ _ (yx PassesOwn.never rfl (@yg _ _ _ _ (@zih _ _ _ _ _ _ _ (xi (gb rfl) rfl B.list vj (za (pv 1) (@zb _))) (@u0 _ _ _ (@fc _ _ _ _ _ _ jg (@ze _ _ _ _))))) (zp (i := 3) sc_law_table.nd rfl (Or.inl rfl)) (@zh _ _ _ (jf (@zt _ _ _ _ _ _ _ z0 (pv 0) (@df _ _ _ _ _ _ (hu10 hr) (pv 1) (pv 3) (fun _ _ => rfl)) (fun _ _ => rfl)) (ax (pv 2) (pv 3) (ip (hu10 hr)))))) (@zh _ _ _ (@zn _ _ _ _ (pv 2))))), ?_⟩;rw [show start ["outcomes", "places", "table", "row"] [V.ref o, V.ref t] = [some (V.ref o), some (V.ref t), none, none] from rfl];simp only [zc, zd, ↓reduceIte];intro d hd;have htd : t ≠ d := fun z => by rw [z, hd] at ht; cases ht
    have hod : o ≠ d := fun z => by rw [z, hd] at ho; cases ho
    have S1 : Same H (upd H d (.dT [])) := Same.upd (Same.refl _) hd;have t1 : upd H d (.dT []) d = some (.dT []) := zg;generalize upd H d (.dT []) = H1 at *;refine ⟨_, S1 _ _ ht, fun as hk p hp1 => ?_⟩;have T1 := ij hk;have S2 : Same H1 (upd H1 p (.lst (as.map V.ref))) := Same.upd (Same.refl _) hp1;have t2 : upd H1 p (.lst (as.map V.ref)) p = some (.lst (as.map V.ref)) := zg;generalize upd H1 p (.lst (as.map V.ref)) = H2 at *;refine ⟨_, .of t2, fun p2 hp2 => ?_⟩;rw [<- List.map_reverse];have S3 : Same H2 (upd H2 p2 (.lst (as.reverse.map V.ref))) := Same.upd (Same.refl _) hp2;have t3 : upd H2 p2 (.lst (as.reverse.map V.ref)) p2 = some (.lst (as.reverse.map V.ref)) := zg;generalize upd H2 p2 (.lst (as.reverse.map V.ref)) = H3 at *;refine ⟨⟨_, .of t3⟩, ?_⟩;have S13 := S1.trans (S2.trans S3);have S23 := S2.trans S3
    have T3 : TupsAt H3 as.reverse rs.reverse := by
      refine ⟨by rw [Yd, Yd, T1.len], fun i b r e1 e2 => ?_⟩;have l1 := (Zc.mp e1).1;have l2 := (Zc.mp e2).1;rw [Yd] at l1 l2;rw [List.getElem?_reverse l1] at e1;rw [List.getElem?_reverse l2, <- T1.len] at e2;exact S23 _ _ (T1.at' _ b r e1 e2)
    have nd' : rs.reverse.Nodup := List.pairwise_reverse.mpr (List.Pairwise.imp (fun h => Ne.symm h) nd);have d3 := S23 _ _ t1;have hpd : p2 ≠ d := fun z => by rw [z, S2 _ _ t1] at hp2; cases hp2
    have hne : ∀ b ∈ as.reverse, b ≠ d := fun b hb z => by
      obtain ⟨i, hi⟩ := Yb hb;have l1 := (Zc.mp hi).1;have := T3.at' i b _ hi (Zb (by rw [<- T3.len]; exact l1));rw [z, d3] at this;cases this
    refine x9 (xs := as.reverse.map V.ref) (PvTb o t d H3 (fun r => outs.getD (pl r) ⟨#[]⟩) rs.reverse) ⟨_, fun b u _ h => h, d3, rfl⟩ ?_ ?_ ?_
    . rintro i σ H4 hi ⟨v, S4, h4, rfl⟩
      exact .of (S4 _ _ hpd t3)
    . rintro i x σ H4 hx ⟨v, S4, h4, rfl⟩
      obtain ⟨b, hb, rfl⟩ := yv hx;have hi : i < rs.reverse.length := by rw [<- T3.len]; exact (Zc.mp hb).1
      have er : rs.reverse[i]? = some rs.reverse[i] := Zb hi;generalize rs.reverse[i] = r at er;have hm : r ∈ rs := List.mem_reverse.mp (Zi er);have hb4 := S4 _ _ (hne b (Zi hb)) (T3.at' i b r hb er);have ht4 := S4 _ _ htd (S13 _ _ ht);have ho4 := S4 _ _ hod (S13 _ _ ho);simp only [zc, zd, ↓reduceIte]
      have g : DGet H4 t (V.ref b) (some (V.int (pl r))) := by
        have := DGet.t (k := yw r) ht4 (by rw [v5]; exact hb4);rw [j6 hm] at this;exact this
      refine ⟨_, g, ?_⟩
      have hr : r ∉ rs.reverse.take i := fun z => by
        obtain ⟨j, hj⟩ := Yb z;have lj := (Zc.mp hj).1;rw [Zj] at lj;rw [Yt (by omega)] at hj;have e1 := (Zc.mp hj).2;have e2 := (Zc.mp er).2;exact Ys.mp nd' j i (by omega) hi (by omega) (e1.trans e2.symm)
      have hl := hp r hm;refine ⟨_, _, rfl, .of ho4, V.str (outs.getD (pl r) ⟨#[]⟩), zw (by rw [Ze, Zk, Zb hl]; rfl), _, DPut.t (k := yw r) h4 (by rw [v5]; exact hb4) ?_, _, fun c u hc h => ?_, ?_, rfl⟩
      . rw [xx, Za, Zj]
        exact ZQ (ZB _ _) (ZQ (by rw [Yd]; exact l4) (by decide))
      . rw [zx hc]
        exact S4 _ _ hc h
      . rw [zg, zdz hr, Zq, er]
        rfl
    . rintro σ H4 ⟨v, S4, h4, rfl⟩
      simp only [zc, zd, ↓reduceIte];rw [Za, T3.len, Zt] at h4;refine q H4 d (fun b u hb => ?_) h4
      by_cases z : b = d
      . rw [z, hd] at hb
        cases hb
      . exact S4 _ _ z (S13 _ _ hb)
theorem m4 (B : Bt mg) (D : zi K mg "_law_score" qc ["hands", "row", "weights", "place"]) : FnAt P w K mg base "_law_score" 1 ["hands", "row", "weights", "place"] zax := by
  refine FnAt.of D sc_law_score (fun vs H Q E h => ?_) (fun f cdv A outer s H vs Q E hr h => ?_)
  . obtain ⟨b, r, l, xs, outs, ds, row, ws, k, rfl, _⟩ := h
    rfl
  . obtain ⟨b, r, l, xs, outs, ds, row, ws, k, rfl, hH, G, hrw, R, hl, lw, bw, hk, q⟩ := h
    refine ⟨_, (@zj _ _ _ _ _ (zz (i := 4) sc_law_score.nd rfl (Or.inl rfl) (@ze _ _ _ _)) (@zj _ _ _ _ _ (yx PassesOwn.never rfl (yl rfl B.range (za (zo zq rfl B.len ya (za (pv 0) (@zb _))) (@zb _))) (zp (i := 5) sc_law_score.nd rfl (Or.inl rfl)) (@zj _ _ _ _ _ (zz (i := 6) sc_law_score.nd rfl (Or.inl rfl) (qe PySem.F.plainAttrs_list PySem.F.slot_list_index PySem.F.type_list_index ck (@zt _ _ _ _ _ _ _ yh (@zt _ _ _ _ _ _ _ z0 (pv 0) (pv 5) (fun _ _ => rfl)) (@ze _ _ _ _) (fun _ _ => rfl)) (za (@zt _ _ _ _ _ _ _ yh (pv 1) (pv 5) (fun _ _ => rfl)) (@zb _)))) (@zh _ _ _ (zz (i := 4) sc_law_score.nd rfl (Or.inl rfl) (@zm _ _ _ _ _ _ _ _ yp (pv 4) (@zm _ _ _ _ _ _ _ _ zhu (@zt _ _ _ _ _ _ _ z0 (pv 2) (pv 5) (fun _ _ => rfl)) (@zt _ _ _ _ _ _ _ z0 (@zt _ _ _ _ _ _ _ z0 (@zt _ _ _ _ _ _ _ yh (@zt _ _ _ _ _ _ _ z0 (pv 0) (pv 5) (fun _ _ => rfl)) (@ze _ _ _ _) (fun _ _ => rfl)) (pv 6) (fun _ _ => rfl)) (pv 3) (fun _ _ => rfl)))))))) (@zh _ _ _ (@zn _ _ _ _ (pv 4))))), ?_⟩;rw [show start ["hands", "row", "weights", "place", "score", "j", "t"] [V.ref b, V.ref r, V.ref l, V.int k] = [some (V.ref b), some (V.ref r), some (V.ref l), some (V.int k), none, none, none] from rfl];simp only [zc, zd, ↓reduceIte];have d4 := G.hands;have lx := hH.len;refine ⟨_, .inl (.of hH.at'), ?_, ?_, ?_⟩
    . rw [Za]; omega
    . rw [Za]; omega
    rw [Za, hH.len, show ((ds.length : Nat) : Int).toNat = ds.length by omega];refine xa (PvSl b r l k (scL ds row ws k) H) ⟨rfl, _, _, rfl⟩ ?_ ?_
    . rintro i σ H2 hi ⟨rfl, v1, v2, rfl⟩
      rw [show (0 : Int) + (i : Int) = ((i : Nat) : Int) by omega];have ed : ds[i]? = some ds[i] := Zb hi;obtain ⟨x, hx⟩ : ∃ x, xs[i]? = some x := ⟨xs[i]'(by omega), by simp⟩;have hA := hH.hand i x _ hx ed;have er : row[i]? = some (row[i]'(by rw [R.1]; exact hi)) := Zb (by rw [R.1]; exact hi);have hz := R.2 i _ _ ed er;generalize row[i]'(by rw [R.1]; exact hi) = y at er hz;have hm := Zl hi;generalize ds[i] = dd at ed hA hz hm;have ew : ws[i]? = some (ws[i]'(by omega)) := Zb (by omega);have bn := bw _ (Zi ew);generalize ws[i]'(by omega) = n at ew bn;have hj := Zz.mpr hz;rw [<- G.rows dd hm] at hj;obtain ⟨g, hg⟩ : ∃ g, x.gs[dd.words.idxOf y]? = some g := ⟨x.gs[dd.words.idxOf y]'(by rw [hA.len]; exact hj), by simp⟩;have eg : dd.worths[dd.words.idxOf y]? = some dd.worths[dd.words.idxOf y] := Zb hj;have hgr := hA.row _ g _ hg eg;have hwm := Zi eg;generalize dd.worths[dd.words.idxOf y] = nn at eg hgr hwm;have lk : k < nn.length := by rw [G.cols dd hm nn hwm]; exact hk
      have en : nn[k]? = some nn[k] := Zb lk;have bnn := G.nums dd hm nn hwm _ (Zl lk);generalize nn[k] = m at en bnn
      have tm : tmL ds row ws k i = n * m := by
        rw [tmL, ed, er, ew]
        show n * (dd.worths.getD (dd.words.idxOf y) []).getD k 0 = _
        rw [Zk (l := dd.worths), eg]
        show n * nn.getD k 0 = _
        rw [Zk, en];rfl
      simp only [zc, zd, ↓reduceIte];refine ⟨_, .of hH.at', _, zw (v := V.ref x.t) (by rw [Ze, hx]; rfl), _, rfl, _, .of hA.tup, _, zw (j := 1) rfl, .inl ⟨rfl, _, .of hA.words⟩, _, .of hrw, _, zw (v := V.str y) (by rw [Ze, er]; rfl), _, rfl, _, .of hA.words, _, dw hz, ?_⟩;refine ⟨_, .of hl, _, zw (v := V.int n) (by rw [Ze, ew]; rfl), _, .of hH.at', _, zw (v := V.ref x.t) (by rw [Ze, hx]; rfl), _, rfl, _, .of hA.tup, _, zw (j := 2) rfl, ?_⟩;refine ⟨_, rfl, _, .of hA.grid, _, zw (v := V.ref g) (by rw [Ze, hg]; rfl), ?_⟩;exact ⟨_, rfl, _, .of hgr, _, zw (v := V.int m) (by rw [Ze, en]; rfl), _, rfl, _, rfl, ⟨bn, by omega, by omega⟩, rfl, _, _, by rw [scL, tm]⟩
    . rintro σ H2 ⟨rfl, v1, v2, rfl⟩
      simp only [zc, zd, ↓reduceIte];exact q
end
theorem ce : ∀ {l : List Nat}, (∀ x ∈ l, 1 <= x) -> 1 <= l.prod
  | [], _ => Zm _
  | x :: l, h => by
    rw [YK];exact Yq (h x ZA) (ce fun y hy => h y (Zv _ hy))
theorem cf : ∀ {zs : List Int} {m : Nat} {z : Int}, zs[m]? = some z -> zs.idxOf z <= m
  | [], m, z, h => by simp at h
  | y :: zs, 0, z, h => by
    simp at h;subst h;simp
  | y :: zs, m + 1, z, h => by
    rw [List.idxOf_cons]
    cases y == z with
    | true => exact ZE _
    | false => exact YR (cf (by simpa using h))
theorem zb3 (y z : Int) : eqV (V.int y) (V.int z) = decide (y = z) := by
  show (y == z) = decide (y = z)
  by_cases h : y = z
  . subst h; simp
  . simp [h]
theorem zfx {zs : List Int} {z : Int} (h : z ∈ zs) : FirstAt (zs.map V.int) (V.int z) (zs.idxOf z) := by
  have hl := Zz.mpr h;refine ⟨rfl, ?_, ⟨V.int z, ?_, ?_⟩, fun m y hm e => ?_⟩
  . rw [ZS]
    intro x hx;obtain ⟨y, _, rfl⟩ := Zp.mp hx;rfl
  . rw [Ze, Zb hl, Yu]
    rfl
  . rw [zb3]
    exact decide_eq_true rfl
  . rw [Ze] at e
    have hml : m < zs.length := by omega
    rw [Zb hml] at e;cases e;rw [zb3, decide_eq_false];intro ez;have hle : zs.idxOf z <= m := cf (by rw [Zb hml, ez]);omega
theorem hideD {t : TS} {D : Ends} {σ : L2.St} {H : Hp} (h : ∀ E : Ends, E = D -> t E σ H) : t D σ H := h D rfl
def PvGf (H : Hp) (i : Nat) (ys : List V) (H' : Hp) : Prop := H' = H /\ ∃ gs : List Int, ys = gs.map V.int /\ gs.length = i
def smL (ds : List HD) (row : List Str) (ws gs : List Int) (n : Nat) : List Int := (List.range n).map fun j => scL ds row ws j ds.length + gs.getD j 0
theorem fv (ds : List HD) (row : List Str) (ws gs : List Int) (n : Nat) : (smL ds row ws gs n).length = n := by rw [smL, Za, Yc]
theorem zgt (ds : List HD) (row : List Str) (ws gs : List Int) (n : Nat) {y : Int} (h : gs[n]? = some y) : smL ds row ws gs (n + 1) = smL ds row ws gs n ++ [scL ds row ws n ds.length + y] := by
  rw [smL, Yn, Zn, List.map_singleton, Zk, h];rfl
def BsL (ds : List HD) (row : List Str) (ws gs : List Int) (n p : Nat) : Prop := ∃ m, m ∈ smL ds row ws gs n /\ (∀ x ∈ smL ds row ws gs n, x <= m) /\ p = (smL ds row ws gs n).idxOf m
def zdy (ds : List HD) (n : Nat) (pl : List Str -> Nat) : Prop := ∃ ws gs : List Int, ws.length = ds.length /\ (∀ x ∈ ws, 0 <= x) /\ ∀ r ∈ z9 (ds.map HD.words), BsL ds r ws gs n (pl r)
def PvPs (ds : List HD) (ws gs : List Int) (a o b l g d : Addr) (mode : Int) (H : Hp) (n : Nat) (rs : List (List Str)) (i : Nat) (σ : L2.St) (H' : Hp) : Prop := ∃ pl : List Str -> Nat, (∀ c u, c ≠ d -> H c = some u -> H' c = some u) /\ H' d = some (.dT (yq pl (rs.take i))) /\ (∀ r ∈ rs.take i, pl r < n) /\ (0 < mode -> ∀ r ∈ rs.take i, BsL ds r ws gs n (pl r)) /\ ∃ v1 v2 v3 v4 : Option V, σ = [some (.ref a), some (.ref o), some (.ref b), some (.int mode), some (.ref l), some (.ref g), some (.ref d), v1, v2, v3, v4, none]
def PvSm (st : L2.St) (s : Addr) (zf : Nat -> List Int) (H : Hp) (i : Nat) (σ : L2.St) (H' : Hp) : Prop := Same H H' /\ ∃ v : Option V, H' s = some (.lst ((zf i).map V.int)) /\ σ = st ++ [v, none]
def PvWs (H : Hp) (i : Nat) (ys : List V) (H' : Hp) : Prop := H' = H /\ ∃ ws : List Int, ys = ws.map V.int /\ ws.length = i /\ ∀ n ∈ ws, 0 <= n /\ n <= 10 ^ 60
theorem ou (a : Int) {n : Int} (h : 0 < n) : 0 <= a % n /\ a % n < n := ⟨ZV _ (by omega), ZR _ h⟩
def ci (K : Fg) : Sp := fun vs H Q _ => ∃ (a o b : Addr) (ns : List Int) (outs : List Str) (xs : List HX) (ds : List HD), vs = [.ref a, .ref o, .ref b] /\ SqL K H a (ns.map V.int) /\ H o = some (.lst (outs.map V.str)) /\ HandsL H b xs ds /\ GoodHouse outs ds /\
  ∀ (H' : Hp) (t : Addr) (pl : List Str -> Nat), Same H H' -> H' t = some (.dT (yq pl (z9 (ds.map HD.words)))) -> (∀ r ∈ z9 (ds.map HD.words), pl r < outs.length) -> (zy ns 4 % 5 ≠ 0 -> zy ns 4 % 5 ≠ 3 -> zdy ds outs.length pl) -> Q (.ref t) H'
section
variable {P : Program} {w : World} {K : Fg} {mg : Str -> Option Value} {base : Heap} {a : Ad}
theorem nh (B : Bt mg) (yt : FnAt P w K mg base "_law_cell_at" 1 ["script", "k"] (nt K)) (wp : FnAt P w K mg base "_law_drawn" 2 ["script", "k"] (ef K)) (kj : FnAt P w K mg base "_law_rows" 1 ["hands"] zcm) (m4 : FnAt P w K mg base "_law_score" 1 ["hands", "row", "weights", "place"] zax) (D : zi K mg "_law_places" sm ["script", "outcomes", "hands"]) : FnAt P w K mg base "_law_places" 3 ["script", "outcomes", "hands"] (ci K) := by
  refine FnAt.of D sc_law_places (fun vs H Q E h => ?_) (fun f cdv A outer s H vs Q E hr h => ?_)
  . obtain ⟨a, o, b, ns, outs, xs, ds, rfl, _⟩ := h
    rfl
  . obtain ⟨a, o, b, ns, outs, xs, ds, rfl, ha, ho, hH, G, q⟩ := h
    refine ⟨_, (@zj _ _ _ _ _ (zz (i := 3) sc_law_places.nd rfl (Or.inl rfl) (@zm _ _ _ _ _ _ _ _ ym (zk yt (hr.mono (by decide)) rfl (za (pv 0) (za (@ze _ _ _ _) (@zb _)))) (@ze _ _ _ _))) (@zj _ _ _ _ _ (vh (i := 4) ["j"] ["script", "outcomes", "hands", "mode", "weights", "gifts", "places", "row", "place", "sums", "i", "cell"] sc_law_places.nd rfl rfl rfl (yl rfl B.range (za (zo zq rfl B.len ya (za (pv 2) (@zb _))) (@zb _))) (fun _ => (zp (i := 0) (show (["j", "script", "outcomes", "hands", "mode", "weights", "gifts", "places", "row", "place", "sums", "i", "cell"] : List Str).Nodup by decide +kernel) rfl (Or.inl rfl))) (fun _ => (@yc _)) (fun _ => (@zm _ _ _ _ _ _ _ _ yp (@ze _ _ _ _) (@zm _ _ _ _ _ _ _ _ ym (zk wp (hr.mono (by decide)) rfl (za (pv 1) (za (@zm _ _ _ _ _ _ _ _ yp (@ze _ _ _ _) (pv 0)) (@zb _)))) (@ze _ _ _ _)))) rfl (by decide +kernel) rfl rfl rfl) (@zj _ _ _ _ _ (@yj _ _ _ _ _ _ _ _ (@yf _ _ _ _ _ _ _ _ vo (pv 3) (@ze _ _ _ _) (ye _)) (@zh _ _ _ (vh (i := 4) ["j"] ["script", "outcomes", "hands", "mode", "weights", "gifts", "places", "row", "place", "sums", "i", "cell"] sc_law_places.nd rfl rfl rfl (yl rfl B.range (za (zo zq rfl B.len ya (za (pv 2) (@zb _))) (@zb _))) (fun _ => (zp (i := 0) (show (["j", "script", "outcomes", "hands", "mode", "weights", "gifts", "places", "row", "place", "sums", "i", "cell"] : List Str).Nodup by decide +kernel) rfl (Or.inl rfl))) (fun _ => (@yc _)) (fun _ => (xi zfc rfl B.int bz (za (@v9 _ _ _ _ _ _ _ _ vo (pv 0) (@ze _ _ _ _) (ye _)) (@zb _)))) rfl (by decide +kernel) rfl rfl rfl)) (@yb _)) (@zj _ _ _ _ _ (vh (i := 5) ["i"] ["script", "outcomes", "hands", "mode", "weights", "gifts", "places", "row", "place", "sums", "i?", "cell"] sc_law_places.nd rfl rfl rfl (yl rfl B.range (za (zo zq rfl B.len ya (za (pv 1) (@zb _))) (@zb _))) (fun _ => (zp (i := 0) (show (["i", "script", "outcomes", "hands", "mode", "weights", "gifts", "places", "row", "place", "sums", "i?", "cell"] : List Str).Nodup by decide +kernel) rfl (Or.inl rfl))) (fun _ => (@yc _)) (fun _ => (@zm _ _ _ _ _ _ _ _ ym (zk wp (hr.mono (by decide)) rfl (za (pv 1) (za (@zm _ _ _ _ _ _ _ _ yp (@ze _ _ _ _) (pv 0)) (@zb _)))) (@ze _ _ _ _))) rfl (by decide +kernel) rfl rfl rfl) (@zj _ _ _ _ _ (zz (i := 6) sc_law_places.nd rfl (Or.inl rfl) (@al _ _)) (@zj _ _ _ _ _ (yx PassesOwn.never rfl (@yg _ _ _ _ (zk kj (hr.mono (by decide)) rfl (za (pv 2) (@zb _)))) (zp (i := 7) sc_law_places.nd rfl (Or.inl rfl)) (@zj _ _ _ _ _ (zz (i := 8) sc_law_places.nd rfl (Or.inl rfl) (@zm _ _ _ _ _ _ _ _ ym (zk wp (hr.mono (by decide)) rfl (za (pv 0) (za (@zm _ _ _ _ _ _ _ _ yp (@ze _ _ _ _) (zo dl rfl B.len ya (za (pv 6) (@zb _)))) (@zb _)))) (zo zq rfl B.len ya (za (pv 1) (@zb _))))) (@zj _ _ _ _ _ (@yj _ _ _ _ _ _ _ _ (@yf _ _ _ _ _ _ _ _ bg (pv 3) (@ze _ _ _ _) (ye _)) (@zj _ _ _ _ _ (zz (i := 9) sc_law_places.nd rfl (Or.inl rfl) (@xm _ _ _ _ (@zb _))) (@zj _ _ _ _ _ (yx PassesOwn.never rfl (yl rfl B.range (za (zo zq rfl B.len ya (za (pv 1) (@zb _))) (@zb _))) (zp (i := 10) sc_law_places.nd rfl (Or.inl rfl)) (@zh _ _ _ (wx (qe PySem.F.plainAttrs_list PySem.F.slot_list_append PySem.F.type_list_append qw (pv 9) (za (@zm _ _ _ _ _ _ _ _ yp (zk m4 (hr.mono (by decide)) rfl (za (pv 2) (za (pv 7) (za (pv 4) (za (pv 10) (@zb _)))))) (@zt _ _ _ _ _ _ _ z0 (pv 5) (pv 10) (fun _ _ => rfl))) (@zb _)))))) (@zh _ _ _ (zz (i := 8) sc_law_places.nd rfl (Or.inl rfl) (qe PySem.F.plainAttrs_list PySem.F.slot_list_index PySem.F.type_list_index ck (pv 9) (za (zo (zf0 rfl) rfl B.max zfs (za (pv 9) (@zb _))) (@zb _))))))) (@yb _)) (@zh _ _ _ (jf (pv 8) (ax (pv 6) (pv 7) (ip (hu10 hr)))))))) (@zj _ _ _ _ _ (@yj _ _ _ _ _ _ _ _ (@yf _ _ _ _ _ _ _ _ vo (pv 3) (@ze _ _ _ _) (ye _)) (@zj _ _ _ _ _ (zz (i := 11) sc_law_places.nd rfl (Or.inl rfl) (@zm _ _ _ _ _ _ _ _ ym (@zm _ _ _ _ _ _ _ _ xc (zk yt (hr.mono (by decide)) rfl (za (pv 0) (za (@ze _ _ _ _) (@zb _)))) (@ze _ _ _ _)) (@zm _ _ _ _ _ _ _ _ ld (@ze _ _ _ _) (@ze _ _ _ _)))) (@zj _ _ _ _ _ (zz (i := 7) sc_law_places.nd rfl (Or.inl rfl) (@zt _ _ _ _ _ _ _ z0 (xi (gb rfl) rfl B.list vj (za (pv 6) (@zb _))) (@zm _ _ _ _ _ _ _ _ ym (pv 11) (zo dl rfl B.len ya (za (pv 6) (@zb _)))) (fun _ _ => rfl))) (@zh _ _ _ (jf (@zm _ _ _ _ _ _ _ _ ym (@zm _ _ _ _ _ _ _ _ xc (pv 11) (@ze _ _ _ _)) (zo zq rfl B.len ya (za (pv 1) (@zb _)))) (ax (pv 6) (pv 7) (ip (hu10 hr))))))) (@yb _)) (@zh _ _ _ (@zn _ _ _ _ (pv 6)))))))))), ?_⟩;rw [show start ["script", "outcomes", "hands", "mode", "weights", "gifts", "places", "row", "place", "sums", "i", "cell"] [V.ref a, V.ref o, V.ref b] = [some (V.ref a), some (V.ref o), some (V.ref b), none, none, none, none, none, none, none, none, none] from rfl];refine j2 fun T hT => ?_
    have d4 := G.hands;have o8 := G.outs1;have lx := hH.len;simp only [zc, zd, ↓reduceIte];refine ⟨a, ns, 4, rfl, ha, _, rfl, by decide, ?_⟩;have md := ou (zy ns 4) (n := 5) (by decide);generalize zy ns 4 % 5 = mode at *;refine ⟨_, .inl (.of hH.at'), ?_⟩;rw [Za, hH.len];refine ⟨by omega, by omega, fun dd => ?_⟩;rw [Zw];refine xg (PvWs H) ⟨rfl, [], rfl, rfl, fun n hn => by cases hn⟩ ?_ ?_ ?_
    . rintro i ys H2 hi ⟨rfl, ws, rfl, lw, bw⟩
      rw [Za, lw];exact Zd (show i <= 4 by omega) (by decide)
    . rintro i ys H2 hi ⟨rfl, ws, rfl, lw, bw⟩
      simp only [zc, zd, ↓reduceIte];refine ⟨a, ns, 400 + i, by simp, ha, _, rfl, by decide, ?_⟩;have := ou (sw ns (400 + i)) (n := 9) (by decide);refine ⟨rfl, ws ++ [1 + sw ns (400 + i) % 9], by simp, by simp [lw], fun n hn => ?_⟩
      rcases ZH.mp hn with z | z
      . exact bw n z
      . rw [ZC.mp z]
        omega
    . rintro ys H2 ⟨rfl, ws, rfl, lw, bw⟩ l hl
      have S2 : Same H2 (upd H2 l (.lst (ws.map V.int))) := Same.upd (Same.refl _) hl;have t2 : upd H2 l (.lst (ws.map V.int)) l = some (.lst (ws.map V.int)) := zg;generalize upd H2 l (.lst (ws.map V.int)) = H3 at *;rw [hT];clear hT T;refine hideL fun T U hT hU => ?_
      refine hideD fun DD hD => ?_
      have rest : ∀ (l : Addr) (ws : List Int) (H3 : Hp), Same H2 H3 -> H3 l = some (.lst (ws.map V.int)) -> ws.length = ds.length -> (∀ n ∈ ws, 0 <= n /\ n <= 10 ^ 60) -> U DD [some (V.ref a), some (V.ref o), some (V.ref b), some (V.int mode), some (V.ref l), none, none, none, none, none, none, none] H3 := by
        clear hT T hl t2 l lw bw ws S2 H3;intro l ws H3 S2 t2 lw bw;rw [hU];clear hU U;refine j2 fun T hT => ?_
        have hH3 := hH.mono S2;have ho3 := S2 _ _ ho;have ha3 := Same.seq S2 ha;simp only [zc, zd, ↓reduceIte];refine ⟨_, .inl (.of ho3), ?_⟩;rw [Za];refine ⟨by omega, by omega, fun dd => ?_⟩;rw [Zw];refine xg (PvGf H3) ⟨rfl, [], rfl, rfl⟩ ?_ ?_ ?_
        . rintro i ys H4 hi ⟨rfl, gs, rfl, lg⟩
          rw [Za, lg];exact Zd (show i <= 8 by omega) (by decide)
        . rintro i ys H4 hi ⟨rfl, gs, rfl, lg⟩
          simp only [zc, zd, ↓reduceIte];exact ⟨a, ns, 500 + i, by simp, ha3, _, rfl, by decide, rfl, gs ++ [sw ns (500 + i) % 7], by simp, by simp [lg]⟩
        . rintro ys H4 ⟨rfl, gs, rfl, lg⟩ g hg
          have S4 : Same H4 (upd H4 g (.lst (gs.map V.int))) := Same.upd (Same.refl _) hg;have t4 : upd H4 g (.lst (gs.map V.int)) g = some (.lst (gs.map V.int)) := zg;generalize upd H4 g (.lst (gs.map V.int)) = H5 at *;intro d hd;have S5 : Same H5 (upd H5 d (.dT [])) := Same.upd (Same.refl _) hd;have t5 : upd H5 d (.dT []) d = some (.dT []) := zg
          have hd2 : H2 d = none := by
            cases e : H2 d with
            | none => rfl
            | some u => rw [(S2.trans S4) _ _ e] at hd; cases hd
          generalize upd H5 d (.dT []) = H6 at *;rw [hT];clear hT T;refine uo fun T hT => ?_
          simp only [zc, zd, ↓reduceIte];have hH6 := (hH3.mono (S4.trans S5));have ho6 := (S4.trans S5) _ _ ho3;have ha6 := Same.seq (S4.trans S5) ha3;have hg6 := S5 _ _ t4;have hl6 := (S4.trans S5) _ _ t2;refine ⟨b, xs, ds, rfl, hH6, d4.2, fun d hd => (G.words1 d hd).2, fun H7 p7 as S7 hR => ?_⟩;have hrw := fun r (hr : r ∈ z9 (ds.map HD.words)) => zbd (ds := ds) hr
          have hnd : (z9 (ds.map HD.words)).Nodup := ig fun ws hws => by
            obtain ⟨d, hd, rfl⟩ := Zp.mp hws;exact G.wordsD d hd
          have few : (z9 (ds.map HD.words)).length <= 4096 := by
            have := rg (wss := ds.map HD.words) (by rw [Za]; exact d4.2) (fun ws hws => by
              obtain ⟨d, hd, rfl⟩ := Zp.mp hws
              exact (G.words1 d hd).2) (ds.map HD.words).length (Zm _)
            rw [Zt] at this;exact this
          have hpos : 0 < (z9 (ds.map HD.words)).length := by
            rw [dv]
            exact ce fun z hz => by
              obtain ⟨ws, hws, rfl⟩ := Zp.mp hz;obtain ⟨d, hd, rfl⟩ := Zp.mp hws;exact (G.words1 d hd).1
          have d7 := S7 _ _ t5
          have nda : ∀ c u, H7 c = some u -> (∀ kvs, u ≠ .dT kvs) -> c ≠ d := fun c u h1 h2 z => by
            rw [z, d7] at h1;cases h1;exact h2 _ rfl
          refine ⟨_, rfl, ⟨_, .of hR.lst⟩, ?_⟩;generalize hrs : z9 (ds.map HD.words) = rs at *;refine x9 (xs := as.map V.ref) (PvPs ds ws gs a o b l g d mode H7 outs.length rs) ⟨fun _ => 0, fun c u _ h => h, d7, (fun r hr => by cases hr), (fun _ r hr => by cases hr), _, _, _, _, rfl⟩ ?_ ?_ ?_
          . rintro i σ H8 hi ⟨pl, S8, h8, hp8, hb8, v1, v2, v3, v4, rfl⟩
            exact .of (S8 _ _ (nda _ _ hR.lst nofun) hR.lst)
          . rintro i x σ H8 hx ⟨pl, S8, h8, hp8, hb8, v1, v2, v3, v4, rfl⟩
            obtain ⟨c, hc, rfl⟩ := yv hx;have hi : i < rs.length := by rw [<- hR.tups.len]; exact (Zc.mp hc).1
            have er : rs[i]? = some rs[i] := Zb hi;generalize rs[i] = r at er;have hm : r ∈ rs := Zi er;have hc7 := hR.tups.at' i c r hc er;have hc8 := S8 _ _ (nda _ _ hc7 nofun) hc7;have o7 := S7 _ _ ho6;have ho8 := S8 _ _ (nda _ _ o7 nofun) o7;have l7 := S7 _ _ hl6;have hl8 := S8 _ _ (nda _ _ l7 nofun) l7;have g7 := S7 _ _ hg6;have hg8 := S8 _ _ (nda _ _ g7 nofun) g7;have hH7 := hH6.mono S7;rw [zby];refine uo fun T2 hT2 => ?_
            simp only [zc, zd, ↓reduceIte];have S26 : Same H2 H7 := S2.trans (S4.trans (S5.trans S7));have Sa : Same H2 H8 := fun c u h => S8 _ _ (fun z => by rw [z, hd2] at h; cases h) (S26 _ _ h)
            refine ⟨_, h8, a, ns, 300 + (yq pl (rs.take i)).length, by simp, Same.seq Sa ha, _, .inl (.of ho8), _, rfl, by rw [Za]; omega, ?_⟩;have hdm := ou (sw ns (300 + (yq pl (rs.take i)).length)) (n := ((outs.map V.str).length : Nat)) (by rw [Za]; omega);obtain ⟨p, hp⟩ : ∃ p : Nat, sw ns (300 + (yq pl (rs.take i)).length) % ((outs.map V.str).length : Nat) = (p : Int) := ⟨_, (ZW hdm.1).symm⟩;rw [hp] at hdm ⊢;rw [Za] at hdm;have hpo : p < outs.length := by omega
            clear hdm hp;rw [hT2];clear hT2 T2;refine hideL fun T3 U3 hT3 hU3 => ?_
            refine hideD fun D3 hD3 => ?_
            have rest3 : ∀ (p : Nat) (H9 : Hp) (v3 v4 : Option V), Same H8 H9 -> p < outs.length -> (0 < mode -> BsL ds r ws gs outs.length p) -> U3 D3 [some (V.ref a), some (V.ref o), some (V.ref b), some (V.int mode), some (V.ref l), some (V.ref g), some (V.ref d), some (V.ref c), some (V.int p), v3, v4, none] H9 := by
              intro p H9 v3 v4 S9 hp hb;rw [hU3, hD3];simp only [zc, zd, ↓reduceIte]
              have hri : r ∉ rs.take i := fun z => by
                obtain ⟨j, hj⟩ := Yb z;have lj := (Zc.mp hj).1;rw [Zj] at lj;rw [Yt (by omega)] at hj;have e1 := (Zc.mp hj).2;have e2 := (Zc.mp er).2;exact Ys.mp hnd j i (by omega) hi (by omega) (e1.trans e2.symm)
              refine ⟨_, DPut.t (k := yw r) (S9 _ _ h8) (by rw [v5]; exact S9 _ _ hc8) ?_, fun q => if q = r then p else pl q, fun e u he h => ?_, ?_, fun q hq => ?_, fun h0 q hq => ?_, _, _, _, _, rfl⟩
              . rw [yq, Za, Zj]
                exact ZQ (ZB _ _) (ZQ few (by decide))
              . rw [zx he]
                exact S9 _ _ (S8 _ _ he h)
              . rw [zg, zbc hri, Zq, er]
                rfl
              . rw [Zq, er] at hq
                show (if q = r then p else pl q) < outs.length
                split
                . exact hp
                . rename_i hne
                  rcases ZH.mp hq with z | z
                  . exact hp8 q z
                  . exact absurd (ZC.mp z) hne
              . rw [Zq, er] at hq
                show BsL ds q ws gs outs.length (if q = r then p else pl q)
                split
                . rename_i hq'
                  rw [hq'];exact hb h0
                . rename_i hne
                  rcases ZH.mp hq with z | z
                  . exact hb8 h0 q z
                  . exact absurd (ZC.mp z) hne
            simp only [zc, zd, ↓reduceIte]
            split
            . rw [hT3]
              clear hT3 T3 hU3;simp only [zc, zd, ↓reduceIte];refine ⟨by decide, fun s hs => ?_⟩;have S9 : Same H8 (upd H8 s (.lst [])) := Same.upd (Same.refl _) hs;have t9 : upd H8 s (.lst []) s = some (.lst []) := zg;generalize upd H8 s (.lst []) = H9 at *;refine ⟨_, .inl (.of (S9 _ _ ho8)), ?_⟩;rw [Za];refine ⟨by omega, by omega, ?_⟩;rw [Zw];refine xa (PvSm [some (V.ref a), some (V.ref o), some (V.ref b), some (V.int mode), some (V.ref l), some (V.ref g), some (V.ref d), some (V.ref c), some (V.int p), some (V.ref s)] s (smL ds r ws gs) H8) ⟨S9, _, t9, rfl⟩ ?_ ?_
              . rintro j σ H10 hj ⟨S10, v, h10, rfl⟩
                rw [show (0 : Int) + (j : Int) = ((j : Nat) : Int) by omega];have eg : gs[j]? = some (gs[j]'(by omega)) := Zb (by omega);generalize gs[j]'(by omega) = y at eg;simp only [zc, zd, ↓reduceIte, ZN, ZO];refine ⟨.inl ⟨rfl, _, .of h10⟩, b, c, l, xs, outs, ds, r, ws, j, rfl, hH.mono (Sa.trans S10), G, S10 _ _ hc8, hrw r hm, S10 _ _ hl8, lw, fun n hn => ⟨by have := (bw n hn).1; omega, (bw n hn).2⟩, hj, ?_⟩;refine ⟨_, .of (S10 _ _ hg8), _, zw (v := V.int y) (by rw [Ze, eg]; rfl), _, rfl, _, rfl, _, h10, ?_, fun e u he => ?_, _, ?_, rfl⟩
                . rw [Za, fv]
                  exact Zh (show j < 9 by omega) (by decide)
                . rw [zx (fun z => by rw [z, hs] at he; cases he)]
                  exact S10 _ _ he
                . rw [zg, zgt ds r ws gs j eg, Zn]
                  rfl
              . rintro σ H10 ⟨S10, v, h10, rfl⟩
                simp only [zc, zd, ↓reduceIte, ZN, ZO];refine ⟨.inl ⟨rfl, _, .of h10⟩, _, .of h10, by rw [fv]; omega, fun m hm1 hm2 => ⟨_, .of h10, _, zfx hm1, rest3 _ H10 _ _ S10 ?_ fun _ => ⟨m, hm1, hm2, rfl⟩⟩⟩;have := Zz.mpr hm1;rw [fv] at this;exact this
            . rename_i h0
              exact rest3 p H8 v3 v4 (Same.refl _) hpo fun h => absurd (decide_eq_true h) h0
          . rintro σ H8 ⟨pl, S8, h8, hp8, hb8, v1, v2, v3, v4, rfl⟩
            rw [Za, hR.tups.len, Zt] at h8 hp8 hb8;rw [hT];clear hT T;have S26 : Same H2 H7 := S2.trans (S4.trans (S5.trans S7));have Sa : Same H2 H8 := fun c u h => S8 _ _ (fun z => by rw [z, hd2] at h; cases h) (S26 _ _ h)
            simp only [zc, zd, ↓reduceIte]
            have fin : ∀ (H9 : Hp) (pl : List Str -> Nat), Same H2 H9 -> H9 d = some (.dT (yq pl rs)) -> (∀ r ∈ rs, pl r < outs.length) -> (mode ≠ 0 -> mode ≠ 3 -> zdy ds outs.length pl) -> DD.rt (V.ref d) H9 := by
              intro H9 pl S9 h9 hp9 hb9;rw [hD];exact q H9 d pl S9 h9 hp9 hb9
            refine ⟨rfl, ?_⟩
            split
            . refine ⟨a, ns, 4, rfl, Same.seq Sa ha, _, rfl, ⟨by decide, by decide⟩, ⟨by decide, by decide, by decide⟩, by decide, _, h8, fun bs hk p hp => ?_⟩
              have T8 := ij hk;have S9 : Same H8 (upd H8 p (.lst (bs.map V.ref))) := Same.upd (Same.refl _) hp;have t9 : upd H8 p (.lst (bs.map V.ref)) p = some (.lst (bs.map V.ref)) := zg;generalize upd H8 p (.lst (bs.map V.ref)) = H9 at *;generalize zy ns 4 / 5 % 10 ^ Int.toNat 18 = cell;have hpl : (yq pl rs).length = rs.length := by rw [yq, Za]
              have h1 := ou cell (n := (rs.length : Nat)) (by omega);obtain ⟨k, ek⟩ : ∃ k : Nat, cell % (rs.length : Nat) = (k : Int) := ⟨_, (ZW h1.1).symm⟩;rw [ek] at h1;have hk1 : k < rs.length := by omega
              have er : rs[k]? = some rs[k] := Zb hk1;generalize rs[k] = r at er;obtain ⟨c, hc⟩ : ∃ c, bs[k]? = some c := ⟨bs[k]'(by rw [T8.len]; exact hk1), by simp⟩;have hcr := S9 _ _ (T8.at' k c r hc er);have h2 := ou (cell / 257) (n := (outs.length : Nat)) (by omega);obtain ⟨m, em⟩ : ∃ m : Nat, cell / 257 % (outs.length : Nat) = (m : Int) := ⟨_, (ZW h2.1).symm⟩;rw [em] at h2;refine ⟨_, S9 _ _ h8, by rw [hpl]; omega, _, .of t9, V.ref c, by rw [hpl, ek]; exact zw (by rw [Ze, hc]; rfl), ⟨by decide, by decide⟩, _, .inl (.of ((Sa.trans S9) _ _ ho)), by rw [Za]; omega, ?_⟩;rw [Za, em];refine ⟨_, DPut.t (k := yw r) (S9 _ _ h8) (by rw [v5]; exact hcr) (by rw [hpl]; exact ZQ few (by decide)), ?_⟩;refine fin _ (fun q => if q = r then m else pl q) (fun e u he => ?_) ?_ (fun q hq => ?_) fun _ h3 => absurd (of_decide_eq_true ‹_›) (by simpa using h3)
              . rw [zx (fun z => by rw [z, hd2] at he; cases he)]
                exact (Sa.trans S9) _ _ he
              . rw [zg, cp (Zi er)]
              . show (if q = r then m else pl q) < outs.length
                split
                . omega
                . exact hp8 q hq
            . exact fin H8 pl Sa h8 hp8 fun h0 _ => ⟨ws, gs, lw, fun x hx => (bw x hx).1, fun r hr => hb8 (by omega) r (by rwa [hrs] at hr)⟩
      simp only [zc, zd, ↓reduceIte];refine ⟨rfl, ?_⟩
      split
      . rw [hT]
        clear hT;simp only [zc, zd, ↓reduceIte];refine ⟨_, .inl (.of ((hH.mono S2).at')), ?_⟩;rw [Za, hH.len];refine ⟨by omega, by omega, fun dd => ?_⟩;rw [Zw];refine xg (PvWs H3) ⟨rfl, [], rfl, rfl, fun n hn => by cases hn⟩ ?_ ?_ ?_
        . rintro i ys H4 hi ⟨rfl, ws, rfl, lw, bw⟩
          rw [Za, lw];exact Zd (show i <= 4 by omega) (by decide)
        . rintro i ys H4 hi ⟨rfl, ws, rfl, lw, bw⟩
          simp only [zc, zd, ↓reduceIte];refine ⟨rfl, .inr ⟨rfl, ws ++ [if decide ((0 : Int) + i = 0) = true then 1 else 0], by simp, by simp [lw], fun n hn => ?_⟩⟩
          rcases ZH.mp hn with z | z
          . exact bw n z
          . rw [ZC.mp z]
            split <;> omega
        . rintro ys H4 ⟨rfl, ws, rfl, lw, bw⟩ l4 hl4
          exact rest l4 ws _ (S2.trans (Same.upd (Same.refl _) hl4)) zg lw bw
      . exact rest l ws H3 S2 t2 lw bw
end
theorem bq {H H' : Hp} {x : Addr} (S : Same H H') (h : H' x = none) : H x = none := by
  cases e : H x with
  | none => rfl
  | some u => rw [S _ _ e] at h; cases h
def putQ (pl : List Str -> Nat) (o : List Str) (k : Nat) (us : List Str) : List Nat := us.map fun u => pl (insP o k u)
def lq : Sp := fun vs H Q _ => ∃ (b t c : Addr) (xs : List HX) (outs : List Str) (ds : List HD) (pl : List Str -> Nat) (rs : List (List Str)) (ot : List Str) (k : Nat) (d : HD), vs = [.ref b, .ref t, .int k, .ref c] /\ HandsL H b xs ds /\ GoodHouse outs ds /\ H t = some (.dT (yq pl rs)) /\ ds[k]? = some d /\ H c = some (.tup (ot.map V.str)) /\ k <= ot.length /\ ot.length <= 8 /\ (∀ u ∈ d.words, insP ot k u ∈ rs /\ pl (insP ot k u) < outs.length) /\
  ∀ H' l ls, Same H H' -> H' l = some (.lst (ls.map V.ref)) -> IntsAt H' ls (colP d (putQ pl ot k d.words)) -> H l = none -> (∀ r ∈ ls, H r = none) -> Q (.ref l) H'
def PvGq (H : Hp) (pl : List Str -> Nat) (o : List Str) (k : Nat) (us : List Str) (i : Nat) (ys : List V) (H' : Hp) : Prop := Same H H' /\ ys = (nI (putQ pl o k (us.take i))).map V.int
def PvWc (H : Hp) (ns : List Int) (ps : List Nat) (i : Nat) (ys : List V) (H' : Hp) : Prop := H' = H /\ ys = ((ps.take i).map fun p => ns.getD p 0).map V.int
def PvGl (b t c l g : Addr) (k : Nat) (d : HD) (ps : List Nat) (H : Hp) (i : Nat) (σ : L2.St) (H' : Hp) : Prop := Same H H' /\ ∃ (ls : List Addr) (v : Option V), H' g = some (.lst (ls.map V.ref)) /\ g ∉ ls /\ (∀ r ∈ ls, H r = none) /\ IntsAt H' ls ((colP d ps).take i) /\ σ = [some (.ref b), some (.ref t), some (.int k), some (.ref c), some (.ref l), some (.ref g), v]
section
variable {P : Program} {w : World} {K : Fg} {mg : Str -> Option Value} {base : Heap} {a : Ad}
theorem sk (B : Bt mg) (D : zi K mg "_law_grid" pw ["hands", "places", "k", "others"]) : FnAt P w K mg base "_law_grid" 1 ["hands", "places", "k", "others"] lq := by
  refine FnAt.of D sc_law_grid (fun vs H Q E h => ?_) (fun f cdv A outer s H vs Q E hr h => ?_)
  . obtain ⟨b, t, c, xs, outs, ds, pl, rs, ot, k, d, rfl, _⟩ := h
    rfl
  . obtain ⟨b, t, c, xs, outs, ds, pl, rs, ot, k, d, rfl, hH, G, ht, hd, hc, hk, h8, hD, q⟩ := h
    refine ⟨_, (@zj _ _ _ _ _ (vh (i := 4) ["word"] ["hands", "places", "k", "others", "got", "grid", "worths"] sc_law_grid.nd rfl rfl rfl (@yg _ _ _ _ (@zt _ _ _ _ _ _ _ yh (@zt _ _ _ _ _ _ _ z0 (pv 0) (pv 2) (fun _ _ => rfl)) (@ze _ _ _ _) (fun _ _ => rfl))) (fun _ => (zp (i := 0) (show (["word", "hands", "places", "k", "others", "got", "grid", "worths"] : List Str).Nodup by decide +kernel) rfl (Or.inl rfl))) (fun _ => (@yc _)) (fun _ => (@df _ _ _ _ _ _ (hu10 hr) (pv 2) (@zm _ _ _ _ _ _ _ _ rb (@zm _ _ _ _ _ _ _ _ rb (@uz _ _ _ _ _ _ _ _ _ _ ju (pv 4) (@rf _) (@u0 _ _ _ (pv 3))) (@y7 _ _ _ _ _ (za (pv 0) (@zb _)))) (@uz _ _ _ _ _ _ _ _ _ _ ju (pv 4) (@u0 _ _ _ (pv 3)) (@rf _))) (fun _ _ => rfl))) rfl (by decide +kernel) rfl rfl rfl) (@zj _ _ _ _ _ (zz (i := 5) sc_law_grid.nd rfl (Or.inl rfl) (@xm _ _ _ _ (@zb _))) (@zj _ _ _ _ _ (yx PassesOwn.never rfl (@yg _ _ _ _ (@zt _ _ _ _ _ _ _ yh (@zt _ _ _ _ _ _ _ z0 (pv 0) (pv 2) (fun _ _ => rfl)) (@ze _ _ _ _) (fun _ _ => rfl))) (zp (i := 6) sc_law_grid.nd rfl (Or.inr rfl)) (@zh _ _ _ (wx (qe PySem.F.plainAttrs_list PySem.F.slot_list_append PySem.F.type_list_append qw (pv 5) (za (yk ["place"] ["hands", "places", "k", "others", "got", "grid", "worths"] rfl (@yg _ _ _ _ (pv 4)) (fun _ => (zp (i := 0) (show (["place", "hands", "places", "k", "others", "got", "grid", "worths"] : List Str).Nodup by decide +kernel) rfl (Or.inl rfl))) (fun _ => (@yc _)) (fun _ => (@zt _ _ _ _ _ _ _ z0 (pv 7) (pv 0) (fun _ _ => rfl))) rfl (by decide +kernel) rfl rfl) (@zb _)))))) (@zh _ _ _ (@zn _ _ _ _ (pv 5)))))), ?_⟩;rw [show start ["hands", "places", "k", "others", "got", "grid", "worths"] [V.ref b, V.ref t, V.int k, V.ref c] = [some (V.ref b), some (V.ref t), some (V.int k), some (V.ref c), none, none, none] from rfl];refine uo fun T hT => ?_
    simp only [zc, zd, ↓reduceIte];have hkl : k < ds.length := (Zc.mp hd).1;obtain ⟨x, hx⟩ : ∃ x, xs[k]? = some x := ⟨xs[k]'(by rw [hH.len]; exact hkl), by simp⟩;have hA := hH.hand k x d hx hd;have hmd := Zi hd;have w8 := (G.words1 d hmd).2;have ro := G.rows d hmd;refine ⟨_, .of hH.at', _, zw (v := V.ref x.t) (by rw [Ze, hx]; rfl), x.t, rfl, _, .of hA.tup, _, rfl, x.w, rfl, ⟨_, .of hA.words⟩, fun dd => ?_⟩;refine yo (xs := d.words.map V.str) (PvGq H pl ot k d.words) ⟨Same.refl _, rfl⟩ ?_ ?_ ?_
    . rintro i ys H2 hi ⟨S2, rfl⟩
      refine ⟨?_, .of (S2 _ _ hA.words)⟩;rw [Za, nI, Za, putQ, Za, Zj];exact Zd (ZB _ _) (Zd w8 (by decide))
    . rintro i y ys H2 hy ⟨S2, rfl⟩
      obtain ⟨u, hu, rfl⟩ := yv hy;obtain ⟨z1, z2⟩ := hD u (Zi hu);simp only [zc, zd, ↓reduceIte];refine ⟨_, S2 _ _ hc, fun H1 p1 S1 h1 => ⟨by decide, fun p2 hp2 => ?_⟩⟩;rw [dc (by rw [Za]; exact hk)] at h1;have T2 : Same H1 (upd H1 p2 (.tup [V.str u])) := Same.upd (Same.refl _) hp2;refine ⟨_, T2 _ _ h1, _, zg, ?_, fun H3 p3 S3 h3 => ?_⟩
      . rw [Zj, Za]
        exact Zd (show _ <= 9 by simp; omega) (by decide)
      have S23 := S2.trans (S1.trans (T2.trans S3));refine ⟨_, S23 _ _ hc, fun H4 p4 S4 h4 => ?_⟩;rw [jl (by rw [Za]; exact hk)] at h4;refine ⟨_, S4 _ _ h3, _, h4, ?_, fun H5 p5 S5 h5 => ?_⟩
      . simp only [Zo, Zj, Yh, Za, ZM, Ym]
        exact Zd (show _ <= 17 by omega) (by decide)
      have S25 := S23.trans (S4.trans S5)
      have hrow : H5 p5 = some (.tup ((insP ot k u).map V.str)) := by
        rw [h5, insP];simp
      have gt : DGet H5 t (.ref p5) (some (V.int (pl (insP ot k u)))) := by
        have := DGet.t (k := yw (insP ot k u)) (S25 _ _ ht) (b := p5) (by rw [v5]; exact hrow)
        rwa [j6 z1] at this
      refine ⟨_, gt, S25, ?_⟩;rw [Zq, hu];simp [putQ, nI]
    . rintro ys H2 ⟨S2, rfl⟩ l hl
      rw [Za, Zt];have S3 : Same H2 (upd H2 l (.lst ((nI (putQ pl ot k d.words)).map V.int))) := Same.upd (Same.refl _) hl;have h3 : upd H2 l (.lst ((nI (putQ pl ot k d.words)).map V.int)) l = some (.lst ((nI (putQ pl ot k d.words)).map V.int)) := zg;generalize upd H2 l (.lst ((nI (putQ pl ot k d.words)).map V.int)) = H3 at *;have S13 := S2.trans S3;have hH3 := hH.mono S13;have hA3 := hA.mono S13
      have hps : ∀ p ∈ putQ pl ot k d.words, p < outs.length := fun p hp => by
        obtain ⟨u, hu, rfl⟩ := Zp.mp hp;exact (hD u hu).2
      have lps : (putQ pl ot k d.words).length = d.words.length := by rw [putQ, Za]
      generalize putQ pl ot k d.words = ps at *;rw [hT];clear hT T;simp only [zc, zd, ↓reduceIte];refine ⟨by decide, fun g hg => ?_⟩;have S4 : Same H3 (upd H3 g (.lst [])) := Same.upd (Same.refl _) hg;have t4 : upd H3 g (.lst []) g = some (.lst []) := zg;generalize upd H3 g (.lst []) = H4 at *;have hH4 := hH3.mono S4;have hA4 := hA3.mono S4;refine ⟨_, .of hH4.at', _, zw (v := V.ref x.t) (by rw [Ze, hx]; rfl), x.t, rfl, _, .of hA4.tup, _, rfl, x.g, rfl, ⟨_, .of hA4.grid⟩, ?_⟩;refine x9 (xs := x.gs.map V.ref) (PvGl b t c l g k d ps H3) ⟨S4, [], _, t4, (by simp), (by simp), ⟨rfl, fun i a r e => by simp at e⟩, rfl⟩ ?_ ?_ ?_
      . rintro i σ H5 hi ⟨S5, ls, v, h5, ng, nn, T5, rfl⟩
        exact .of (S5 _ _ hA3.grid)
      . rintro i y σ H5 hy ⟨S5, ls, v, h5, ng, nn, T5, rfl⟩
        obtain ⟨e, he, rfl⟩ := re hy;have hi : i < d.worths.length := by have := (Zc.mp he).1; have := hA3.len; omega
        have er : d.worths[i]? = some d.worths[i] := Zb hi;have hrow := S5 _ _ (hA3.row i e _ he er);have hcl := G.cols d hmd _ (Zl hi);have hl5 := S5 _ _ h3;simp only [zc, zd, ↓reduceIte];refine ⟨.inl ⟨rfl, _, .of h5⟩, ⟨_, .of hl5⟩, fun dd => ?_⟩;refine yo (xs := (nI ps).map V.int) (PvWc H5 d.worths[i] ps) ⟨rfl, rfl⟩ ?_ ?_ ?_
        . rintro j ys H6 hj ⟨rfl, rfl⟩
          refine ⟨?_, .of hl5⟩;rw [Za, Za, Zj];exact Zd (ZB _ _) (Zd (show _ <= 8 by omega) (by decide))
        . rintro j y ys H6 hy ⟨rfl, rfl⟩
          obtain ⟨z, hz, rfl⟩ := ix hy;rw [nI, Ze] at hz
          obtain ⟨p, hpl⟩ : ∃ y, ps[j]? = some y := by
            cases e : ps[j]? with
            | none => rw [e] at hz; cases hz
            | some y => exact ⟨y, rfl⟩
          rw [hpl] at hz;cases hz;have lt := hps p (Zi hpl);rw [<- hcl] at lt;have ex : (d.worths[i])[p]? = some ((d.worths[i]).getD p 0) := by rw [Zk, Zb lt]; rfl
          simp only [zc, zd, ↓reduceIte];refine ⟨_, .of hrow, _, w5 ex, rfl, ?_⟩;rw [Zq, hpl, Zn, Zn];rfl
        . rintro ys H6 ⟨rfl, rfl⟩ l2 hl2
          rw [Za, nI, Za, Zt];have S7 : Same H6 (upd H6 l2 (.lst ((ps.map fun p => (d.worths[i]).getD p 0).map V.int))) := Same.upd (Same.refl _) hl2;have h7 : upd H6 l2 (.lst ((ps.map fun p => (d.worths[i]).getD p 0).map V.int)) l2 = some (.lst ((ps.map fun p => (d.worths[i]).getD p 0).map V.int)) := zg;have hgl : g ≠ l2 := fun z => by rw [<- z, h5] at hl2; cases hl2
          generalize upd H6 l2 (.lst ((ps.map fun p => (d.worths[i]).getD p 0).map V.int)) = H7 at *;refine ⟨_, S7 _ _ h5, ?_, fun e u he => ?_, ls ++ [l2], _, by rw [zg]; simp, by simp [ng, hgl], fun r hr => ?_, ?_, rfl⟩
          . rw [Za, T5.len, Zj, colP, Za]
            exact ZQ (ZB _ _) (Zh (show _ < 9 by omega) (by decide))
          . rw [zx (fun z => by rw [z, hg] at he; cases he)]
            exact S7 _ _ (S5 _ _ he)
          . rcases ZH.mp hr with z | z
            . exact nn r z
            . rw [ZC.mp z]
              exact bq S5 hl2
          . rw [Zq, colP, Ze, er]
            have T7 := (T5.mono S7).snoc h7;refine ⟨T7.len, fun j a r e1 e2 => ?_⟩
            rw [zx (fun z => by
              have := Zi e1;rw [z] at this
              rcases ZH.mp this with q | q
              . exact ng q
              . exact hgl (ZC.mp q))]
            exact T7.at' j a r e1 e2
      . rintro σ H5 ⟨S5, ls, v, h5, ng, nn, T5, rfl⟩
        simp only [zc, zd, ↓reduceIte];rw [Za, hA.len, ZG (by rw [colP, Za]; exact Zm _)] at T5;exact q H5 g ls (S13.trans S5) h5 T5 (bq S13 hg) fun r hr => bq S13 (nn r hr)
end
def zeb : Sp := fun vs H Q _ => ∃ i : Int, vs = [.int i] /\ Q (.bl true) H
def fh (K : Fg) : Sp := fun vs H Q _ => ∃ (g l : Addr) (rows : List (List Int)) (n : Nat) (ps : List Int), vs = [.ref g, .ref l] /\ Gd K H g rows n /\ H l = some (.lst (ps.map V.int)) /\ ps.length = n /\ Hon rows ps n /\ (∀ t, t < n -> ps.getD t 0 <= gcA rows t t) /\ Q (.bl true) H
def PvHo (g l : Addr) (H : Hp) (i : Nat) (σ : L2.St) (H' : Hp) : Prop := H' = H /\ ∃ v w : Option V, σ = [some (.ref g), some (.ref l), v, w]
def PvHo2 (g l : Addr) (t : Nat) (H : Hp) (i : Nat) (σ : L2.St) (H' : Hp) : Prop := H' = H /\ ∃ w : Option V, σ = [some (.ref g), some (.ref l), some (.int t), w]
section
variable {P : Program} {w : World} {K : Fg} {mg : Str -> Option Value} {base : Heap} {a : Ad}
theorem se (D : zi K mg "_law_turn" pz ["grid", "s", "t"]) : FnAt P w K mg base "_law_turn" 1 ["grid", "s", "t"] (uj K) := by
  refine FnAt.of D zbi (fun vs H Q E h => ?_) (fun f cdv A outer s H vs Q E hr h => ?_)
  . obtain ⟨g, as, rows, s, t, ns, x, y, rfl, _⟩ := h
    rfl
  . obtain ⟨g, as, rows, s, t, ns, x, y, rfl, G, h1, h2, h3, q⟩ := h
    refine ⟨_, (@zh _ _ _ (@zn _ _ _ _ (@zm _ _ _ _ _ _ _ _ w6 (@zt _ _ _ _ _ _ _ z0 (@zt _ _ _ _ _ _ _ z0 (pv 0) (pv 2) (fun _ _ => rfl)) (pv 2) (fun _ _ => rfl)) (@zt _ _ _ _ _ _ _ z0 (@zt _ _ _ _ _ _ _ z0 (pv 0) (pv 2) (fun _ _ => rfl)) (pv 1) (fun _ _ => rfl))))), ?_⟩;rw [show start ["grid", "s", "t"] [V.ref g, V.int s, V.int t] = [some (V.ref g), some (V.int s), some (V.int t)] from rfl];simp only [zc, zd, ↓reduceIte];obtain ⟨r, e1, e2⟩ := on G h1;exact ⟨_, G.1, _, e1, r, rfl, _, e2, _, w5 h2, _, G.1, _, e1, r, rfl, _, e2, _, w5 h3, _, rfl, _, rfl, q⟩
theorem uk (B : Bt mg) (D : zi K mg "_law_whole" qh ["found"]) : FnAt P w K mg base "_law_whole" 1 ["found"] zeb := by
  refine FnAt.of D zaa (fun vs H Q E h => ?_) (fun f cdv A outer s H vs Q E hr h => ?_)
  . obtain ⟨i, rfl, _⟩ := h
    rfl
  . obtain ⟨i, rfl, q⟩ := h
    refine ⟨_, (@zh _ _ _ (@zn _ _ _ _ (@oz _ _ _ _ _ _ _ (zo yr rfl B.isinstance yi (za (pv 0) (za (wq rfl B.int bz) (@zb _)))) (@nj _ _ _ _ _ (@zed _ _ _ _ (zo yr rfl B.isinstance yi (za (pv 0) (za (wq rfl B.bool de) (@zb _))))))))), ?_⟩;rw [show start ["found"] [V.int i] = [some (V.int i)] from rfl];simp only [zc, zd, ↓reduceIte];exact ⟨_, .int _, true, kit_ii, iteT ⟨_, .int _, false, zeh, q⟩⟩
theorem vv (B : Bt mg) (uk : FnAt P w K mg base "_law_whole" 1 ["found"] zeb) (se : FnAt P w K mg base "_law_turn" 1 ["grid", "s", "t"] (uj K)) (D : zi K mg "_law_honest" s9 ["grid", "pays"]) : FnAt P w K mg base "_law_honest" 2 ["grid", "pays"] (fh K) := by
  refine FnAt.of D sc_law_honest (fun vs H Q E h => ?_) (fun f cdv A outer s H vs Q E hr h => ?_)
  . obtain ⟨g, l, rows, n, ps, rfl, _⟩ := h
    rfl
  . obtain ⟨g, l, rows, n, ps, rfl, G, hl, lp, hon, own, q⟩ := h
    refine ⟨_, (@zj _ _ _ _ _ (@yj _ _ _ _ _ _ _ _ (PW.pt (@wm _ _ _ _ _ _ _ (@y0 _ _ _ _ (yz (zo yr rfl B.isinstance yi (za (pv 1) (za (wq rfl B.list vj) (@zb _)))))) (@vg _ _ _ _ (@yf _ _ _ _ _ _ _ _ mm (zo zq rfl B.len ya (za (pv 1) (@zb _))) (zo zq rfl B.len ya (za (pv 0) (@zb _))) (ye _))))) (@zh _ _ _ (@zn _ _ _ _ (@xb _ _ _ _))) (@yb _)) (@zj _ _ _ _ _ (yx PassesOwn.never rfl (yl rfl B.range (za (zo zq rfl B.len ya (za (pv 0) (@zb _))) (@zb _))) (zp (i := 2) sc_law_honest.nd rfl (Or.inl rfl)) (@zj _ _ _ _ _ (@yj _ _ _ _ _ _ _ _ (PW.pt (@wm _ _ _ _ _ _ _ (@y0 _ _ _ _ (yz (zk uk (hr.mono (by decide)) rfl (za (@zt _ _ _ _ _ _ _ z0 (pv 1) (pv 2) (fun _ _ => rfl)) (@zb _))))) (@vg _ _ _ _ (@yf _ _ _ _ _ _ _ _ bg (@zt _ _ _ _ _ _ _ z0 (pv 1) (pv 2) (fun _ _ => rfl)) (@zt _ _ _ _ _ _ _ z0 (@zt _ _ _ _ _ _ _ z0 (pv 0) (pv 2) (fun _ _ => rfl)) (pv 2) (fun _ _ => rfl)) (ye _))))) (@zh _ _ _ (@zn _ _ _ _ (@xb _ _ _ _))) (@yb _)) (@zh _ _ _ (yx PassesOwn.never rfl (yl rfl B.range (za (zo zq rfl B.len ya (za (pv 0) (@zb _))) (@zb _))) (zp (i := 3) sc_law_honest.nd rfl (Or.inl rfl)) (@zh _ _ _ (@yj _ _ _ _ _ _ _ _ (@yf _ _ _ _ _ _ _ _ bg (@zm _ _ _ _ _ _ _ _ w6 (@zt _ _ _ _ _ _ _ z0 (pv 1) (pv 2) (fun _ _ => rfl)) (@zt _ _ _ _ _ _ _ z0 (pv 1) (pv 3) (fun _ _ => rfl))) (zk se (hr.mono (by decide)) rfl (za (pv 0) (za (pv 3) (za (pv 2) (@zb _))))) (ye _)) (@zh _ _ _ (@zn _ _ _ _ (@xb _ _ _ _))) (@yb _))))))) (@zh _ _ _ (@zn _ _ _ _ (@xb _ _ _ _))))), ?_⟩;rw [show start ["grid", "pays", "t", "s"] [V.ref g, V.ref l] = [some (V.ref g), some (V.ref l), none, none] from rfl];simp only [zc, zd, ↓reduceIte];obtain ⟨as, g1, g2⟩ := G.ex;have n8 := G.n8;have hln : ((as.map V.ref).length : Nat) = n := by rw [Za, g2]
    have hgl : SqL K H g (as.map V.ref) := g1.1;refine ⟨_, .lst hl, true, g8, iteF ⟨_, .inl (.of hl), _, .inl hgl, rfl, ?_⟩⟩;rw [Za, lp, hln, if_neg (by simp)];refine ⟨_, .inl hgl, ?_⟩;rw [hln];refine ⟨by omega, by omega, ?_⟩;rw [Zw];refine xa (PvHo g l H) ⟨rfl, _, _, rfl⟩ ?_ ?_
    . rintro t σ H4 ht ⟨rfl, v, w, rfl⟩
      rw [show (0 : Int) + (t : Int) = ((t : Nat) : Int) by omega];obtain ⟨ns, e1, l1⟩ := G.sq t ht;obtain ⟨r, f1, f2⟩ := on g1 e1;have hpt := w5 (i6 (ps := ps) (t := t) (by omega));simp only [zc, zd, ↓reduceIte];refine ⟨_, .of hl, _, hpt, _, rfl, _, rfl, iteF ⟨_, .of hl, _, hpt, _, hgl, _, f1, r, rfl, _, f2, _, w5 (rc e1 (s := t) (by omega)), _, rfl, _, rfl, ite2 (fun h => ?_) fun _ => ?_⟩⟩
      . have := own t ht
        have := of_decide_eq_true h;omega
      refine ⟨_, .inl hgl, ?_⟩;rw [hln];refine ⟨by omega, by omega, ?_⟩;rw [Zw];refine xa (PvHo2 g l t H4) ⟨rfl, _, rfl⟩ ?_ ?_
      . rintro s' σ H5 hs ⟨rfl, w, rfl⟩
        rw [show (0 : Int) + (s' : Int) = ((s' : Nat) : Int) by omega];have hps := w5 (i6 (ps := ps) (t := s') (by omega));simp only [zc, zd, ↓reduceIte];refine ⟨_, .of hl, _, hpt, _, .of hl, _, hps, _, rfl, _, rfl, u6 G hs ht ?_⟩;refine ⟨_, rfl, ite2 (fun h => ?_) fun _ => ⟨rfl, _, rfl⟩⟩;have h1 := of_decide_eq_true h;have h2 := hon t s' ht hs;rw [z7] at h1;omega
      . rintro σ H5 ⟨rfl, w, rfl⟩
        exact ⟨rfl, _, _, rfl⟩
    . rintro σ H4 ⟨rfl, v, w, rfl⟩
      simp only [zc, zd, ↓reduceIte];exact q
end
theorem zag : ∀ (ws : List Nat) (a j : Nat), j <= ws.length -> (a :: ws)[j]? = some (lst a (ws.take j))
  | ws, a, 0, _ => by simp [lst]
  | [], a, j + 1, h => by simp at h
  | w :: ws, a, j + 1, h => by
    have := zag ws w j (by simpa using h)
    simpa [lst] using this
theorem zdh {c : List Nat} {y : Nat} (h : y ∉ c) : (((nI c).map V.int).countP fun z => eqV z (V.int y)) = 0 := by
  rw [List.countP_eq_zero];intro z hz;obtain ⟨i, hi, rfl⟩ := Zp.mp hz;obtain ⟨x, hx, rfl⟩ := Zp.mp hi;simp only [eqV, beq_iff_eq]
  exact fun e => h (by have : x = y := by omega
                       exact this ▸ hx)
theorem zew {c : List Nat} {y : Nat} (nd : c.Nodup) (h : y ∈ c) : (((nI c).map V.int).countP fun z => eqV z (V.int y)) = 1 := by
  induction c with
  | nil => cases h
  | cons x c ih =>
    rw [ZT] at nd;rw [nI, ZL, ZL, YS]
    by_cases e : x = y
    . have := zdh (c := c) (y := y) (by rw [<- e]; exact nd.1)
      rw [nI] at this;rw [this, e];simp [eqV]
    . have := ih nd.2 ((ZK.mp h).resolve_left fun z => e z.symm)
      rw [nI] at this;rw [this]
      have : (eqV (V.int (x : Int)) (V.int y)) = false := by
        simp only [eqV, beq_eq_false_iff_ne];omega
      rw [this];rfl
def jx (K : Fg) : Sp := fun vs H Q _ => ∃ (g l : Addr) (rows : List (List Int)) (n t a : Nat) (ws : List Nat), vs = [.ref g, .int t, .int (gcA rows a a + wk (z7 rows) a ws), .ref l] /\ Gd K H g rows n /\ H l = some (.lst ((nI (a :: ws)).map V.int)) /\ (∀ x ∈ a :: ws, x < n) /\ (a :: ws).Nodup /\ ws.length <= 8 /\ lst a ws = t /\ Q (.bl true) H
def PvRl (st : L2.St) (H : Hp) (i : Nat) (σ : L2.St) (H' : Hp) : Prop := H' = H /\ ∃ v : Option V, σ = st ++ [v, none, none]
def PvRs (st : L2.St) (b : Int) (T : Nat -> Nat -> Int) (a : Nat) (ws : List Nat) (H : Hp) (i : Nat) (σ : L2.St) (H' : Hp) : Prop := H' = H /\ ∃ v : Option V, σ = st ++ [some (.int (b + wk T a (ws.take i))), v]
section
variable {P : Program} {w : World} {K : Fg} {mg : Str -> Option Value} {base : Heap} {a : Ad}
theorem sd (B : Bt mg) (uk : FnAt P w K mg base "_law_whole" 1 ["found"] zeb) (se : FnAt P w K mg base "_law_turn" 1 ["grid", "s", "t"] (uj K)) (D : zi K mg "_law_road" oi ["grid", "t", "pay", "words"]) : FnAt P w K mg base "_law_road" 2 ["grid", "t", "pay", "words"] (jx K) := by
  refine FnAt.of D sc_law_road (fun vs H Q E h => ?_) (fun f cdv A outer s H vs Q E hr h => ?_)
  . obtain ⟨g, l, rows, n, t, a, ws, rfl, _⟩ := h
    rfl
  . obtain ⟨g, l, rows, n, t, a, ws, rfl, G, hl, lt, nd, l8, hto, q⟩ := h
    refine ⟨_, (@zj _ _ _ _ _ (@yj _ _ _ _ _ _ _ _ (PW.pt (@wm _ _ _ _ _ _ _ (@y0 _ _ _ _ (yz (zo yr rfl B.isinstance yi (za (pv 3) (za (wq rfl B.list vj) (@zb _)))))) (@wm _ _ _ _ _ _ _ (@yf _ _ _ _ _ _ _ _ vo (zo zq rfl B.len ya (za (pv 3) (@zb _))) (@ze _ _ _ _) (ye _)) (@vg _ _ _ _ (@yf _ _ _ _ _ _ _ _ mm (@zt _ _ _ _ _ _ _ z0 (pv 3) (@fc _ _ _ _ _ _ jg (@ze _ _ _ _)) (fun _ _ => rfl)) (pv 1) (ye _)))))) (@zh _ _ _ (@zn _ _ _ _ (@xb _ _ _ _))) (@yb _)) (@zj _ _ _ _ _ (yx PassesOwn.never rfl (@yg _ _ _ _ (pv 3)) (zp (i := 4) sc_law_road.nd rfl (Or.inl rfl)) (@zh _ _ _ (@yj _ _ _ _ _ _ _ _ (PW.pt (@wm _ _ _ _ _ _ _ (@y0 _ _ _ _ (yz (zk uk (hr.mono (by decide)) rfl (za (pv 4) (@zb _))))) (@wm _ _ _ _ _ _ _ (@yf _ _ _ _ _ _ _ _ jy (pv 4) (@ze _ _ _ _) (ye _)) (@wm _ _ _ _ _ _ _ (@yf _ _ _ _ _ _ _ _ zdm (pv 4) (zo zq rfl B.len ya (za (pv 0) (@zb _))) (ye _)) (@vg _ _ _ _ (@yf _ _ _ _ _ _ _ _ mm (qe PySem.F.plainAttrs_list PySem.F.slot_list_count PySem.F.type_list_count zf9 (pv 3) (za (pv 4) (@zb _))) (@ze _ _ _ _) (ye _))))))) (@zh _ _ _ (@zn _ _ _ _ (@xb _ _ _ _))) (@yb _)))) (@zj _ _ _ _ _ (zz (i := 5) sc_law_road.nd rfl (Or.inl rfl) (@zt _ _ _ _ _ _ _ z0 (@zt _ _ _ _ _ _ _ z0 (pv 0) (@zt _ _ _ _ _ _ _ z0 (pv 3) (@ze _ _ _ _) (fun _ _ => rfl)) (fun _ _ => rfl)) (@zt _ _ _ _ _ _ _ z0 (pv 3) (@ze _ _ _ _) (fun _ _ => rfl)) (fun _ _ => rfl))) (@zj _ _ _ _ _ (yx PassesOwn.never rfl (qx rfl B.range (za (@ze _ _ _ _) (za (zo zq rfl B.len ya (za (pv 3) (@zb _))) (@zb _)))) (zp (i := 6) sc_law_road.nd rfl (Or.inl rfl)) (@zh _ _ _ (zz (i := 5) sc_law_road.nd rfl (Or.inl rfl) (@zm _ _ _ _ _ _ _ _ yp (pv 5) (zk se (hr.mono (by decide)) rfl (za (pv 0) (za (@zt _ _ _ _ _ _ _ z0 (pv 3) (@zm _ _ _ _ _ _ _ _ w6 (pv 6) (@ze _ _ _ _)) (fun _ _ => rfl)) (za (@zt _ _ _ _ _ _ _ z0 (pv 3) (pv 6) (fun _ _ => rfl)) (@zb _))))))))) (@zh _ _ _ (@zn _ _ _ _ (@v9 _ _ _ _ _ _ _ _ vo (pv 5) (pv 2) (ye _)))))))), ?_⟩;rw [show start ["grid", "t", "pay", "words", "one", "whole", "j"] [V.ref g, V.int t, V.int (gcA rows a a + wk (z7 rows) a ws), V.ref l] = [some (V.ref g), some (V.int t), some (V.int (gcA rows a a + wk (z7 rows) a ws)), some (V.ref l), none, none, none] from rfl];simp only [zc, zd, ↓reduceIte];have hlw : ((nI (a :: ws)).map V.int).length = ws.length + 1 := by rw [Za, nI, Za, ZM]
    obtain ⟨gs, g1, g2⟩ := G.ex;have n8 := G.n8;have hln : ((gs.map V.ref).length : Nat) = n := by rw [Za, g2]
    have hgl : SqL K H g (gs.map V.ref) := g1.1;refine ⟨_, .lst hl, true, g8, iteF ⟨_, .inl (.of hl), rfl, ite2 (fun h => ?_) fun _ => ⟨_, .of hl, V.int t, ?_, rfl, ite2 (fun h => ?_) fun _ => ⟨⟨_, .of hl⟩, ?_⟩⟩⟩⟩
    . rw [hlw] at h
      have := of_decide_eq_true h;simp at this;omega
    . rw [w9 ws a, hto, nI, Zn, Zn]
      exact zad _ _
    . simp at h
    refine x9 (xs := (nI (a :: ws)).map V.int) (PvRl [some (V.ref g), some (V.int t), some (V.int (gcA rows a a + wk (z7 rows) a ws)), some (V.ref l)] H) ⟨rfl, _, rfl⟩ ?_ ?_ ?_
    . rintro i σ H2 hi ⟨rfl, v, rfl⟩
      exact .of hl
    . rintro i x σ H2 hx ⟨rfl, v, rfl⟩
      obtain ⟨z, hz, rfl⟩ := ix hx;rw [nI, Ze] at hz
      obtain ⟨y, hy⟩ : ∃ y, (a :: ws)[i]? = some y := by
        cases e : (a :: ws)[i]? with
        | none => rw [e] at hz; cases hz
        | some y => exact ⟨y, rfl⟩
      rw [hy] at hz;cases hz;have hym := Zi hy;have hyn := lt y hym;simp only [ZN, ZO];simp only [zc, zd, ↓reduceIte];refine ⟨_, rfl, _, rfl, iteF ?_⟩;refine ite2 (fun h => ?_) fun _ => ⟨_, .inl hgl, ite2 (fun h => ?_) fun _ => ⟨.inl ⟨rfl, _, .of hl⟩, _, .of hl, rfl, ?_, rfl, ite2 (fun h => ?_) fun _ => ⟨rfl, _, rfl⟩⟩⟩
      . have := of_decide_eq_true h
        omega
      . have := of_decide_eq_true h
        rw [hln] at this;omega
      . rw [ZS]
        intro x hx;obtain ⟨y, _, rfl⟩ := Zp.mp hx;rfl
      . rw [zew nd hym] at h
        cases h
    . rintro σ H2 ⟨rfl, v, rfl⟩
      simp only [ZN, ZO];simp only [zc, zd, ↓reduceIte];have han := lt a (by simp);obtain ⟨ns, e1, l1⟩ := G.sq a han;obtain ⟨r, f1, f2⟩ := on g1 e1;have hw0 : atI ((nI (a :: ws)).map V.int) 0 = some (V.int a) := zw (j := 0) rfl;refine ⟨_, .of hl, _, hw0, _, _, rfl, hgl, _, f1, _, .of hl, _, hw0, r, rfl, _, _, rfl, f2, _, w5 (rc e1 (s := a) (by omega)), _, .inl (.of hl), ?_⟩;rw [hlw];refine ⟨by omega, by omega, by omega, by omega, ?_⟩;rw [show (((ws.length + 1 : Nat) : Int) - 1).toNat = ws.length by omega];refine xa (PvRs [some (V.ref g), some (V.int t), some (V.int (gcA rows a a + wk (z7 rows) a ws)), some (V.ref l), v] (gcA rows a a) (z7 rows) a ws H2) ⟨rfl, none, by simp [wk]⟩ ?_ ?_
      . rintro j σ H4 hj ⟨rfl, v2, rfl⟩
        simp only [ZN, ZO];rw [show (1 : Int) + (j : Int) = ((j + 1 : Nat) : Int) by omega];have ew : ws[j]? = some ws[j] := Zb hj;have hx := Zl hj;generalize ws[j] = x at ew hx;have hp := zag ws a j (by omega);have hpm := Zi hp;simp only [zc, zd, ↓reduceIte];refine ⟨_, .of hl, V.int (lst a (ws.take j)), ?_, _, .of hl, V.int x, zw (nI_at (ws := a :: ws) (by simpa using ew)), ?_⟩
        . rw [show ((j + 1 : Nat) : Int) - 1 = ((j : Nat) : Int) by omega]
          exact zw (nI_at hp)
        . refine u6 G (lt _ hpm) (lt x (Zv _ hx)) ⟨_, rfl, rfl, some (V.int ((j + 1 : Nat) : Int)), ?_⟩
          rw [Zq, ew]
          show _ = _ ++ [some (V.int (_ + wk _ a (ws.take j ++ [x]))), _]
          rw [w4, <- Int.add_assoc];rfl
      . rintro σ H4 ⟨rfl, v2, rfl⟩
        simp only [ZN, ZO];simp only [zc, zd, ↓reduceIte];rw [Zt];refine ⟨rfl, ?_⟩
        simpa using q
end
theorem zbr {K : Fg} {H : Hp} {Q : VK} {E : XK} {g : Addr} {rows : List (List Int)} {n t : Nat} {gs : List (Int × List Nat × Addr)} {e : Int × List Nat × Addr} (G : Gd K H g rows n) (gr : Great rows n gs) (he : gs[t]? = some e) (h : H e.2.2 = some (.lst ((nI e.2.1).map V.int))) (q : Q (.bl true) H) : jx K [.ref g, .int t, .int e.1, .ref e.2.2] H Q E := by
  have ht : t < n := by have := wv he; have := gr.len; omega
  obtain ⟨s, ws, e1, _, hs, hto, hw, hv, hd, hk⟩ := (gr.rds.rd t ht).ex;rw [ve he] at e1 hv;have n8 := G.n8;have e1' : e.2.1 = s :: ws := e1;have hv' : e.1 = gcA rows s s + wk (z7 rows) s ws := hv;rw [e1'] at h;exact ⟨g, e.2.2, rows, n, t, s, ws, by rw [hv'], G, h, fun x hx => (ZK.mp hx).elim (fun z => z ▸ hs) (hw x), hd, by omega, hto, q⟩
theorem zf8 {K : Fg} {H : Hp} {Q : VK} {E : XK} {g l : Addr} {rows : List (List Int)} {n : Nat} {gs : List (Int × List Nat × Addr)} (G : Gd K H g rows n) (gr : Great rows n gs) (h : H l = some (.lst ((gs.map fun e => e.1).map V.int))) (q : Q (.bl true) H) : fh K [.ref g, .ref l] H Q E := by
  refine ⟨g, l, rows, n, _, rfl, G, h, by rw [Za, gr.len], gr.hon, fun t' ht' => ?_, q⟩;have h1 := gr.le t' ht';have lg : t' < gs.length := by rw [gr.len]; exact ht'
  rw [Zk, Ze, Zb lg]
  simpa [fOf, Zk, Zb lg] using h1
structure LawAt (H : Hp) (b t : Addr) (xs : List HX) (outs : List Str) (ds : List HD) (pl : List Str -> Nat) (f : List Str -> Str) : Prop where
  hands : HandsL H b xs ds
  good : GoodHouse outs ds
  pls : H t = some (.dT (yq pl (z9 (ds.map HD.words))))
  lt : ∀ r ∈ z9 (ds.map HD.words), pl r < outs.length
  ins : ∀ (k : Nat) (d : HD) (ot : List Str), ds[k]? = some d -> ot ∈ z9 ((ds.eraseIdx k).map HD.words) -> k <= ot.length /\ ot.length <= 8 /\ ∀ u ∈ d.words, insP ot k u ∈ z9 (ds.map HD.words)
  gf : ∀ (k : Nat) (d : HD) (ot : List Str), ds[k]? = some d -> ot ∈ z9 ((ds.eraseIdx k).map HD.words) -> colP d (putQ pl ot k d.words) = yy f outs ds (k, ot)
theorem LawAt.mono {H H' : Hp} {b t : Addr} {xs : List HX} {outs : List Str} {ds : List HD} {pl : List Str -> Nat} {f : List Str -> Str} (S : Same H H') (h : LawAt H b t xs outs ds pl f) : LawAt H' b t xs outs ds pl f := ⟨h.hands.mono S, h.good, S _ _ h.pls, h.lt, h.ins, h.gf⟩
theorem LawAt.gridN {Q : VK} {E : XK} {H : Hp} {b t c : Addr} {xs : List HX} {outs : List Str} {ds : List HD} {pl : List Str -> Nat} {f : List Str -> Str} {k : Nat} {ot : List Str} (h : LawAt H b t xs outs ds pl f) (hk : k < ds.length) (ho : ot ∈ z9 ((ds.eraseIdx k).map HD.words)) (hc : H c = some (.tup (ot.map V.str))) (q : ∀ H' l ls, Same H H' -> H' l = some (.lst (ls.map V.ref)) -> IntsAt H' ls (yy f outs ds (k, ot)) -> H l = none -> (∀ r ∈ ls, H r = none) -> Q (.ref l) H') : lq [.ref b, .ref t, .int k, .ref c] H Q E := by
  have ed : ds[k]? = some ds[k] := Zb hk;obtain ⟨i1, i2, i3⟩ := h.ins k _ ot ed ho;refine ⟨b, t, c, xs, outs, ds, pl, _, ot, k, _, rfl, h.hands, h.good, h.pls, ed, hc, i1, i2, fun u hu => ⟨i3 u hu, h.lt _ (i3 u hu)⟩, fun H12 gl ls S12 hgl I12 n1 n2 => q H12 gl ls S12 hgl ?_ n1 n2⟩
  rwa [h.gf k _ ot ed ho] at I12
theorem LawAt.grid {K : Fg} {Q : VK} {E : XK} {H : Hp} {b t c : Addr} {xs : List HX} {outs : List Str} {ds : List HD} {pl : List Str -> Nat} {f : List Str -> Str} {k : Nat} {ot : List Str} (h : LawAt H b t xs outs ds pl f) (hk : k < ds.length) (ho : ot ∈ z9 ((ds.eraseIdx k).map HD.words)) (hc : H c = some (.tup (ot.map V.str))) (q : ∀ H' l, Same H H' -> Gd K H' l (yy f outs ds (k, ot)) (xj ds (k, ot)) -> Q (.ref l) H') : lq [.ref b, .ref t, .int k, .ref c] H Q E :=
  h.gridN hk ho hc fun H12 gl ls S12 hgl I12 _ _ => q H12 gl S12 (iu h.good hk hgl I12)
def dueT (x : Nat × List Str) : Tr := .tp [.lf (V.int x.1), .tp (x.2.map strT)]
theorem zef (x : Nat × List Str) : sg (dueT x) = true := by
  simp only [dueT, sg, wy, zd4, Bool.and_self, Bool.and_true]
theorem zez (x : Nat × List Str) : deep (dueT x) <= 8 := by
  simp only [dueT, deep, v7, dk];omega
def zfw (K : Fg) : Sp := fun vs H Q _ => ∃ (b t a c : Addr) (xs : List HX) (outs : List Str) (ds : List HD) (pl : List Str -> Nat) (f : List Str -> Str) (k : Nat) (ot : List Str) (pd : PD), vs = [.ref b, .ref t, .ref a, .int k, .ref c] /\ LawAt H b t xs outs ds pl f /\ k < ds.length /\ ot ∈ z9 ((ds.eraseIdx k).map HD.words) /\ H c = some (.tup (ot.map V.str)) /\ PapN H a (k, ot) (yy f outs ds (k, ot)) (xj ds (k, ot)) pd /\ ∀ H', Same H H' -> Q (.bl true) H'
def PvPq (st : L2.St) (H : Hp) (i : Nat) (σ : L2.St) (H' : Hp) : Prop := H' = H /\ ∃ v : Option V, σ = st ++ [v]
section
variable {P : Program} {w : World} {K : Fg} {mg : Str -> Option Value} {base : Heap} {a : Ad}
theorem mz (B : Bt mg) (sk : FnAt P w K mg base "_law_grid" 1 ["hands", "places", "k", "others"] lq) (vv : FnAt P w K mg base "_law_honest" 2 ["grid", "pays"] (fh K)) (sd : FnAt P w K mg base "_law_road" 2 ["grid", "t", "pay", "words"] (jx K)) (D : zi K mg "_law_paper" qi ["hands", "places", "paper_v", "k", "others"]) : FnAt P w K mg base "_law_paper" 3 ["hands", "places", "paper_v", "k", "others"] (zfw K) := by
  refine FnAt.of D sc_law_paper (fun vs H Q E h => ?_) (fun f cdv A outer s H vs Q E hr h => ?_)
  . obtain ⟨b, t, a, c, xs, outs, ds, pl, f, k, ot, pd, rfl, _⟩ := h
    rfl
  . obtain ⟨b, t, a, c, xs, outs, ds, pl, ff, k, ot, pd, rfl, L, hk, ho, hc, PA, q⟩ := h
    refine ⟨_, (@zj _ _ _ _ _ (@yj _ _ _ _ _ _ _ _ (PW.pt (@wm _ _ _ _ _ _ _ (@y0 _ _ _ _ (yz (zo yr rfl B.isinstance yi (za (pv 2) (za (wq rfl B.tuple xv) (@zb _)))))) (@wm _ _ _ _ _ _ _ (@yf _ _ _ _ _ _ _ _ mm (zo zq rfl B.len ya (za (pv 2) (@zb _))) (@ze _ _ _ _) (ye _)) (@vg _ _ _ _ (yz (zo yr rfl B.isinstance yi (za (@zt _ _ _ _ _ _ _ yh (pv 2) (@ze _ _ _ _) (fun _ _ => rfl)) (za (wq rfl B.bool de) (@zb _))))))))) (@zh _ _ _ (@zn _ _ _ _ (@xb _ _ _ _))) (@yb _)) (@zj _ _ _ _ _ (@yj _ _ _ _ _ _ _ _ (@yf _ _ _ _ _ _ _ _ (op_neD (n := 8) (hu8 hr)) (@y7 _ _ _ _ _ (za (@zt _ _ _ _ _ _ _ yh (pv 2) (@ze _ _ _ _) (fun _ _ => rfl)) (za (@zt _ _ _ _ _ _ _ yh (pv 2) (@ze _ _ _ _) (fun _ _ => rfl)) (@zb _)))) (@y7 _ _ _ _ _ (za (pv 3) (za (pv 4) (@zb _)))) (ye _)) (@zh _ _ _ (@zn _ _ _ _ (@xb _ _ _ _))) (@yb _)) (@zj _ _ _ _ _ (zz (i := 5) sc_law_paper.nd rfl (Or.inl rfl) (zk sk (hr.mono (by decide)) rfl (za (pv 0) (za (pv 1) (za (pv 3) (za (pv 4) (@zb _))))))) (@zj _ _ _ _ _ (@yj _ _ _ _ _ _ _ _ (PW.pt (@wm _ _ _ _ _ _ _ (@y0 _ _ _ _ (yz (zk vv (hr.mono (by decide)) rfl (za (pv 5) (za (@zt _ _ _ _ _ _ _ yh (pv 2) (@ze _ _ _ _) (fun _ _ => rfl)) (@zb _)))))) (@wm _ _ _ _ _ _ _ (@y0 _ _ _ _ (yz (zo yr rfl B.isinstance yi (za (@zt _ _ _ _ _ _ _ yh (pv 2) (@ze _ _ _ _) (fun _ _ => rfl)) (za (wq rfl B.list vj) (@zb _)))))) (@vg _ _ _ _ (@yf _ _ _ _ _ _ _ _ mm (zo zq rfl B.len ya (za (@zt _ _ _ _ _ _ _ yh (pv 2) (@ze _ _ _ _) (fun _ _ => rfl)) (@zb _))) (zo zq rfl B.len ya (za (pv 5) (@zb _))) (ye _)))))) (@zh _ _ _ (@zn _ _ _ _ (@xb _ _ _ _))) (@yb _)) (@zj _ _ _ _ _ (yx PassesOwn.never rfl (yl rfl B.range (za (zo zq rfl B.len ya (za (pv 5) (@zb _))) (@zb _))) (zp (i := 6) sc_law_paper.nd rfl (Or.inl rfl)) (@zh _ _ _ (@yj _ _ _ _ _ _ _ _ (@y0 _ _ _ _ (yz (zk sd (hr.mono (by decide)) rfl (za (pv 5) (za (pv 6) (za (@zt _ _ _ _ _ _ _ z0 (@zt _ _ _ _ _ _ _ yh (pv 2) (@ze _ _ _ _) (fun _ _ => rfl)) (pv 6) (fun _ _ => rfl)) (za (@zt _ _ _ _ _ _ _ z0 (@zt _ _ _ _ _ _ _ yh (pv 2) (@ze _ _ _ _) (fun _ _ => rfl)) (pv 6) (fun _ _ => rfl)) (@zb _)))))))) (@zh _ _ _ (@zn _ _ _ _ (@xb _ _ _ _))) (@yb _)))) (@zh _ _ _ (@zn _ _ _ _ (@xb _ _ _ _)))))))), ?_⟩;rw [show start ["hands", "places", "paper_v", "k", "others", "grid", "t"] [V.ref b, V.ref t, V.ref a, V.int k, V.ref c] = [some (V.ref b), some (V.ref t), some (V.ref a), some (V.int k), some (V.ref c), none, none] from rfl];refine uo fun T hT => ?_
    simp only [zc, zd, ↓reduceIte];refine ⟨_, .tup PA.tup, true, zca, iteF ⟨_, .inr (.of PA.tup), rfl, ite2 (fun h => ?_) fun _ => ⟨_, .of PA.tup, _, zw (j := 0) rfl, _, .int _, false, zeh, iteF ?_⟩⟩⟩
    . simp at h
    rw [hT];clear hT T;refine uo fun T hT => ?_
    simp only [zc, zd, ↓reduceIte];have htp := PA.tup;have hoc := PA.oth;refine ⟨_, .of htp, _, zw (j := 0) rfl, _, .of htp, _, zw (j := 1) rfl, by decide, fun e1 he1 => ?_⟩;have U1 : Same H (upd H e1 (.tup [V.int k, V.ref pd.c])) := Same.upd (Same.refl _) he1;have u1 : upd H e1 (.tup [V.int k, V.ref pd.c]) e1 = some (.tup [V.int k, V.ref pd.c]) := zg;generalize upd H e1 (.tup [V.int k, V.ref pd.c]) = H1 at *;refine ⟨by decide, fun e2 he2 => ?_⟩;have U2 : Same H1 (upd H1 e2 (.tup [V.int k, V.ref c])) := Same.upd (Same.refl _) he2;have u2 : upd H1 e2 (.tup [V.int k, V.ref c]) e2 = some (.tup [V.int k, V.ref c]) := zg;generalize upd H1 e2 (.tup [V.int k, V.ref c]) = H2 at *;have S2 := U1.trans U2;refine ⟨dueT (k, ot), dueT (k, ot), trivial, TrAt.tp (.of (U2 _ _ u1)) (TrsAt.cons (TrAt.lf rfl) (TrsAt.cons (TrAt.tp (.of (S2 _ _ hoc)) (oj _)) TrsAt.nil)), TrAt.tp (.of u2) (TrsAt.cons (TrAt.lf rfl) (TrsAt.cons (TrAt.tp (.of (S2 _ _ hc)) (oj _)) TrsAt.nil)), zez _, zez _, ?_⟩;rw [(a9 (zef _) (zef _)).mpr rfl];refine iteF ?_;rw [hT];clear hT T;refine uo fun T hT => ?_
    simp only [zc, zd, ↓reduceIte];refine LawAt.grid (K := K) (L.mono S2) hk ho (S2 _ _ hc) fun H3 g S3 Gg => ?_
    have S03 := S2.trans S3;have PA3 := PA.mono S03;have n8 := Gg.n8;obtain ⟨gs, g1, g2⟩ := Gg.ex;have hln : ((gs.map V.ref).length : Nat) = xj ds (k, ot) := by rw [Za, g2]
    have hgl : SqL K H3 g (gs.map V.ref) := g1.1;have lg := PA.great.len;rw [hT];clear hT T;simp only [zc, zd, ↓reduceIte];refine ⟨_, .of PA3.tup, _, zw (j := 2) rfl, zf8 Gg PA.great PA3.pays ⟨_, rfl, iteF ⟨_, .of PA3.tup, _, zw (j := 3) rfl, _, .lst PA3.roads, true, g8, iteF ?_⟩⟩⟩;refine ⟨_, .of PA3.tup, _, zw (j := 3) rfl, pd.rl, rfl, _, .inl (.of PA3.roads), _, .inl hgl, rfl, ?_⟩;rw [hln, Za, lg, if_neg (by simp)];refine ⟨_, .inl hgl, ?_⟩;rw [hln];refine ⟨by omega, by omega, ?_⟩;rw [Zw];refine xa (PvPq [some (V.ref b), some (V.ref t), some (V.ref a), some (V.int k), some (V.ref c), some (V.ref g)] H3) ⟨rfl, _, rfl⟩ ?_ ?_
    . rintro i σ H4 hi ⟨rfl, v, rfl⟩
      rw [show (0 : Int) + (i : Int) = ((i : Nat) : Int) by omega];simp only [zc, zd, ↓reduceIte, ZN, ZO];have hi' : i < pd.gs.length := by omega
      have he : pd.gs[i]? = some pd.gs[i] := Zb hi';have hm := Zl hi';generalize pd.gs[i] = e at he hm;refine ⟨_, .of PA3.tup, _, zw (j := 2) rfl, pd.pl, rfl, _, .of PA3.pays, _, zw (v := V.int e.1) (by rw [Ze, Ze, he]; rfl), _, .of PA3.tup, _, zw (j := 3) rfl, pd.rl, rfl, _, .of PA3.roads, _, zw (v := V.ref e.2.2) (by rw [Ze, he]; rfl), zbr Gg PA.great he (PA3.road e hm) ⟨_, rfl, iteF ⟨rfl, _, rfl⟩⟩⟩
    . rintro σ H4 ⟨rfl, v, rfl⟩
      simp only [zc, zd, ↓reduceIte];exact q _ S03
end
theorem af (ds : List HD) (k : Nat) : ∀ n, k <= n -> ∃ rest, dueK ds n = dueK ds k ++ rest := by
  intro n h
  induction n with
  | zero => exact ⟨[], by rw [Nat.le_zero.mp h, Ye]⟩
  | succ n ih =>
    rcases Nat.lt_or_eq_of_le h with z | z
    . obtain ⟨rest, e⟩ := ih (by omega)
      exact ⟨rest ++ _, by rw [u3, e, YN]⟩
    . exact ⟨[], by rw [z, Ye]⟩
theorem zin {ds : List HD} {k m n : Nat} {ot : List Str} (hk : k < n) (h : (z9 ((ds.eraseIdx k).map HD.words))[m]? = some ot) : (dueK ds n)[(dueK ds k).length + m]? = some (k, ot) := by
  obtain ⟨rest, e⟩ := af ds (k + 1) n hk;have hm := (Zc.mp h).1;rw [e, u3, YN, Zf (by omega), show (dueK ds k).length + m - (dueK ds k).length = m by omega, Zg (by rw [Za]; exact hm), Ze, h];rfl
def dh (K : Fg) : Sp := fun vs H Q _ => ∃ (p o h b t l : Addr) (hs : List Addr) (xs : List HX) (outs : List Str) (ds : List HD) (pl : List Str -> Nat) (f : List Str -> Str) (as : List Addr) (fi : Nat), vs = [.ref p, .ref b, .ref t, .ref l, .int fi] /\ HHouse H p o h hs outs ds /\ LawAt H b t xs outs ds pl f /\ H l = some (.lst (as.map V.ref)) /\ as.length = (dueK ds ds.length).length /\ (∀ (i : Nat) (a : Addr) (x : Nat × List Str), fi <= i -> as[i]? = some a -> (dueK ds ds.length)[i]? = some x -> ∃ d, PapN H a x (yy f outs ds x) (xj ds x) d) /\ ∀ H', Same H H' -> Q (.bl true) H'
def PvK39 (st : L2.St) (H : Hp) (ds : List HD) (k : Nat) (σ : L2.St) (H' : Hp) : Prop := Same H H' /\ ∃ v1 v2 : Option V, σ = st ++ [some (.int (dueK ds k).length), v1, v2]
def PvO39 (st : L2.St) (H : Hp) (n k : Nat) (m : Nat) (σ : L2.St) (H' : Hp) : Prop := Same H H' /\ ∃ v2 : Option V, σ = st ++ [some (.int (n + m : Nat)), some (.int k), v2]
section
variable {P : Program} {w : World} {K : Fg} {mg : Str -> Option Value} {base : Heap} {a : Ad}
theorem wz (B : Bt mg) (ug : FnAt P w K mg base "others_of" 3 ["house", "k"] (k8 K)) (mz : FnAt P w K mg base "_law_paper" 3 ["hands", "places", "paper_v", "k", "others"] (zfw K)) (D : zi K mg "_law_papers" ra ["house", "hands", "places", "papers", "first"]) : FnAt P w K mg base "_law_papers" 4 ["house", "hands", "places", "papers", "first"] (dh K) := by
  refine FnAt.of D sc_law_papers (fun vs H Q E h => ?_) (fun f cdv A outer s H vs Q E hr h => ?_)
  . obtain ⟨p, o, h, b, t, l, hs, xs, outs, ds, pl, f, as, fi, rfl, _⟩ := h
    rfl
  . obtain ⟨p, o, h, b, t, l, hs, xs, outs, ds, pl, ff, as, fi, rfl, hK, L, hl, la, PA, q⟩ := h
    refine ⟨_, (@zj _ _ _ _ _ (@yj _ _ _ _ _ _ _ _ (@y0 _ _ _ _ (yz (zo yr rfl B.isinstance yi (za (pv 3) (za (wq rfl B.list vj) (@zb _)))))) (@zh _ _ _ (@zn _ _ _ _ (@xb _ _ _ _))) (@yb _)) (@zj _ _ _ _ _ (zz (i := 5) sc_law_papers.nd rfl (Or.inl rfl) (@ze _ _ _ _)) (@zj _ _ _ _ _ (yx PassesOwn.never rfl (yl rfl B.range (za (zo zq rfl B.len ya (za (pv 1) (@zb _))) (@zb _))) (zp (i := 6) sc_law_papers.nd rfl (Or.inl rfl)) (@zh _ _ _ (yx PassesOwn.never rfl (@yg _ _ _ _ (zk ug (hr.mono (by decide)) rfl (za (pv 0) (za (pv 6) (@zb _))))) (zp (i := 7) sc_law_papers.nd rfl (Or.inl rfl)) (@zj _ _ _ _ _ (@yj _ _ _ _ _ _ _ _ (@yf _ _ _ _ _ _ _ _ zdm (pv 5) (zo zq rfl B.len ya (za (pv 3) (@zb _))) (ye _)) (@zh _ _ _ (@zn _ _ _ _ (@xb _ _ _ _))) (@yb _)) (@zj _ _ _ _ _ (@yj _ _ _ _ _ _ _ _ (PW.pt (@pw_and _ _ _ _ _ _ _ (@yf _ _ _ _ _ _ _ _ zdm (pv 5) (pv 4) (ye _)) (@zh6 _ _ _ _ (@y0 _ _ _ _ (yz (zk mz (hr.mono (by decide)) rfl (@za _ _ _ _ _ (pv 1) (@za _ _ _ _ _ (pv 2) (@za _ _ _ _ _ (@zt _ _ _ _ _ _ _ z0 (pv 3) (pv 5) (fun _ _ => rfl)) (@za _ _ _ _ _ (pv 6) (@za _ _ _ _ _ (pv 7) (@zb _) (z8 nofun)) (z8 nofun)) (z8 nofun)) (z8 nofun)) (z8 nofun)))))))) (@zh _ _ _ (@zn _ _ _ _ (@xb _ _ _ _))) (@yb _)) (@zh _ _ _ (zz (i := 5) sc_law_papers.nd rfl (Or.inl rfl) (@zm _ _ _ _ _ _ _ _ yp (pv 5) (@ze _ _ _ _))))))))) (@zh _ _ _ (@zn _ _ _ _ (@v9 _ _ _ _ _ _ _ _ vo (pv 5) (zo zq rfl B.len ya (za (pv 3) (@zb _))) (ye _))))))), ?_⟩;rw [show start ["house", "hands", "places", "papers", "first", "at", "k", "others"] [V.ref p, V.ref b, V.ref t, V.ref l, V.int fi] = [some (V.ref p), some (V.ref b), some (V.ref t), some (V.ref l), some (V.int fi), none, none, none] from rfl];simp only [zc, zd, ↓reduceIte];have G := L.good;have h4 := G.hands;have few := km G ds.length (Zm _);refine ⟨_, .lst hl, true, g8, iteF ⟨_, .inl (.of L.hands.at'), ?_⟩⟩;rw [Za, L.hands.len];refine ⟨by omega, by omega, ?_⟩;rw [Zw];refine xa (PvK39 [some (V.ref p), some (V.ref b), some (V.ref t), some (V.ref l), some (V.int fi)] H ds) ⟨Same.refl _, _, _, rfl⟩ ?_ ?_
    . rintro k σ H9 hk ⟨S9, v1, v2, rfl⟩
      rw [show (0 : Int) + (k : Int) = ((k : Nat) : Int) by omega];simp only [zc, zd, ↓reduceIte, ZN, ZO];refine ⟨p, o, h, hs, outs, ds, k, rfl, (hK.mono S9).k, hk, h4.2, fun d hd => (G.words1 d hd).2, fun H10 ol oas S10 _ hR => ?_⟩;refine ⟨_, rfl, ⟨_, .of hR.lst⟩, ?_⟩;have S910 := S9.trans S10;refine x9 (xs := oas.map V.ref) (PvO39 [some (V.ref p), some (V.ref b), some (V.ref t), some (V.ref l), some (V.int fi)] H10 (dueK ds k).length k) ⟨Same.refl _, _, rfl⟩ ?_ ?_ ?_
      . rintro m σ H11 hm ⟨S11, w1, rfl⟩
        exact .of (S11 _ _ hR.lst)
      . rintro m y σ H11 hy ⟨S11, w1, rfl⟩
        obtain ⟨c2, hc2, rfl⟩ := re hy;have hm : m < (z9 ((ds.eraseIdx k).map HD.words)).length := by rw [<- hR.tups.len]; exact (Zc.mp hc2).1
        have er : (z9 ((ds.eraseIdx k).map HD.words))[m]? = some (z9 ((ds.eraseIdx k).map HD.words))[m] := Zb hm;have hot := Zl hm;generalize (z9 ((ds.eraseIdx k).map HD.words))[m] = ot at er hot;have hct := S11 _ _ (hR.tups.at' m c2 ot hc2 er);have S011 := S910.trans S11;have hix : (dueK ds ds.length)[(dueK ds k).length + m]? = some (k, ot) := zin hk er;have hil := (Zc.mp hix).1;obtain ⟨i, hi⟩ : ∃ i, (dueK ds k).length + m = i := ⟨_, rfl⟩;have hi2 : (dueK ds k).length + (m + 1) = i + 1 := by omega
        rw [hi] at hix hil;rw [hi];have ea : as[i]? = some as[i] := Zb (by omega);generalize as[i] = ai at ea;have hl11 := S011 _ _ hl;simp only [zc, zd, ↓reduceIte, ZN, ZO];refine ⟨_, .inl (.of hl11), ite2 (fun h => ?_) fun _ => ?_⟩
        . have := of_decide_eq_true h
          rw [Za] at this;omega
        refine ite2 (fun h => ?_) fun _ => ⟨S11, some (V.ref c2), by rw [hi2]; rfl⟩
        have hfi := of_decide_eq_true h;obtain ⟨d, PD'⟩ := PA i ai (k, ot) (by omega) ea hix;refine ⟨_, .of hl11, _, zw (v := V.ref ai) (by rw [Ze, ea]; rfl), b, t, ai, c2, xs, outs, ds, pl, ff, k, ot, d, rfl, L.mono S011, hk, hot, hct, PD'.mono S011, fun H12 S12 => ⟨_, rfl, iteF ⟨S11.trans S12, some (V.ref c2), by rw [hi2]; rfl⟩⟩⟩
      . rintro σ H11 ⟨S11, w1, rfl⟩
        refine ⟨S910.trans S11, some (V.int k), w1, ?_⟩;rw [u3, Zo, Za, Za, <- hR.tups.len]
    . rintro σ H9 ⟨S9, v1, v2, rfl⟩
      simp only [zc, zd, ↓reduceIte, ZN, ZO];refine ⟨_, .inl (.of (S9 _ _ hl)), rfl, ?_⟩;rw [Za, la, decide_eq_true rfl];exact q _ S9
end
theorem dy : ∀ {l : List Nat}, (∀ x ∈ l, 1 <= x) -> 1 <= l.prod
  | [], _ => Zm _
  | x :: l, h => by
    rw [YK];exact Yq (h x ZA) (dy fun y hy => h y (Zv _ hy))
theorem zh7 {outs : List Str} {ds : List HD} (G : GoodHouse outs ds) : 0 < (dueK ds ds.length).length := by
  obtain ⟨rest, e⟩ := af ds 1 ds.length G.hands.1;rw [e, Zo, u3, Zo, Za, dv]
  have := dy (l := ((ds.eraseIdx 0).map HD.words).map List.length) fun x hx => by
    obtain ⟨ws, hw, rfl⟩ := Zp.mp hx;obtain ⟨d, hd, rfl⟩ := Zp.mp hw;exact (G.words1 d (Yi hd)).1
  omega
def zga (K : Fg) : Sp := fun vs H Q _ => ∃ (p o h b t l : Addr) (hs : List Addr) (xs : List HX) (outs : List Str) (ds : List HD) (pl : List Str -> Nat) (f : List Str -> Str) (Hb H0 : Hp) (as : List Addr) (ps : List PD), vs = [.ref p, .ref b, .ref t, .ref l] /\ HHouse Hb p o h hs outs ds /\ LawAt Hb b t xs outs ds pl f /\ Same Hb H /\ Same Hb H0 /\ H0 l ≠ none /\ H l = some (.lst (as.map V.ref)) /\ PapersN H0 H as (dueK ds ds.length) (yy f outs ds) (xj ds) ps /\ ∀ H', Same Hb H' -> H' l = some (.lst (as.map V.ref)) -> (∀ y us, H y = some (.tup us) -> H' y = some (.tup us)) -> Q (.bl true) H'
def PvSy (st : L2.St) (H : Hp) (i : Nat) (σ : L2.St) (H' : Hp) : Prop := H' = H /\ ∃ v : Option V, σ = st ++ [v]
section
variable {P : Program} {w : World} {K : Fg} {mg : Str -> Option Value} {base : Heap} {a : Ad}
theorem ub (B : Bt mg) (sk : FnAt P w K mg base "_law_grid" 1 ["hands", "places", "k", "others"] lq) (vv : FnAt P w K mg base "_law_honest" 2 ["grid", "pays"] (fh K)) (sd : FnAt P w K mg base "_law_road" 2 ["grid", "t", "pay", "words"] (jx K)) (wz : FnAt P w K mg base "_law_papers" 4 ["house", "hands", "places", "papers", "first"] (dh K)) (D : zi K mg "_law_others_stay" wu ["house", "hands", "places", "papers"]) : FnAt P w K mg base "_law_others_stay" 5 ["house", "hands", "places", "papers"] (zga K) := by
  refine FnAt.of D sc_law_others_stay (fun vs H Q E h => ?_) (fun f cdv A outer s H vs Q E hr h => ?_)
  . obtain ⟨p, o, h, b, t, l, hs, xs, outs, ds, pl, f, Hb, H0, as, ps, rfl, _⟩ := h
    rfl
  . obtain ⟨p, o, h, b, t, l, hs, xs, outs, ds, pl, ff, Hb, H0, as, ps, rfl, hK, L, Sb, Sb0, nl, hl, PA, q⟩ := h
    refine ⟨_, (@zj _ _ _ _ _ (jf (@zt _ _ _ _ _ _ _ z0 (pv 3) (@ze _ _ _ _) (fun _ _ => rfl)) (qt rfl (y2 (zp (i := 4) sc_law_others_stay.nd rfl (Or.inl rfl)) (y2 (zp (i := 5) sc_law_others_stay.nd rfl (Or.inl rfl)) (y2 (zp (i := 6) sc_law_others_stay.nd rfl (Or.inl rfl)) (y2 (zp (i := 7) sc_law_others_stay.nd rfl (Or.inl rfl)) (@u5 _))))))) (@zj _ _ _ _ _ (zz (i := 8) sc_law_others_stay.nd rfl (Or.inl rfl) (zk sk (hr.mono (by decide)) rfl (za (pv 1) (za (pv 2) (za (pv 4) (za (pv 5) (@zb _))))))) (@zj _ _ _ _ _ (wx (aj PySem.F.plainAttrs_list PySem.F.slot_list_clear PySem.F.type_list_clear aw (@zt _ _ _ _ _ _ _ z0 (pv 7) (@ze _ _ _ _) (fun _ _ => rfl)))) (@zj _ _ _ _ _ (@yj _ _ _ _ _ _ _ _ (@y0 _ _ _ _ (yz (zk vv (hr.mono (by decide)) rfl (za (pv 8) (za (pv 6) (@zb _)))))) (@zh _ _ _ (@zn _ _ _ _ (@xb _ _ _ _))) (@yb _)) (@zj _ _ _ _ _ (yx PassesOwn.never rfl (qx rfl B.range (za (@ze _ _ _ _) (za (zo zq rfl B.len ya (za (pv 8) (@zb _))) (@zb _)))) (zp (i := 9) sc_law_others_stay.nd rfl (Or.inl rfl)) (@zh _ _ _ (@yj _ _ _ _ _ _ _ _ (@y0 _ _ _ _ (yz (zk sd (hr.mono (by decide)) rfl (za (pv 8) (za (pv 9) (za (@zt _ _ _ _ _ _ _ z0 (pv 6) (pv 9) (fun _ _ => rfl)) (za (@zt _ _ _ _ _ _ _ z0 (pv 7) (pv 9) (fun _ _ => rfl)) (@zb _)))))))) (@zh _ _ _ (@zn _ _ _ _ (@xb _ _ _ _))) (@yb _)))) (@zj _ _ _ _ _ (wx (aj PySem.F.plainAttrs_list PySem.F.slot_list_clear PySem.F.type_list_clear aw (pv 6))) (@zh _ _ _ (@zn _ _ _ _ (zk wz (hr.mono (by decide)) rfl (@za _ _ _ _ _ (pv 0) (@za _ _ _ _ _ (pv 1) (@za _ _ _ _ _ (pv 2) (@za _ _ _ _ _ (pv 3) (@za _ _ _ _ _ (@ze _ _ _ _) (@zb _) (z8 nofun)) (z8 nofun)) (z8 nofun)) (z8 nofun)) (z8 nofun))))))))))), ?_⟩;rw [show start ["house", "hands", "places", "papers", "k", "others", "pays", "roads", "grid", "t"] [V.ref p, V.ref b, V.ref t, V.ref l] = [some (V.ref p), some (V.ref b), some (V.ref t), some (V.ref l), none, none, none, none, none, none] from rfl];refine j2 fun T hT => ?_
    simp only [zc, zd, ↓reduceIte];have G := L.good;have lx := zh7 G;have la := PA.len;have lp := PA.lenp;have ex : (dueK ds ds.length)[0]? = some (dueK ds ds.length)[0] := Zb lx;have ea : as[0]? = some as[0] := Zb (by omega);have ep : ps[0]? = some ps[0] := Zb (by omega);obtain ⟨hk, hot⟩ := kt (Zi ex);generalize (dueK ds ds.length)[0] = x0 at *;obtain ⟨k, ot⟩ := x0;generalize as[0] = a0 at *;generalize ps[0] = d0 at *;have P0 := PA.at' 0 a0 _ d0 ea ex ep;have n0 := (ki G (x := (k, ot)) hk).1;have lg := P0.great.len;have e0 : d0.gs[0]? = some d0.gs[0] := Zb (by omega);have m0 := Zi e0;generalize d0.gs[0] = g0 at e0 m0;have new0 := PA.new d0 (Zi ep);have y0m : g0.2.2 ∈ d0.adr := by simp only [PD.adr, ZK]; exact .inr (.inr (Zp.mpr ⟨g0, m0, rfl⟩))
    have plm : d0.pl ∈ d0.adr := by simp [PD.adr]
    refine ⟨_, .of hl, _, zw (v := V.ref a0) (by rw [Ze, ea]; rfl), a0, rfl, _, .of P0.tup, rfl, _, _, rfl, _, _, rfl, _, _, rfl, _, _, rfl, rfl, ?_⟩;refine LawAt.gridN (L.mono Sb) hk hot P0.oth fun H3 g ls S3 hg I3 ng nls => ?_
    rw [hT];clear hT T;refine uo fun T hT => ?_
    simp only [zc, zd, ↓reduceIte];have P3 := P0.mono S3;refine ⟨_, .of P3.roads, _, zw (v := V.ref g0.2.2) (by rw [Ze, e0]; rfl), ?_⟩;have h0 := P3.road g0 m0;refine ⟨.inl ⟨rfl, _, .of h0⟩, _, rfl, ⟨_, h0⟩, ?_⟩;have k4 : ∀ x u, H3 x = some u -> x ≠ g0.2.2 -> upd H3 g0.2.2 (.lst []) x = some u := fun x u hx ne => by rw [zx ne]; exact hx
    have Q4 : ∀ {a' : Addr} {x' : Nat × List Str} {r' : List (List Int)} {n' : Nat} {d' : PD}, g0.2.2 ∉ d'.adr -> PapN H a' x' r' n' d' -> PapN (upd H3 g0.2.2 (.lst [])) a' x' r' n' d' := fun hn h => (h.mono S3).past h0 hn
    generalize upd H3 g0.2.2 (.lst []) = H4 at *
    have nz : ∀ x, H x = none -> x ≠ g0.2.2 := fun x hx e => by
      have := P0.road g0 m0;rw [<- e, hx] at this;cases this
    have hg4 := k4 _ _ hg (nz g ng);have I4 : IntsAt H4 ls (yy ff outs ds (k, ot)) := ⟨I3.len, fun j r q e1 e2 => k4 _ _ (I3.at' j r q e1 e2) (nz r (nls r (Zi e1)))⟩;have G4 : Gd K H4 g _ _ := iu G (x := (k, ot)) hk hg4 I4;have ap := P0.apart;have pays4 := k4 _ _ P3.pays (Ne.symm (ap.2 g0 m0).1);have roads4 := k4 _ _ P3.roads (Ne.symm (ap.2 g0 m0).2);have n8 := G4.n8;obtain ⟨gs, g1, g2⟩ := G4.ex;have hln : ((gs.map V.ref).length : Nat) = xj ds (k, ot) := by rw [Za, g2]
    have hgl : SqL K H4 g (gs.map V.ref) := g1.1;rw [hT];clear hT T;refine j2 fun T hT => ?_
    simp only [zc, zd, ↓reduceIte];refine zf8 G4 P0.great pays4 ⟨_, rfl, iteF ?_⟩;rw [hT];clear hT T;simp only [zc, zd, ↓reduceIte];refine ⟨_, .inl hgl, ?_⟩;rw [hln];refine ⟨by omega, by omega, by omega, by omega, ?_⟩;refine xa (PvSy [some (V.ref p), some (V.ref b), some (V.ref t), some (V.ref l), some (V.int k), some (V.ref d0.c), some (V.ref d0.pl), some (V.ref d0.rl), some (V.ref g)] H4) ⟨rfl, _, rfl⟩ ?_ ?_
    . rintro i σ H5 hi ⟨rfl, v, rfl⟩
      rw [show (1 : Int) + (i : Int) = ((i + 1 : Nat) : Int) by omega];simp only [zc, zd, ↓reduceIte, ZN, ZO];have hi' : i + 1 < d0.gs.length := by omega
      have he : d0.gs[i + 1]? = some d0.gs[i + 1] := Zb hi';have hm := Zl hi';generalize d0.gs[i + 1] = e at he hm;refine ⟨_, .of pays4, _, zw (v := V.int e.1) (by rw [Ze, Ze, he]; rfl), _, .of roads4, _, zw (v := V.ref e.2.2) (by rw [Ze, he]; rfl), zbr G4 P0.great he (k4 _ _ (P3.road e hm) fun z => ?_) ⟨_, rfl, iteF ⟨rfl, _, rfl⟩⟩⟩;have := P0.great.dis _ _ _ _ he e0 z;omega
    . rintro σ H5 ⟨rfl, v, rfl⟩
      simp only [zc, zd, ↓reduceIte, ZN, ZO];refine ⟨.inl ⟨rfl, _, .of pays4⟩, ⟨_, pays4⟩, ?_⟩;have k6 : ∀ x u, H5 x = some u -> x ≠ d0.pl -> upd H5 d0.pl (.lst []) x = some u := fun x u hx ne => by rw [zx ne]; exact hx
      have Q6 : ∀ {a' : Addr} {x' : Nat × List Str} {r' : List (List Int)} {n' : Nat} {d' : PD}, d0.pl ∉ d'.adr -> PapN H5 a' x' r' n' d' -> PapN (upd H5 d0.pl (.lst [])) a' x' r' n' d' := fun hn h => h.past pays4 hn
      generalize upd H5 d0.pl (.lst []) = H6 at *;have ny : ∀ x, H0 x ≠ none -> x ≠ g0.2.2 /\ x ≠ d0.pl := fun x hx => ⟨fun e => hx (e ▸ new0 _ y0m), fun e => hx (e ▸ new0 _ plm)⟩
      have Sb6 : Same Hb H6 := fun x u hx => by
        have := ny x (by rw [Sb0 _ _ hx]; simp);exact k6 _ _ (k4 _ _ (S3 _ _ (Sb _ _ hx)) this.1) this.2
      have hl6 : H6 l = some (.lst (as.map V.ref)) := k6 _ _ (k4 _ _ (S3 _ _ hl) (ny l nl).1) (ny l nl).2;refine ⟨p, o, h, b, t, l, hs, xs, outs, ds, pl, ff, as, 1, rfl, hK.mono Sb6, L.mono Sb6, hl6, la, fun i a' x hi h1 h2 => ?_, fun H' S' => q H' (Sb6.trans S') (S' _ _ hl6) fun y us hy => S' _ _ (k6 _ _ (k4 _ _ (S3 _ _ hy) fun e => ?_) fun e => ?_)⟩
      . have hi2 := (Zc.mp h2).1
        have h3 : ps[i]? = some ps[i] := Zb (by omega);have dj := PA.disj 0 i d0 ps[i] hi ep h3;exact ⟨_, Q6 (dj _ plm) (Q4 (dj _ y0m) (PA.at' i a' x _ h1 h2 h3))⟩
      . rw [e, P0.road g0 m0] at hy
        cases hy
      . rw [e, P0.pays] at hy
        cases hy
end
def HonW (wt : Int) (rows : List (List Int)) (ps : List Int) (n : Nat) : Prop := ∀ t s : Nat, t < n -> s < n -> wt * (gcA rows t s - gcA rows t t) <= ps.getD s 0 - ps.getD t 0
theorem zce {wt : Int} {rows : List (List Int)} {ps : List Int} {n : Nat} (h : HonW wt rows ps n) : ∀ (ws : List Nat) (s : Nat), s < n -> (∀ x ∈ ws, x < n) -> ps.getD (lst s ws) 0 - ps.getD s 0 <= wt * wk (z7 rows) s ws
  | [], s, _, _ => by show ps.getD s 0 - ps.getD s 0 <= wt * 0; omega
  | w :: ws, s, hs, hw => by
    have hw' := hw w ZA;have h1 := zce h ws w hw' fun x hx => hw x (Zv _ hx)
    have h2 := h w s hw' hs;have e : wt * (gcA rows w s - gcA rows w w) = -(wt * z7 rows s w) := by rw [<- Int.mul_neg]; congr 1; unfold z7; omega
    show ps.getD (lst w ws) 0 - ps.getD s 0 <= wt * (z7 rows s w + wk (z7 rows) w ws)
    rw [Int.mul_add];omega
theorem zg2 {wt : Int} {rows : List (List Int)} {ps : List Int} {n : Nat} {c : List Nat} (h1 : 1 <= wt) (R : RingA (z7 rows) n c) : ¬ HonW wt rows ps n := fun h => by
  have neg := R.neg;have lt := R.lt;have two := R.two
  cases c with
  | nil => simp at two
  | cons s ws =>
    have hs := lt s ZA
    have := zce h (ws ++ [s]) s hs fun x hx => by
      rcases ZH.mp hx with z | z
      . exact lt x (Zv _ z)
      . rw [ZC.mp z]; exact hs
    rw [xu] at this;have neg' : wk (z7 rows) s (ws ++ [s]) < 0 := neg;have := Int.mul_neg_of_pos_of_neg (show 0 < wt by omega) neg';omega
theorem zgq {α : Type} {r : List α} {k j : Nat} {u v : α} (h : k <= r.length) (hj : j ≠ k) : (insP r k u)[j]? = (insP r k v)[j]? := by
  have lt : (r.take k).length = k := by rw [Zj]; omega
  by_cases e : j < k
  . rw [insP, insP, Zg (by omega), Zg (by omega)]
  . rw [insP, insP, Zf (by omega), Zf (by omega), lt]
    obtain ⟨i, hi⟩ : ∃ i, j - k = i + 1 := ⟨j - k - 1, by omega⟩;rw [hi];rfl
theorem q8 {α β : Type} {g : α -> β} : ∀ {l : List α} {k : Nat}, (l.eraseIdx k).map g = (l.map g).eraseIdx k
  | [], _ => rfl
  | _ :: _, 0 => rfl
  | _ :: l, k + 1 => by simp only [List.eraseIdx_cons_succ, ZL, q8 (l := l)]
theorem cn {α : Type} {o : List α} {wss : List (List α)} {k : Nat} {ws : List α} {u : α} (hk : wss[k]? = some ws) (h : bb o (wss.eraseIdx k)) (hu : u ∈ ws) : bb (insP o k u) wss := by
  have hkl := (Zc.mp hk).1;have lo : o.length + 1 = wss.length := by have := h.1; rw [ZX hkl] at this; omega
  refine ⟨by rw [zgv u (by omega)]; exact lo, fun j vs e => ?_⟩
  by_cases ej : j = k
  . subst ej
    rw [hk] at e;cases e;exact ⟨u, zbv u (by omega), hu⟩
  . have lt : (o.take k).length = k := by rw [Zj]; omega
    by_cases hj : j < k
    . obtain ⟨z, a1, a2⟩ := h.2 j vs (by rw [YA, if_pos hj]; exact e)
      refine ⟨z, ?_, a2⟩;rw [insP, Zg (by omega), List.getElem?_take, if_pos hj];exact a1
    . obtain ⟨z, a1, a2⟩ := h.2 (j - 1) vs (by rw [YA, if_neg (by omega), show j - 1 + 1 = j by omega]; exact e)
      refine ⟨z, ?_, a2⟩;rw [insP, Zf (by omega), lt];obtain ⟨i, hi⟩ : ∃ i, j - k = i + 1 := ⟨j - k - 1, by omega⟩;rw [hi, List.getElem?_cons_succ, List.getElem?_drop];rw [show k + i = j - 1 by omega];exact a1
theorem ze5 {zs : List Str} {z : Str} {t : Nat} (nd : zs.Nodup) (h : zs[t]? = some z) : zs.idxOf z = t := by
  have le := io h;have hm : z ∈ zs := Zi h;have hx := Zz.mpr hm
  rcases Nat.lt_or_eq_of_le le with hlt | e
  . exfalso
    obtain ⟨ht, et⟩ := Zc.mp h;have := Ys.mp nd _ t hx ht hlt;rw [et, Yu hx] at this;exact this rfl
  . exact e
theorem ae {ds : List HD} {row row' : List Str} {ws : List Int} {j : Nat} : ∀ n, (∀ i, i < n -> tmL ds row ws j i = tmL ds row' ws j i) -> scL ds row ws j n = scL ds row' ws j n
  | 0, _ => rfl
  | n + 1, h => by
    rw [scL, scL, ae n fun i hi => h i (by omega), h n (by omega)]
theorem zb6 {ds : List HD} {row row' : List Str} {ws : List Int} {j k : Nat} : ∀ n, k < n -> (∀ i, i < n -> i ≠ k -> tmL ds row ws j i = tmL ds row' ws j i) -> scL ds row ws j n - tmL ds row ws j k = scL ds row' ws j n - tmL ds row' ws j k
  | 0, h, _ => by omega
  | n + 1, hk, h => by
    rw [scL, scL]
    by_cases e : k = n
    . subst e
      rw [ae k fun i hi => h i (by omega) (by omega)];omega
    . have := zb6 (row := row) (row' := row') (ws := ws) (j := j) n (by omega) fun i hi hn => h i (by omega) hn
      rw [h n (by omega) (Ne.symm e)];omega
theorem dr {α : Type} {l : List α} {g : α -> Int} {s : Nat} (h : s < l.length) : (l.map g).getD s 0 = g l[s] := by
  rw [Zk, Ze, Zb h];rfl
theorem smL_at {ds : List HD} {row : List Str} {ws gs : List Int} {n j : Nat} (h : j < n) : scL ds row ws j ds.length + gs.getD j 0 ∈ smL ds row ws gs n := Zp.mpr ⟨j, ZU.mpr h, rfl⟩
theorem BsL.max {ds : List HD} {row : List Str} {ws gs : List Int} {n p j : Nat} (h : BsL ds row ws gs n p) (hj : j < n) : scL ds row ws j ds.length + gs.getD j 0 <= scL ds row ws p ds.length + gs.getD p 0 := by
  obtain ⟨m, h1, h2, rfl⟩ := h;have h3 := Zz.mpr h1;have e : (smL ds row ws gs n)[(smL ds row ws gs n).idxOf m] = m := Yu h3
  have e2 : (smL ds row ws gs n)[(smL ds row ws gs n).idxOf m] = scL ds row ws ((smL ds row ws gs n).idxOf m) ds.length + gs.getD ((smL ds row ws gs n).idxOf m) 0 := by
    simp only [smL, List.getElem_map, List.getElem_range]
  rw [<- e2, e];exact h2 _ (smL_at hj)
theorem BsL.same {ds : List HD} {row row' : List Str} {ws gs : List Int} {n p p' : Nat} (h : BsL ds row ws gs n p) (h' : BsL ds row' ws gs n p') (e : ∀ j, scL ds row ws j ds.length = scL ds row' ws j ds.length) : p = p' := by
  have es : smL ds row ws gs n = smL ds row' ws gs n := by
    rw [smL, smL];exact Yj fun j _ => by rw [e j]
  obtain ⟨m, h1, h2, rfl⟩ := h;obtain ⟨m', h1', h2', rfl⟩ := h';rw [es] at h1 h2;have a := h2 _ h1';have b := h2' _ h1;rw [es, show m = m' by omega]
theorem zft {outs : List Str} {ds : List HD} {pl : List Str -> Nat} {k : Nat} {d : HD} {ot : List Str} (G : GoodHouse outs ds) (hlt : ∀ r ∈ z9 (ds.map HD.words), pl r < outs.length) (hb : zdy ds outs.length pl) (hd : ds[k]? = some d) (ho : ot ∈ z9 ((ds.eraseIdx k).map HD.words)) : ∃ wt ps, 1 <= wt /\ HonW wt (colP d (putQ pl ot k d.words)) ps d.words.length := by
  obtain ⟨ws, gs, lw, nn, hbs⟩ := hb;have kl := (Zc.mp hd).1;have hm := Zi hd;have h0 : 0 < d.words.length := (G.words1 d hm).1;have lo := (rowsP_iff.mp ho).1;rw [Za, ZX kl] at lo;rw [q8] at ho;have hr : ∀ u ∈ d.words, insP ot k u ∈ z9 (ds.map HD.words) := fun u hu => rowsP_iff.mpr (cn (by rw [Ze, hd]; rfl) (rowsP_iff.mp ho) hu)
  have hw : ws[k]? = some ws[k] := Zb (by omega);have wn := nn _ (Zi hw);generalize ws[k] = wt at hw wn
  have tm : ∀ u j, tmL ds (insP ot k u) ws j k = wt * (d.worths.getD (d.words.idxOf u) []).getD j 0 := fun u j => by
    rw [tmL, hd, zbv u (by omega), hw]
  have but : ∀ u v j, scL ds (insP ot k u) ws j ds.length - tmL ds (insP ot k u) ws j k = scL ds (insP ot k v) ws j ds.length - tmL ds (insP ot k v) ws j k := fun u v j => zb6 ds.length kl fun i _ hi => by
    rw [tmL, tmL, zgq (v := v) (by omega) hi]
  have cell : ∀ {t s : Nat} (ht : t < d.words.length) (hs : s < d.words.length), gcA (colP d (putQ pl ot k d.words)) t s = (d.worths.getD (d.words.idxOf d.words[t]) []).getD (pl (insP ot k d.words[s])) 0 := fun {t s} ht hs => by
    have hr : t < d.worths.length := by rw [G.rows d hm]; exact ht
    have e1 : (colP d (putQ pl ot k d.words)).getD t [] = (putQ pl ot k d.words).map fun p => (d.worths[t]).getD p 0 := by
      rw [colP, Zk, Ze, Zb hr];rfl
    rw [gcA, e1, ze5 (G.wordsD d hm) (Zb ht), Zk, Ze, putQ, Ze, Zb hs, Zk (l := d.worths), Zb hr];rfl
  by_cases w1 : 1 <= wt
  . refine ⟨wt, d.words.map fun u => -(scL ds (insP ot k d.words[0]) ws (pl (insP ot k u)) ds.length - tmL ds (insP ot k d.words[0]) ws (pl (insP ot k u)) k + gs.getD (pl (insP ot k u)) 0), w1, fun t s ht hs => ?_⟩
    have mt := Zl ht;have ms := Zl hs;rw [cell ht hs, cell ht ht, dr ht, dr hs, Int.mul_sub, <- tm, <- tm];have b1 := but d.words[0] d.words[t] (pl (insP ot k d.words[s]));have b2 := but d.words[0] d.words[t] (pl (insP ot k d.words[t]));have mx := (hbs _ (hr _ mt)).max (hlt _ (hr _ ms));omega
  . refine ⟨1, [], Yo _, fun t s ht hs => ?_⟩
    have mt := Zl ht;have ms := Zl hs;have e0 : wt = 0 := by omega
    have := (hbs _ (hr _ mt)).same (hbs _ (hr _ ms)) fun j => by
      have b1 := but d.words[t] d.words[s] j;rw [tm, tm, e0, Int.zero_mul, Int.zero_mul] at b1;omega
    rw [cell ht hs, cell ht ht, this];simp
def zdc (K : Fg) : Sp := fun vs H Q _ => ∃ (a : Addr) (ns : List Int), vs = [.ref a] /\ SqL K H a (ns.map V.int) /\ ns.length <= 63 /\ ∀ H', Q (.bl true) H'
theorem zfj {K : Fg} {f : Addr} {fd : FuncData} (F : Fun K "law" "law" j0 f fd) (s : Shared) (u : Value) : BindsTo s fd ⟨[u], []⟩ [("script", u)] := by
  obtain ⟨oc, od, kV, doc, pm, an, cdv, ct, osl, rfl, lk, hcd⟩ := F.ex;exact .of_eq rfl
def tops38 : List Int := [5, 3, 2, 2]
theorem cm : Tops tops38 := ⟨rfl, by decide⟩
theorem zd2 : FewT tops38 := by unfold FewT; decide
section
variable {P : Program} {w : World} {K : Fg} {mg : Str -> Option Value} {base : Heap} {a : Ad}
theorem law_fn (B : Bt mg) (yt : FnAt P w K mg base "_law_cell_at" 1 ["script", "k"] (nt K)) (m6 : FnAt P w K mg base "_law_parts" 3 ["script", "tops"] (zbz K)) (gz : FnAtX P w K mg base "house_of" 7 ["outcomes", "hands"] am) (nh : FnAt P w K mg base "_law_places" 3 ["script", "outcomes", "hands"] (ci K)) (qd : FnAt P w K mg base "_law_table" 1 ["outcomes", "places"] bp) (nv : FnAt P w K mg base "verdict" 9 ["house", "table"] (d5 K)) (wz : FnAt P w K mg base "_law_papers" 4 ["house", "hands", "places", "papers", "first"] (dh K)) (ub : FnAt P w K mg base "_law_others_stay" 5 ["house", "hands", "places", "papers"] (zga K)) {f : Addr} {fd : FuncData} (F : Fun K "law" "law" j0 f fd) : FnOk P w K mg base CX0 10 f fd ["script"] (zdc K) := by
  refine F.ok sc_law (fun vs H Q E h => by obtain ⟨b, ns, rfl, _⟩ := h; rfl) (fun cdv A outer s H vs Q E hr h => ?_);obtain ⟨a, ns, rfl, hS, hlen, q⟩ := h;refine ⟨_, (@zj _ _ _ _ _ (jf (zk m6 (hr.mono (by decide)) rfl (@za _ _ _ _ _ (pv 0) (@za _ _ _ _ _ (@xm _ _ _ _ (@za _ _ _ _ _ (@ze _ _ _ _) (@za _ _ _ _ _ (@ze _ _ _ _) (@za _ _ _ _ _ (@ze _ _ _ _) (@za _ _ _ _ _ (@ze _ _ _ _) (@zb _) (z8 nofun)) (z8 nofun)) (z8 nofun)) (z8 nofun))) (@zb _) (z8 nofun)) (z8 nofun))) (qt rfl (y2 (zp (i := 1) sc_law.nd rfl (Or.inl rfl)) (y2 (zp (i := 2) sc_law.nd rfl (Or.inl rfl)) (@u5 _))))) (@zj _ _ _ _ _ (zz (i := 3) sc_law.nd rfl (Or.inl rfl) (bv gz (hr.mono (by decide)) rfl (za (pv 1) (za (pv 2) (@zb _))))) (@zj _ _ _ _ _ (zz (i := 4) sc_law.nd rfl (Or.inl rfl) (zk nh (hr.mono (by decide)) rfl (za (pv 0) (za (pv 1) (za (pv 2) (@zb _)))))) (@zj _ _ _ _ _ (zz (i := 5) sc_law.nd rfl (Or.inl rfl) (zk qd (hr.mono (by decide)) rfl (za (pv 1) (za (pv 4) (@zb _))))) (@zj _ _ _ _ _ (zz (i := 6) sc_law.nd rfl (Or.inl rfl) (zk nv (hr.mono (by decide)) rfl (za (pv 3) (za (pv 5) (@zb _))))) (@zj _ _ _ _ _ (zz (i := 7) sc_law.nd rfl (Or.inl rfl) (@zm _ _ _ _ _ _ _ _ ym (zk yt (hr.mono (by decide)) rfl (za (pv 0) (za (@ze _ _ _ _) (@zb _)))) (@ze _ _ _ _))) (@zj _ _ _ _ _ (@yj _ _ _ _ _ _ _ _ (@yf _ _ _ _ _ _ _ _ vo (@zt _ _ _ _ _ _ _ yh (pv 6) (@ze _ _ _ _) (fun _ _ => rfl)) (@u7 _ _ _ _) (ye _)) (@zh _ _ _ (@zn _ _ _ _ (@pe_or _ _ _ _ _ _ _ (@v9 _ _ _ _ _ _ _ _ vo (pv 7) (@ze _ _ _ _) (ye _)) (@nj _ _ _ _ _ (@v9 _ _ _ _ _ _ _ _ vo (pv 7) (@ze _ _ _ _) (ye _)))))) (@yb _)) (@zj _ _ _ _ _ (@yj _ _ _ _ _ _ _ _ (@y0 _ _ _ _ (yz (zk wz (hr.mono (by decide)) rfl (@za _ _ _ _ _ (pv 3) (@za _ _ _ _ _ (pv 2) (@za _ _ _ _ _ (pv 4) (@za _ _ _ _ _ (@zt _ _ _ _ _ _ _ yh (pv 6) (@ze _ _ _ _) (fun _ _ => rfl)) (@za _ _ _ _ _ (@ze _ _ _ _) (@zb _) (z8 nofun)) (z8 nofun)) (z8 nofun)) (z8 nofun)) (z8 nofun))))) (@zh _ _ _ (@zn _ _ _ _ (@xb _ _ _ _))) (@yb _)) (@zj _ _ _ _ _ (@yj _ _ _ _ _ _ _ _ (@y0 _ _ _ _ (yz (zk ub (hr.mono (by decide)) rfl (za (pv 3) (za (pv 2) (za (pv 4) (za (@zt _ _ _ _ _ _ _ yh (pv 6) (@ze _ _ _ _) (fun _ _ => rfl)) (@zb _)))))))) (@zh _ _ _ (@zn _ _ _ _ (@xb _ _ _ _))) (@yb _)) (@zj _ _ _ _ _ (wx (aj PySem.F.plainAttrs_list PySem.F.slot_list_reverse PySem.F.type_list_reverse zdw (@zt _ _ _ _ _ _ _ yh (pv 6) (@ze _ _ _ _) (fun _ _ => rfl)))) (@zj _ _ _ _ _ (@yj _ _ _ _ _ _ _ _ (@yf _ _ _ _ _ _ _ _ (zhz (hu_of hr)) (pv 5) (zk qd (hr.mono (by decide)) rfl (za (pv 1) (za (pv 4) (@zb _)))) (ye _)) (@zh _ _ _ (@zn _ _ _ _ (@xb _ _ _ _))) (@yb _)) (@zh _ _ _ (@zn _ _ _ _ (zk wz (hr.mono (by decide)) rfl (@za _ _ _ _ _ (pv 3) (@za _ _ _ _ _ (pv 2) (@za _ _ _ _ _ (pv 4) (@za _ _ _ _ _ (@zt _ _ _ _ _ _ _ yh (zk nv (hr.mono (by decide)) rfl (za (pv 3) (za (pv 5) (@zb _)))) (@ze _ _ _ _) (fun _ _ => rfl)) (@za _ _ _ _ _ (@ze _ _ _ _) (@zb _) (z8 nofun)) (z8 nofun)) (z8 nofun)) (z8 nofun)) (z8 nofun)))))))))))))))), ?_⟩;rw [show start ["script", "outcomes", "hands", "house", "places", "table", "found", "mode"] [V.ref a] = [some (V.ref a), none, none, none, none, none, none, none] from rfl];refine hide4 fun T hT => ?_
  simp only [zc, zd, ↓reduceIte];refine ⟨by decide, fun tp htp => ?_⟩;have S0 : Same H (upd H tp (.lst [V.int 5, V.int 3, V.int 2, V.int 2])) := Same.upd (Same.refl _) htp;have hTp : upd H tp (.lst [V.int 5, V.int 3, V.int 2, V.int 2]) tp = some (.lst (tops38.map V.int)) := zg;generalize upd H tp (.lst [V.int 5, V.int 3, V.int 2, V.int 2]) = H0 at *;refine ⟨a, tp, ns, tops38, rfl, S0.seq hS, .of hTp, cm, fun H1 H2 H3 o b p xs S1 ho ho1 N hp e3 => ?_⟩;subst e3;have S3 : Same H2 (upd H2 p (.tup [V.ref o, V.ref b])) := Same.upd (Same.refl _) hp;have hp3 : upd H2 p (.tup [V.ref o, V.ref b]) p = some (.tup [V.ref o, V.ref b]) := zg;generalize upd H2 p (.tup [V.ref o, V.ref b]) = H3 at *;simp only [zc, zd, ↓reduceIte];refine ⟨_, .of hp3, rfl, ?_⟩;simp only [zc, zd, ↓reduceIte];have G := goodA ns cm zd2;have oF : H3 o = some (.lst ((rq ns).map V.str)) := (N.same.trans S3) _ _ ho1;have bF : HandsL H3 b xs (wo ns tops38 (ww ns)) := N.lists.mono S3;have S03 : Same H H3 := S0.trans (S1.trans (N.same.trans S3));generalize wo ns tops38 (ww ns) = ds at *;generalize rq ns = outs at *;refine ⟨o, b, outs, xs, ds, rfl, oF, bF, G, fun H4 p ko kh hs S4 hK => ?_⟩;simp only [zc, zd, ↓reduceIte];have S04 := S03.trans S4;have b4 := bF.mono S4;refine ⟨a, o, b, ns, outs, xs, ds, rfl, S04.seq hS, S4 _ _ oF, b4, G, fun H5 t pl S5 ht5 hpl hbest => ?_⟩;simp only [zc, zd, ↓reduceIte]
  have hnd : (z9 (ds.map HD.words)).Nodup := ig fun ws hws => by
    obtain ⟨d, hd, rfl⟩ := Zp.mp hws;exact G.wordsD d hd
  have few : (z9 (ds.map HD.words)).length <= 4096 := by
    have := rg (wss := ds.map HD.words) (by rw [Za]; exact G.hands.2) (fun ws hws => by
      obtain ⟨d, hd, rfl⟩ := Zp.mp hws
      exact (G.words1 d hd).2) (ds.map HD.words).length (Zm _)
    rw [Zt] at this;exact this
  refine ⟨o, t, outs, pl, _, rfl, S5 _ _ (S4 _ _ oF), ht5, hnd, few, hpl, fun H6 td S6 h6 => ?_⟩;have hK6 := hK.mono (S5.trans S6);have b6 := b4.mono (S5.trans S6);have ht6 := S6 _ _ ht5
  have IN : ∀ (k : Nat) (d : HD) (ot : List Str), ds[k]? = some d -> ot ∈ z9 ((ds.eraseIdx k).map HD.words) -> k <= ot.length /\ ot.length <= 8 /\ ∀ u ∈ d.words, insP ot k u ∈ z9 (ds.map HD.words) := by
    intro k d ot hd hot;have kl := (Zc.mp hd).1;have lo := (rowsP_iff.mp hot).1;rw [Za, ZX kl] at lo;have := G.hands.2;rw [q8] at hot;exact ⟨by omega, by omega, fun u hu => rowsP_iff.mpr (cn (by rw [Ze, hd]; rfl) (rowsP_iff.mp hot) hu)⟩
  have AD : iy (fun r => outs.getD (pl r) ⟨#[]⟩) (z9 (ds.map HD.words)).reverse outs ds := fun k d ot hd hot => by
    obtain ⟨i1, i2, i3⟩ := IN k d ot hd hot;refine ⟨i1, i2, fun u hu => ⟨List.mem_reverse.mpr (i3 u hu), ?_⟩⟩;have := hpl _ (i3 u hu)
    show outs.getD _ _ ∈ outs
    rw [Zk, Zb this];exact Zl this
  have GF : ∀ (k : Nat) (d : HD) (ot : List Str), ds[k]? = some d -> ot ∈ z9 ((ds.eraseIdx k).map HD.words) -> colP d (putQ pl ot k d.words) = yy (fun r => outs.getD (pl r) ⟨#[]⟩) outs ds (k, ot) := fun k d ot hd hot => by
    rw [kd hd]
    congr 1
    refine Yj fun u hu => ?_
    have hl := hpl _ ((IN k d ot hd hot).2.2 u hu)
    show _ = outs.idxOf (outs.getD _ _)
    rw [Zk, Zb hl];exact (ze5 G.outsD (Zb hl)).symm
  show T _ _ _
  rw [hT];clear hT T;refine uo fun T hT => ?_
  simp only [zc, zd, ↓reduceIte];have LW : LawAt H6 b t xs outs ds pl (fun r => outs.getD (pl r) ⟨#[]⟩) := ⟨b6, G, ht6, hpl, IN, GF⟩;have S06 : Same H H6 := S04.trans (S5.trans S6);have o6 := (S4.trans (S5.trans S6)) _ _ oF;refine ⟨p, ko, kh, td, hs, outs, ds, _, _, rfl, hK6, G, h6, AD, fun H0 H7 tp l as ps S60 hl0 hl1 S7 htp hl PA => ?_, fun H7 tp c l i x cy S7 ex no htp hc hl R => ?_⟩
  . rw [hT]
    clear hT T;refine j2 fun T hT => ?_
    simp only [zc, zd, ↓reduceIte];refine ⟨a, ns, 4, rfl, (S06.trans S7).seq hS, _, rfl, by decide, _, .of htp, _, zw (j := 0) rfl, rfl, ite2 (fun h => absurd h (by decide)) fun _ => ?_⟩;generalize zy ns 4 % 5 = mode;rw [hT];clear hT T;refine uo fun T hT => ?_
    simp only [zc, zd, ↓reduceIte];have PAT : ∀ {H' : Hp} {as' : List Addr} {ps' : List PD} {H0' : Hp}, PapersN H0' H' as' (dueK ds ds.length) (yy (fun r => outs.getD (pl r) ⟨#[]⟩) outs ds) (xj ds) ps' -> ∀ (i : Nat) (a' : Addr) (x : Nat × List Str), 0 <= i -> as'[i]? = some a' -> (dueK ds ds.length)[i]? = some x -> ∃ d, PapN H' a' x (yy (fun r => outs.getD (pl r) ⟨#[]⟩) outs ds x) (xj ds x) d := fun PA i a' x _ h1 h2 => ⟨_, PA.at' i a' x _ h1 h2 (Zb (by have := PA.lenp; have := (Zc.mp h2).1; omega))⟩
    refine ⟨_, .of htp, _, zw (j := 1) rfl, p, ko, kh, b, t, l, hs, xs, outs, ds, pl, _, as, 0, rfl, hK6.mono S7, LW.mono S7, hl, PA.len, PAT PA, fun H8 S8 => ⟨_, rfl, iteF ?_⟩⟩;rw [hT];clear hT T;refine uo fun T hT => ?_
    simp only [zc, zd, ↓reduceIte];refine ⟨_, .of (S8 _ _ htp), _, zw (j := 1) rfl, p, ko, kh, b, t, l, hs, xs, outs, ds, pl, _, H6, H0, as, ps, rfl, hK6, LW, S7.trans S8, S60, hl1, S8 _ _ hl, PA.mono S8, fun H9 S9 hl9 tu => ⟨_, rfl, iteF ?_⟩⟩;have htp9 := tu _ _ (S8 _ _ htp);rw [hT];clear hT T;refine uo fun T hT => ?_
    simp only [zc, zd, ↓reduceIte];refine ⟨_, .of htp9, _, zw (j := 1) rfl, ?_⟩;refine ⟨.inl ⟨rfl, _, .of hl9⟩, _, rfl, _, hl9, ?_⟩
    have S10 : Same H6 (upd H9 l (.lst (as.map V.ref).reverse)) := fun y u hy => by
      rw [zx fun e => by rw [e, hl0] at hy; cases hy];exact S9 _ _ hy
    generalize upd H9 l (.lst (as.map V.ref).reverse) = H10 at *;rw [hT];clear hT T;refine uo fun T hT => ?_
    simp only [zc, zd, ↓reduceIte];refine ⟨o, t, outs, pl, _, rfl, S10 _ _ o6, S10 _ _ ht6, hnd, few, hpl, fun H11 t2 S11 h11 => ?_⟩;refine ⟨t2, rfl, _, S11 _ _ (S10 _ _ h6), h11, fun kv hkv => ?_, ?_⟩
    . obtain ⟨r, _, rfl⟩ := Zp.mp hkv
      rfl
    have S611 := S10.trans S11;rw [hT];clear hT T;simp only [zc, zd, ↓reduceIte];refine ⟨p, ko, kh, td, hs, outs, ds, _, _, rfl, hK6.mono S611, G, S611 _ _ h6, AD, fun H0' H12 tp2 l2 as2 ps2 _ _ _ S12 htp2 hl2 PA2 => ?_, fun H12 tp2 c2 l2 i x cy S12 ex no htp2 hc2 hl2 R => ?_⟩
    . exact ⟨_, rfl, _, .of htp2, _, zw (j := 1) rfl, p, ko, kh, b, t, l2, hs, xs, outs, ds, pl, _, as2, 0, rfl, hK6.mono (S611.trans S12), LW.mono (S611.trans S12), hl2, PA2.len, PAT PA2, fun H13 _ => q _⟩
    . exfalso
      obtain ⟨d, P1⟩ := PAT PA i _ x (ZE _) (Zb (by have := PA.len; have := (Zc.mp ex).1; omega)) ex;exact zao P1.great.no R
  . rw [hT]
    clear hT T;refine j2 fun T hT => ?_
    simp only [zc, zd, ↓reduceIte];refine ⟨a, ns, 4, rfl, (S06.trans S7).seq hS, _, rfl, by decide, _, .of htp, _, zw (j := 0) rfl, rfl, ite2 (fun _ => ⟨rfl, ite2 (fun _ => q _) fun h0 => ⟨rfl, ?_⟩⟩) fun h => absurd (decide_eq_true rfl) h⟩
    by_cases h3 : zy ns 4 % 5 = 3
    . rw [decide_eq_true h3]
      exact q _
    . exfalso
      have hb := hbest (fun z => h0 (decide_eq_true z)) h3;obtain ⟨xk, xo⟩ := x;obtain ⟨k1, k2⟩ := kt (Zi ex);have ed : ds[xk]? = some ds[xk] := Zb k1;obtain ⟨wt, qs, w1, hw⟩ := zft G hpl hb ed k2;rw [GF xk _ xo ed k2] at hw;exact zg2 w1 R (by rw [jd ed]; exact hw)
theorem law_ok (B : Bt mg) (C : Ct K mg a) (d_is_whole : zi K mg "is_whole" p0 ["thing"]) (d_is_bounded : zi K mg "is_bounded" tj ["thing"]) (d_is_grid_row : zi K mg "is_grid_row" ur ["thing", "width"]) (d_turn : zi K mg "turn" g6 ["grid", "s", "t"]) (d_gain : zi K mg "gain" gk ["grid", "pays", "t", "s"]) (d_first_gain : zi K mg "first_gain" u9 ["grid", "pays"]) (d_is_name : zi K mg "is_name" my ["thing"]) (d_are_names : zi K mg "are_names" qm ["thing", "most"]) (d_are_worths : zi K mg "are_worths" sh ["thing", "height", "width"]) (d_is_hand : zi K mg "is_hand" mj ["thing", "width"]) (d_name_of : zi K mg "name_of" mi ["hand"]) (d_names_of : zi K mg "names_of" og ["hands"]) (d_words_of_hand : zi K mg "words_of_hand" wf ["hand"]) (d_worths_of_hand : zi K mg "worths_of_hand" wa ["hand"]) (d_count_of_rows : zi K mg "count_of_rows" vp ["hands"]) (d_makes_house : zi K mg "makes_house" um ["outcomes", "hands"]) (d_kept_hand : zi K mg "kept_hand" ud ["hand"]) (d_house_of : zi K mg "house_of" so ["outcomes", "hands"]) (d_outcomes_of : zi K mg "outcomes_of" uw ["house"]) (d_hands_of : zi K mg "hands_of" p8 ["house"]) (d_with_each : zi K mg "with_each" rn ["rows", "words"]) (d_rows_over : zi K mg "rows_over" r6 ["hands"]) (d_without : zi K mg "without" ma ["things", "k"]) (d_others_of : zi K mg "others_of" qj ["house", "k"]) (d_row_with : zi K mg "row_with" pp ["others", "k", "word"]) (d_total_of : zi K mg "total_of" pi ["walk"]) (d_words_of : zi K mg "words_of" oh ["walk"]) (d_walks_of_one_turn : zi K mg "walks_of_one_turn" we ["grid", "s"]) (d_least_to : zi K mg "least_to" tf ["grid", "walks", "t"]) (d_lengthened : zi K mg "lengthened" vz ["grid", "walks"]) (d_after_a_turn : zi K mg "after_a_turn" ua ["grid", "totals", "t"]) (d_has_honest : zi K mg "has_honest" t8 ["grid"]) (d_closed_below_zero : zi K mg "closed_below_zero" wb ["rows"]) (d_ring : zi K mg "ring" gi ["grid"]) (d_refuse_ring : zi K mg "refuse_ring" ux ["grid"]) (d_lesser : zi K mg "lesser" k7 ["walk", "longer"]) (d_least_roads : zi K mg "least_roads" up ["grid", "walks"]) (d_greatest : zi K mg "greatest" px ["grid"]) (d_dealt_places : zi K mg "dealt_places" v8 ["house", "table", "k", "others"]) (d_worths_at : zi K mg "worths_at" qk ["worths", "places"]) (d_grid_of : zi K mg "grid_of" mh ["house", "table", "k", "others"]) (d_grids_of : zi K mg "grids_of" pj ["house", "table"]) (d_paper : zi K mg "paper" j4 ["k", "others", "grid"]) (d_verdict : zi K mg "verdict" mf ["house", "table"]) (d_law_cell_at : zi K mg "_law_cell_at" uq ["script", "k"]) (d_law_pool : zi K mg "_law_pool" yd ["cell", "many"]) (d_law_drawn : zi K mg "_law_drawn" qg ["script", "k"]) (d_law_worth : zi K mg "_law_worth" ql ["cell"]) (d_law_parts : zi K mg "_law_parts" rm ["script", "tops"]) (d_law_rows : zi K mg "_law_rows" oe ["hands"]) (d_law_score : zi K mg "_law_score" qc ["hands", "row", "weights", "place"]) (d_law_places : zi K mg "_law_places" sm ["script", "outcomes", "hands"]) (d_law_table : zi K mg "_law_table" qf ["outcomes", "places"]) (d_law_grid : zi K mg "_law_grid" pw ["hands", "places", "k", "others"]) (d_law_turn : zi K mg "_law_turn" pz ["grid", "s", "t"]) (d_law_whole : zi K mg "_law_whole" qh ["found"]) (d_law_honest : zi K mg "_law_honest" s9 ["grid", "pays"]) (d_law_road : zi K mg "_law_road" oi ["grid", "t", "pay", "words"]) (d_law_paper : zi K mg "_law_paper" qi ["hands", "places", "paper_v", "k", "others"]) (d_law_papers : zi K mg "_law_papers" ra ["house", "hands", "places", "papers", "first"]) (d_law_others_stay : zi K mg "_law_others_stay" wu ["house", "hands", "places", "papers"]) (base : Heap) {f : Addr} {fd : FuncData} (F : Fun K "law" "law" j0 f fd) : FnOk P w K mg base CX0 10 f fd ["script"] (zdc K) := by
  have c1 := yt (P := P) (w := w) (base := base) B d_law_cell_at;have c2 := tw (P := P) (w := w) (base := base) B d_law_pool;have c3 := m3 (P := P) (w := w) (base := base) d_law_worth;have c4 := wp B c1 d_law_drawn;have c5 := m6 B c1 c2 c3 c4 d_law_parts;have n1 := qv (P := P) (w := w) (base := base) B d_is_name;have n2 := vi B n1 d_are_names;have n3 := pc B (na B (kx (P := P) (w := w) (base := base) B d_is_whole) d_is_bounded) d_is_grid_row;have n4 := o0 B n3 d_are_worths;have n5 := je B n1 n2 n4 d_is_hand;have n6 := vt (P := P) (w := w) (base := base) d_name_of;have n7 := yu (P := P) (w := w) (base := base) d_words_of_hand;have n8 := xh (P := P) (w := w) (base := base) d_worths_of_hand;have n9 := vf B n2 n5 (ku n6 d_names_of) (si B n7 d_count_of_rows) d_makes_house;have n10 := zds B C n9 (za9 B n6 n7 n8 d_kept_hand) d_house_of;have m1 := zde (P := P) (w := w) (base := base) d_hands_of;have m0 := cr (P := P) (w := w) (base := base) d_outcomes_of;have mw := gq (P := P) (w := w) (base := base) d_words_of_hand;have mv := il (P := P) (w := w) (base := base) d_worths_of_hand;have mo := m8 B (m5 (P := P) (w := w) (base := base) B d_with_each) mw d_rows_over;have t1 := jj B (rj B (kg B d_row_with) mw m1 m0 d_dealt_places) (lc d_worths_at) mv m1 d_grid_of;have c7 := vx (P := P) (w := w) (base := base) d_turn;have c8 := xf (P := P) (w := w) (base := base) d_total_of;have c9 := sx (P := P) (w := w) (base := base) d_words_of;have c14 := jb B (nu B (rk B c7 d_after_a_turn) (ox B (zaj c7 d_gain) d_first_gain) d_has_honest) (vn B c7 d_walks_of_one_turn) (vy B (sf B c7 c8 d_least_to) d_lengthened) (vm B c8 c9 d_closed_below_zero) d_ring;have c18 := qz B (zat B (zc8 B c7 c8 d_least_to) d_lengthened) (iw c8 d_lesser) d_least_roads;have c19 := kz B C (q9 B C c14 d_refuse_ring) c18 c8 c9 d_greatest;have oo := ug B mo m1 (jr (P := P) (w := w) (base := base) B d_without) d_others_of;have v1 := kc B m1 t1 oo d_grids_of;have lt := se (P := P) (w := w) (base := base) d_law_turn;have lw := uk (P := P) (w := w) (base := base) B d_law_whole;have lg := sk (P := P) (w := w) (base := base) B d_law_grid;have lh := vv B lw lt d_law_honest;have lo := sd B lw lt d_law_road;have lp := wz B oo (mz B lg lh lo d_law_paper) d_law_papers;exact law_fn B c1 c5 n10 (nh B c1 c4 (kj (P := P) (w := w) (base := base) d_law_rows) (m4 B d_law_score) d_law_places) (qd B d_law_table) (nv B v1 c14 (e5 B c19 d_paper) d_verdict) lp (ub B lg lh lo lp d_law_others_stay) F
end
end Mine
namespace Tp
open PySem PySem.W PySem.Calls PyProof.Rows
noncomputable section
abbrev pr : Program := PySem.Challenge.pw_trueword_k39_pays_told
def en (P : Params) (x : Str) (t : Nat) (v : Value) : DictEntry := ⟨PyData.keyHash P x, .str x t, v⟩
abbrev fn (i : Nat) (name qual : Str) (dV kV doc pm : Value) (an : Option Addr) (cdv ct : Value) : FuncData := fnOf name qual (L2.u4 (Mine.top i)) (L2.y1 (Mine.top i)) (L2.zl (Mine.top i)) dV kV doc pm an cdv ct
abbrev fx (i : Nat) (name qual : Str) (g : Addr) (dV kV doc pm : Value) (an : Option Addr) (cdv ct : Value) (b : Addr) : FuncData := ⟨name, qual, L2.u4 (Mine.top i), .stmts (L2.y1 (Mine.top i)), L2.zl (Mine.top i), g, [], dV, kV, doc, pm, an, cdv, ct, b⟩
def oE : Obj := ⟨.type "tuple", none, .seq #[] 0, #[]⟩
def oF : Obj := ⟨.none, none, .fields #[], #[]⟩
def tl : Nat -> List Str -> List Value
  | _, [] => []
  | t, x :: r => .str x t :: tl (t + 1) r
def ts (t : Nat) (xs : List Str) : Obj := ⟨.type "tuple", none, .seq (tl t xs).toArray 0, #[]⟩
def fo (i : Nat) (n m : Str) (t c : Nat) : Obj := ⟨.type "function", none, .func (fn i n n .none .none .none (.str m t) none (.ref c) .none), #[]⟩
def xo (i : Nat) (n : Str) : Obj := ⟨.none, none, .func (fx i n n 0 .none .none .none .none none .none .none 0), #[]⟩
def co (n : Str) (t l c f a : Nat) (b : Bool) (e : Nat) (v1 v2 v3 v4 : Value) (k : Nat) : Obj := ⟨.type "code", none, .fields #[.str n t, .str n (t + 1), .str "/claim/cut.py" (t + 2), .int l 0, .int c 0, .int 0 0, .int 0 0, .int f 0, .ref a, .bool b, .int 181 0, .ref e, v1, v2, v3, v4, .int k 0, .int l 0, .str "/claim/cut.py" (k + 1)], #[]⟩
def ia (t : BT) : Nat -> List Obj -> BT
  | _, [] => t
  | n, o :: r => ia (t.ins n o) (n + 1) r
def lf (P : Params) : Life := (boot_heap P).life
def env : Env := { scope := pr.main.scope, locals := mainNs, globals := mainNs, cells := [], code := (.ref 13), frame := some 14 }
def cd : Code := .body (behindTheImports pr) env
def qp : Pos := ⟨0, 0, 0, 0⟩
def o13 : Obj := (co "<module>" 182 1 0 0 11 false 12 .none .none .none .none 185)
def ha (P : Params) : Heap := ⟨⟨[boot_o_0 P, boot_o_1 P, boot_o_2 P, boot_o_3 P, boot_o_4 P, boot_o_5 P, boot_o_6 P, boot_o_7 P, boot_o_8 P, boot_o_9 P, boot_o_10 P, oE, oF, o13, ⟨(.type "frame"), none, .plain, #[(some (.ref 13)), (some (.ref 3)), (some (.ref 3)), none, (some (.str "__main__" 164)), none, (some (.ref 0))]⟩]⟩, lf P⟩
def t0 (P : Params) : BT := (.node (boot_o_0 P) (.node (boot_o_1 P) (.node (boot_o_3 P) (.node (boot_o_7 P) .nil .nil) (.node (oE) .nil .nil)) (.node (boot_o_5 P) (.node (boot_o_9 P) .nil .nil) (.node (o13) .nil .nil))) (.node (boot_o_2 P) (.node (boot_o_4 P) (.node (boot_o_8 P) .nil .nil) (.node (oF) .nil .nil)) (.node (boot_o_6 P) (.node (boot_o_10 P) .nil .nil) (.node (⟨(.type "frame"), none, .plain, #[(some (.ref 13)), (some (.ref 3)), (some (.ref 3)), none, (some (.str "__main__" 164)), none, (some (.ref 0))]⟩) .nil .nil))))
def o3 (P : Params) : Obj := ⟨(.type "dict"), none, (.dict #[en P "__name__" 165 (.str "trueword.rings" 437), en P "__doc__" 166 .none, en P "__package__" 167 .none, en P "__loader__" 168 (.builtin "__main__.__loader__#opaque"), en P "__spec__" 169 .none, en P "__annotations__" 170 (.ref 6), en P "__builtins__" 171 (.ref 4), en P "__file__" 173 (.str "/claim/cut.py" 172), en P "__cached__" 174 .none, en P "TrueError" 206 (.ref 24), en P "NoPays" 222 (.ref 37), en P "NoHouse" 238 (.ref 49), en P "MOST_WORDS" 242 (.int (8) 241), en P "is_whole" 249 (.ref 58), en P "is_bounded" 256 (.ref 65), en P "is_grid_row" 262 (.ref 70), en P "turn" 271 (.ref 77), en P "gain" 281 (.ref 84), en P "first_gain" 292 (.ref 91), en P "MOST_LETTERS" 296 (.int (8) 295), en P "MOST_OUTCOMES" 298 (.int (8) 297), en P "MOST_HANDS" 300 (.int (4) 299), en P "MOST_ROWS" 302 (.int (256) 301), en P "is_name" 308 (.ref 96), en P "are_names" 314 (.ref 101), en P "are_worths" 320 (.ref 106), en P "is_hand" 328 (.ref 113), en P "name_of" 335 (.ref 120), en P "names_of" 341 (.ref 125), en P "words_of_hand" 348 (.ref 132), en P "worths_of_hand" 355 (.ref 139), en P "count_of_rows" 364 (.ref 146), en P "makes_house" 370 (.ref 151), en P "kept_hand" 376 (.ref 156), en P "house_of" 382 (.ref 161), en P "outcomes_of" 389 (.ref 168), en P "hands_of" 396 (.ref 175), en P "with_each" 402 (.ref 180), en P "rows_over" 411 (.ref 187), en P "without" 419 (.ref 194), en P "others_of" 427 (.ref 201), en P "row_with" 436 (.ref 208), en P "total_of" 445 (.ref 215), en P "words_of" 452 (.ref 222), en P "walks_of_one_turn" 458 (.ref 227)] 45), #[]⟩
def o17 (P : Params) : Obj := ⟨(.type "dict"), none, (.dict #[en P "__module__" 196 (.str "trueword.errors" 187), en P "__qualname__" 198 (.str "TrueError" 197), en P "__firstlineno__" 200 (.int (2) 199), en P "__static_attributes__" 201 (.ref 22)] 4), #[]⟩
def o20 : Obj := (co "TrueError" 191 2 0 0 18 false 19 .none .none .none .none 194)
def o23 (P : Params) : Obj := ⟨(.type "dict"), none, (.dict #[en P "__module__" 196 (.str "trueword.errors" 187), en P "__firstlineno__" 200 (.int (2) 199), en P "__static_attributes__" 201 (.ref 22), en P "__weakref__" 203 (.ref 25), en P "__doc__" 204 .none] 3), #[]⟩
def o24 : Obj := ⟨(.type "type"), none, (.cls ⟨"TrueError", [(.type "ValueError")], [(.ref 24), (.type "ValueError"), (.type "Exception"), (.type "BaseException"), (.type "object")], 23, "TrueError", true, [], [(.ref 37), (.ref 49)], false, none, false⟩), #[(some (.ref 15)), none, (some (.str "TrueError" 189)), (some (.str "TrueError" 197)), (some (.builtin "ValueError.__new__")), (some (.bool true))]⟩
def o30 (P : Params) : Obj := ⟨(.type "dict"), none, (.dict #[en P "__module__" 214 (.str "trueword.errors" 187), en P "__qualname__" 216 (.str "NoPays" 215), en P "__firstlineno__" 218 (.int (4) 217), en P "__static_attributes__" 219 (.ref 35)] 4), #[]⟩
def o33 : Obj := (co "NoPays" 209 4 0 0 31 false 32 .none .none .none .none 212)
def o36 (P : Params) : Obj := ⟨(.type "dict"), none, (.dict #[en P "__module__" 214 (.str "trueword.errors" 187), en P "__firstlineno__" 218 (.int (4) 217), en P "__static_attributes__" 219 (.ref 35), en P "__doc__" 220 .none] 2), #[]⟩
def o37 : Obj := ⟨(.type "type"), none, (.cls ⟨"NoPays", [(.ref 24)], [(.ref 37), (.ref 24), (.type "ValueError"), (.type "Exception"), (.type "BaseException"), (.type "object")], 36, "NoPays", true, [], [], false, none, false⟩), #[(some (.ref 28)), none, (some (.str "NoPays" 207)), (some (.str "NoPays" 215)), (some (.builtin "ValueError.__new__")), (some (.bool true))]⟩
def o42 (P : Params) : Obj := ⟨(.type "dict"), none, (.dict #[en P "__module__" 230 (.str "trueword.errors" 187), en P "__qualname__" 232 (.str "NoHouse" 231), en P "__firstlineno__" 234 (.int (6) 233), en P "__static_attributes__" 235 (.ref 47)] 4), #[]⟩
def o45 : Obj := (co "NoHouse" 225 6 0 0 43 false 44 .none .none .none .none 228)
def o48 (P : Params) : Obj := ⟨(.type "dict"), none, (.dict #[en P "__module__" 230 (.str "trueword.errors" 187), en P "__firstlineno__" 234 (.int (6) 233), en P "__static_attributes__" 235 (.ref 47), en P "__doc__" 236 .none] 2), #[]⟩
def o49 : Obj := ⟨(.type "type"), none, (.cls ⟨"NoHouse", [(.ref 24)], [(.ref 49), (.ref 24), (.type "ValueError"), (.type "Exception"), (.type "BaseException"), (.type "object")], 48, "NoHouse", true, [], [], false, none, false⟩), #[(some (.ref 40)), none, (some (.str "NoHouse" 223)), (some (.str "NoHouse" 231)), (some (.builtin "ValueError.__new__")), (some (.bool true))]⟩
def o57 : Obj := (co "is_whole" 243 10 1 3 52 true 53 .none (.ref 54) (.ref 55) (.ref 56) 247)
def o58 : Obj := (fo 6 "is_whole" "trueword.grids" 239 57)
def o64 : Obj := (co "is_bounded" 250 12 1 3 59 true 60 .none (.ref 61) (.ref 62) (.ref 63) 254)
def o65 : Obj := (fo 7 "is_bounded" "trueword.grids" 239 64)
def o69 : Obj := (co "is_grid_row" 257 14 2 3 66 true 67 .none .none .none (.ref 68) 260)
def o70 : Obj := (fo 8 "is_grid_row" "trueword.grids" 239 69)
def o76 : Obj := (co "turn" 263 18 3 3 71 true 72 .none (.ref 73) (.ref 74) (.ref 75) 269)
def o77 : Obj := (fo 9 "turn" "trueword.grids" 239 76)
def o83 : Obj := (co "gain" 272 20 4 3 78 true 79 .none (.ref 80) (.ref 81) (.ref 82) 279)
def o84 : Obj := (fo 10 "gain" "trueword.grids" 239 83)
def o90 : Obj := (co "first_gain" 282 22 2 3 85 true 86 .none (.ref 87) (.ref 88) (.ref 89) 290)
def o91 : Obj := (fo 11 "first_gain" "trueword.grids" 239 90)
def o95 : Obj := (co "is_name" 303 34 1 3 92 true 93 .none .none .none (.ref 94) 306)
def o96 : Obj := (fo 17 "is_name" "trueword.houses" 293 95)
def o100 : Obj := (co "are_names" 309 38 2 3 97 true 98 .none .none .none (.ref 99) 312)
def o101 : Obj := (fo 18 "are_names" "trueword.houses" 293 100)
def o105 : Obj := (co "are_worths" 315 42 3 3 102 true 103 .none .none .none (.ref 104) 318)
def o106 : Obj := (fo 19 "are_worths" "trueword.houses" 293 105)
def o112 : Obj := (co "is_hand" 321 46 2 3 107 true 108 .none (.ref 109) (.ref 110) (.ref 111) 326)
def o113 : Obj := (fo 20 "is_hand" "trueword.houses" 293 112)
def o119 : Obj := (co "name_of" 329 50 1 3 114 true 115 .none (.ref 116) (.ref 117) (.ref 118) 333)
def o120 : Obj := (fo 21 "name_of" "trueword.houses" 293 119)
def o124 : Obj := (co "names_of" 336 52 1 3 121 true 122 .none .none .none (.ref 123) 339)
def o125 : Obj := (fo 22 "names_of" "trueword.houses" 293 124)
def o131 : Obj := (co "words_of_hand" 342 54 1 3 126 true 127 .none (.ref 128) (.ref 129) (.ref 130) 346)
def o132 : Obj := (fo 23 "words_of_hand" "trueword.houses" 293 131)
def o138 : Obj := (co "worths_of_hand" 349 56 1 3 133 true 134 .none (.ref 135) (.ref 136) (.ref 137) 353)
def o139 : Obj := (fo 24 "worths_of_hand" "trueword.houses" 293 138)
def o145 : Obj := (co "count_of_rows" 356 58 1 3 140 true 141 .none (.ref 142) (.ref 143) (.ref 144) 362)
def o146 : Obj := (fo 25 "count_of_rows" "trueword.houses" 293 145)
def o150 : Obj := (co "makes_house" 365 63 2 3 147 true 148 .none .none .none (.ref 149) 368)
def o151 : Obj := (fo 26 "makes_house" "trueword.houses" 293 150)
def o155 : Obj := (co "kept_hand" 371 69 1 3 152 true 153 .none .none .none (.ref 154) 374)
def o156 : Obj := (fo 27 "kept_hand" "trueword.houses" 293 155)
def o160 : Obj := (co "house_of" 377 72 2 3 157 true 158 .none .none .none (.ref 159) 380)
def o161 : Obj := (fo 28 "house_of" "trueword.houses" 293 160)
def o167 : Obj := (co "outcomes_of" 383 76 1 3 162 true 163 .none (.ref 164) (.ref 165) (.ref 166) 387)
def o168 : Obj := (fo 29 "outcomes_of" "trueword.houses" 293 167)
def o174 : Obj := (co "hands_of" 390 78 1 3 169 true 170 .none (.ref 171) (.ref 172) (.ref 173) 394)
def o175 : Obj := (fo 30 "hands_of" "trueword.houses" 293 174)
def o179 : Obj := (co "with_each" 397 80 2 3 176 true 177 .none .none .none (.ref 178) 400)
def o180 : Obj := (fo 31 "with_each" "trueword.houses" 293 179)
def o186 : Obj := (co "rows_over" 403 85 1 3 181 true 182 .none (.ref 183) (.ref 184) (.ref 185) 409)
def o187 : Obj := (fo 32 "rows_over" "trueword.houses" 293 186)
def o193 : Obj := (co "without" 412 90 2 3 188 true 189 .none (.ref 190) (.ref 191) (.ref 192) 417)
def o194 : Obj := (fo 33 "without" "trueword.houses" 293 193)
def o200 : Obj := (co "others_of" 420 92 2 3 195 true 196 .none (.ref 197) (.ref 198) (.ref 199) 425)
def o201 : Obj := (fo 34 "others_of" "trueword.houses" 293 200)
def o207 : Obj := (co "row_with" 428 94 3 3 202 true 203 .none (.ref 204) (.ref 205) (.ref 206) 434)
def o208 : Obj := (fo 35 "row_with" "trueword.houses" 293 207)
def o214 : Obj := (co "total_of" 439 97 1 3 209 true 210 .none (.ref 211) (.ref 212) (.ref 213) 443)
def o215 : Obj := (fo 37 "total_of" "trueword.rings" 437 214)
def o221 : Obj := (co "words_of" 446 99 1 3 216 true 217 .none (.ref 218) (.ref 219) (.ref 220) 450)
def o222 : Obj := (fo 38 "words_of" "trueword.rings" 437 221)
def o226 : Obj := (co "walks_of_one_turn" 453 101 2 3 223 true 224 .none .none .none (.ref 225) 456)
def o227 : Obj := (fo 39 "walks_of_one_turn" "trueword.rings" 437 226)
def t1 (P : Params) : BT := ia (((t0 P).set 3 fun _ => o3 P).set 12 fun _ => ⟨.none, none, (.fields #[(.int (2) 0), (.int (0) 0), (.ref 20), (.int (4) 0), (.int (0) 0), (.ref 33), (.int (6) 0), (.int (0) 0), (.ref 45), (.int (10) 0), (.int (0) 0), (.ref 57), (.int (12) 0), (.int (0) 0), (.ref 64), (.int (14) 0), (.int (0) 0), (.ref 69), (.int (18) 0), (.int (0) 0), (.ref 76), (.int (20) 0), (.int (0) 0), (.ref 83), (.int (22) 0), (.int (0) 0), (.ref 90), (.int (34) 0), (.int (0) 0), (.ref 95), (.int (38) 0), (.int (0) 0), (.ref 100), (.int (42) 0), (.int (0) 0), (.ref 105), (.int (46) 0), (.int (0) 0), (.ref 112), (.int (50) 0), (.int (0) 0), (.ref 119), (.int (52) 0), (.int (0) 0), (.ref 124), (.int (54) 0), (.int (0) 0), (.ref 131), (.int (56) 0), (.int (0) 0), (.ref 138), (.int (58) 0), (.int (0) 0), (.ref 145), (.int (63) 0), (.int (0) 0), (.ref 150), (.int (69) 0), (.int (0) 0), (.ref 155), (.int (72) 0), (.int (0) 0), (.ref 160), (.int (76) 0), (.int (0) 0), (.ref 167), (.int (78) 0), (.int (0) 0), (.ref 174), (.int (80) 0), (.int (0) 0), (.ref 179), (.int (85) 0), (.int (0) 0), (.ref 186), (.int (90) 0), (.int (0) 0), (.ref 193), (.int (92) 0), (.int (0) 0), (.ref 200), (.int (94) 0), (.int (0) 0), (.ref 207), (.int (97) 0), (.int (0) 0), (.ref 214), (.int (99) 0), (.int (0) 0), (.ref 221), (.int (101) 0), (.int (0) 0), (.ref 226)]), #[]⟩) 15 [⟨(.type "tuple"), none, (.seq #[(.type "ValueError")] 0), #[]⟩, ⟨(.type "builtin_function_or_method"), none, (.fields #[(.builtin "type.__prepare__"), (.type "type")]), #[]⟩, o17 P, oE, oF, o20, ⟨(.type "frame"), none, .plain, #[(some (.ref 20)), (some (.ref 3)), (some (.ref 17)), none, (some (.str "trueword.errors" 187)), none, (some (.ref 0))]⟩, oE, o23 P, o24, ⟨(.type "getset_descriptor"), none, (.fields #[(.str "__weakref__" 202), (.ref 24), (.builtin "ExceptionGroup.__weakref__"), .none]), #[]⟩, ⟨(.type "super"), none, (.fields #[(.ref 24), (.ref 24), (.ref 24)]), #[]⟩, ⟨(.type "builtin_function_or_method"), none, (.fields #[(.builtin "object.__init_subclass__"), (.ref 24)]), #[]⟩, ⟨(.type "tuple"), none, (.seq #[(.ref 24)] 0), #[]⟩, ⟨(.type "builtin_function_or_method"), none, (.fields #[(.builtin "type.__prepare__"), (.type "type")]), #[]⟩, o30 P, oE, oF, o33, ⟨(.type "frame"), none, .plain, #[(some (.ref 33)), (some (.ref 3)), (some (.ref 30)), none, (some (.str "trueword.errors" 187)), none, (some (.ref 0))]⟩, oE, o36 P, o37, ⟨(.type "super"), none, (.fields #[(.ref 37), (.ref 37), (.ref 37)]), #[]⟩, ⟨(.type "builtin_function_or_method"), none, (.fields #[(.builtin "object.__init_subclass__"), (.ref 37)]), #[]⟩, ⟨(.type "tuple"), none, (.seq #[(.ref 24)] 0), #[]⟩, ⟨(.type "builtin_function_or_method"), none, (.fields #[(.builtin "type.__prepare__"), (.type "type")]), #[]⟩, o42 P, oE, oF, o45, ⟨(.type "frame"), none, .plain, #[(some (.ref 45)), (some (.ref 3)), (some (.ref 42)), none, (some (.str "trueword.errors" 187)), none, (some (.ref 0))]⟩, oE, o48 P, o49, ⟨(.type "super"), none, (.fields #[(.ref 49), (.ref 49), (.ref 49)]), #[]⟩, ⟨(.type "builtin_function_or_method"), none, (.fields #[(.builtin "object.__init_subclass__"), (.ref 49)]), #[]⟩, oE, oF, (ts 246 ["thing"]), oE, (xo 6 "is_whole"), o57, o58, oE, oF, (ts 253 ["thing"]), oE, (xo 7 "is_bounded"), o64, o65, oE, oF, (xo 8 "is_grid_row"), o69, o70, oE, oF, (ts 266 ["grid", "s", "t"]), oE, (xo 9 "turn"), o76, o77, oE, oF, (ts 275 ["grid", "pays", "t", "s"]), oE, (xo 10 "gain"), o83, o84, oE, oF, (ts 285 ["grid", "pays", "t", "s", "more"]), oE, (xo 11 "first_gain"), o90, o91, oE, oF, (xo 17 "is_name"), o95, o96, oE, oF, (xo 18 "are_names"), o100, o101, oE, oF, (xo 19 "are_worths"), o105, o106, oE, oF, (ts 324 ["thing", "width"]), oE, (xo 20 "is_hand"), o112, o113, oE, oF, (ts 332 ["hand"]), oE, (xo 21 "name_of"), o119, o120, oE, oF, (xo 22 "names_of"), o124, o125, oE, oF, (ts 345 ["hand"]), oE, (xo 23 "words_of_hand"), o131, o132, oE, oF, (ts 352 ["hand"]), oE, (xo 24 "worths_of_hand"), o138, o139, oE, oF, (ts 359 ["hands", "count", "hand"]), oE, (xo 25 "count_of_rows"), o145, o146, oE, oF, (xo 26 "makes_house"), o150, o151, oE, oF, (xo 27 "kept_hand"), o155, o156, oE, oF, (xo 28 "house_of"), o160, o161, oE, oF, (ts 386 ["house"]), oE, (xo 29 "outcomes_of"), o167, o168, oE, oF, (ts 393 ["house"]), oE, (xo 30 "hands_of"), o174, o175, oE, oF, (xo 31 "with_each"), o179, o180, oE, oF, (ts 406 ["hands", "rows", "hand"]), oE, (xo 32 "rows_over"), o186, o187, oE, oF, (ts 415 ["things", "k"]), oE, (xo 33 "without"), o193, o194, oE, oF, (ts 423 ["house", "k"]), oE, (xo 34 "others_of"), o200, o201, oE, oF, (ts 431 ["others", "k", "word"]), oE, (xo 35 "row_with"), o207, o208, oE, oF, (ts 442 ["walk"]), oE, (xo 37 "total_of"), o214, o215, oE, oF, (ts 449 ["walk"]), oE, (xo 38 "words_of"), o221, o222, oE, oF, (xo 39 "walks_of_one_turn"), o226, o227]
def o3_1 (P : Params) : Obj := ⟨(.type "dict"), none, (.dict #[en P "__name__" 165 (.str "law_trueword_k39_pays_told" 580), en P "__doc__" 166 .none, en P "__package__" 167 .none, en P "__loader__" 168 (.builtin "__main__.__loader__#opaque"), en P "__spec__" 169 .none, en P "__annotations__" 170 (.ref 6), en P "__builtins__" 171 (.ref 4), en P "__file__" 173 (.str "/claim/cut.py" 172), en P "__cached__" 174 .none, en P "TrueError" 206 (.ref 24), en P "NoPays" 222 (.ref 37), en P "NoHouse" 238 (.ref 49), en P "MOST_WORDS" 242 (.int (8) 241), en P "is_whole" 249 (.ref 58), en P "is_bounded" 256 (.ref 65), en P "is_grid_row" 262 (.ref 70), en P "turn" 271 (.ref 77), en P "gain" 281 (.ref 84), en P "first_gain" 292 (.ref 91), en P "MOST_LETTERS" 296 (.int (8) 295), en P "MOST_OUTCOMES" 298 (.int (8) 297), en P "MOST_HANDS" 300 (.int (4) 299), en P "MOST_ROWS" 302 (.int (256) 301), en P "is_name" 308 (.ref 96), en P "are_names" 314 (.ref 101), en P "are_worths" 320 (.ref 106), en P "is_hand" 328 (.ref 113), en P "name_of" 335 (.ref 120), en P "names_of" 341 (.ref 125), en P "words_of_hand" 348 (.ref 132), en P "worths_of_hand" 355 (.ref 139), en P "count_of_rows" 364 (.ref 146), en P "makes_house" 370 (.ref 151), en P "kept_hand" 376 (.ref 156), en P "house_of" 382 (.ref 161), en P "outcomes_of" 389 (.ref 168), en P "hands_of" 396 (.ref 175), en P "with_each" 402 (.ref 180), en P "rows_over" 411 (.ref 187), en P "without" 419 (.ref 194), en P "others_of" 427 (.ref 201), en P "row_with" 436 (.ref 208), en P "total_of" 445 (.ref 215), en P "words_of" 452 (.ref 222), en P "walks_of_one_turn" 458 (.ref 227), en P "least_to" 464 (.ref 232), en P "lengthened" 470 (.ref 237), en P "after_a_turn" 476 (.ref 242), en P "has_honest" 482 (.ref 247), en P "closed_below_zero" 491 (.ref 254), en P "ring" 497 (.ref 259), en P "refuse_ring" 506 (.ref 266), en P "lesser" 514 (.ref 273), en P "least_roads" 520 (.ref 278), en P "greatest" 528 (.ref 283), en P "dealt_places" 536 (.ref 288), en P "worths_at" 542 (.ref 293), en P "grid_of" 548 (.ref 298), en P "grids_of" 556 (.ref 303), en P "paper" 566 (.ref 310), en P "verdict" 579 (.ref 317), en P "_law_cell_at" 589 (.ref 324), en P "_law_pool" 595 (.ref 329), en P "_law_drawn" 606 (.ref 336), en P "_law_worth" 613 (.ref 343), en P "_law_parts" 619 (.ref 348), en P "_law_rows" 625 (.ref 353), en P "_law_score" 638 (.ref 360), en P "_law_places" 644 (.ref 365), en P "_law_table" 654 (.ref 372), en P "_law_grid" 660 (.ref 377), en P "_law_turn" 669 (.ref 384), en P "_law_whole" 676 (.ref 391), en P "_law_honest" 686 (.ref 398), en P "_law_road" 699 (.ref 405), en P "_law_paper" 712 (.ref 412), en P "_law_papers" 726 (.ref 419), en P "_law_others_stay" 742 (.ref 426), en P "law" 756 (.ref 433)] 79), #[]⟩
def o231 : Obj := (co "least_to" 459 103 3 3 228 true 229 .none .none .none (.ref 230) 462)
def o232 : Obj := (fo 40 "least_to" "trueword.rings" 437 231)
def o236 : Obj := (co "lengthened" 465 106 2 3 233 true 234 .none .none .none (.ref 235) 468)
def o237 : Obj := (fo 41 "lengthened" "trueword.rings" 437 236)
def o241 : Obj := (co "after_a_turn" 471 108 3 3 238 true 239 .none .none .none (.ref 240) 474)
def o242 : Obj := (fo 42 "after_a_turn" "trueword.rings" 437 241)
def o246 : Obj := (co "has_honest" 477 110 1 3 243 true 244 .none .none .none (.ref 245) 480)
def o247 : Obj := (fo 43 "has_honest" "trueword.rings" 437 246)
def o253 : Obj := (co "closed_below_zero" 483 115 1 3 248 true 249 .none (.ref 250) (.ref 251) (.ref 252) 489)
def o254 : Obj := (fo 44 "closed_below_zero" "trueword.rings" 437 253)
def o258 : Obj := (co "ring" 492 120 1 3 255 true 256 .none .none .none (.ref 257) 495)
def o259 : Obj := (fo 45 "ring" "trueword.rings" 437 258)
def o265 : Obj := (co "refuse_ring" 500 131 1 3 260 true 261 .none (.ref 262) (.ref 263) (.ref 264) 504)
def o266 : Obj := (fo 47 "refuse_ring" "trueword.roads" 498 265)
def o272 : Obj := (co "lesser" 507 134 2 3 267 true 268 .none (.ref 269) (.ref 270) (.ref 271) 512)
def o273 : Obj := (fo 48 "lesser" "trueword.roads" 498 272)
def o277 : Obj := (co "least_roads" 515 136 2 3 274 true 275 .none .none .none (.ref 276) 518)
def o278 : Obj := (fo 49 "least_roads" "trueword.roads" 498 277)
def o282 : Obj := (co "greatest" 523 141 1 3 279 true 280 .none .none .none (.ref 281) 526)
def o283 : Obj := (fo 51 "greatest" "trueword.pays" 521 282)
def o287 : Obj := (co "dealt_places" 531 146 4 3 284 true 285 .none .none .none (.ref 286) 534)
def o288 : Obj := (fo 53 "dealt_places" "trueword.tables" 529 287)
def o292 : Obj := (co "worths_at" 537 149 2 3 289 true 290 .none .none .none (.ref 291) 540)
def o293 : Obj := (fo 54 "worths_at" "trueword.tables" 529 292)
def o297 : Obj := (co "grid_of" 543 151 4 3 294 true 295 .none .none .none (.ref 296) 546)
def o298 : Obj := (fo 55 "grid_of" "trueword.tables" 529 297)
def o302 : Obj := (co "grids_of" 551 155 2 3 299 true 300 .none .none .none (.ref 301) 554)
def o303 : Obj := (fo 57 "grids_of" "trueword.verdicts" 549 302)
def o309 : Obj := (co "paper" 557 160 3 3 304 true 305 .none (.ref 306) (.ref 307) (.ref 308) 564)
def o310 : Obj := (fo 58 "paper" "trueword.verdicts" 549 309)
def o316 : Obj := (co "verdict" 567 163 2 3 311 true 312 .none (.ref 313) (.ref 314) (.ref 315) 577)
def o317 : Obj := (fo 59 "verdict" "trueword.verdicts" 549 316)
def o323 : Obj := (co "_law_cell_at" 582 172 2 3 318 true 319 .none (.ref 320) (.ref 321) (.ref 322) 587)
def o324 : Obj := (fo 61 "_law_cell_at" "law_trueword_k39_pays_told" 580 323)
def o328 : Obj := (co "_law_pool" 590 176 2 3 325 true 326 .none .none .none (.ref 327) 593)
def o329 : Obj := (fo 62 "_law_pool" "law_trueword_k39_pays_told" 580 328)
def o335 : Obj := (co "_law_drawn" 596 189 2 3 330 true 331 .none (.ref 332) (.ref 333) (.ref 334) 604)
def o336 : Obj := (fo 63 "_law_drawn" "law_trueword_k39_pays_told" 580 335)
def o342 : Obj := (co "_law_worth" 607 196 1 3 337 true 338 .none (.ref 339) (.ref 340) (.ref 341) 611)
def o343 : Obj := (fo 64 "_law_worth" "law_trueword_k39_pays_told" 580 342)
def o347 : Obj := (co "_law_parts" 614 204 2 3 344 true 345 .none .none .none (.ref 346) 617)
def o348 : Obj := (fo 65 "_law_parts" "law_trueword_k39_pays_told" 580 347)
def o352 : Obj := (co "_law_rows" 620 219 1 3 349 true 350 .none .none .none (.ref 351) 623)
def o353 : Obj := (fo 66 "_law_rows" "law_trueword_k39_pays_told" 580 352)
def o359 : Obj := (co "_law_score" 626 227 4 3 354 true 355 .none (.ref 356) (.ref 357) (.ref 358) 636)
def o360 : Obj := (fo 67 "_law_score" "law_trueword_k39_pays_told" 580 359)
def o364 : Obj := (co "_law_places" 639 233 3 3 361 true 362 .none .none .none (.ref 363) 642)
def o365 : Obj := (fo 68 "_law_places" "law_trueword_k39_pays_told" 580 364)
def o371 : Obj := (co "_law_table" 645 253 2 3 366 true 367 .none (.ref 368) (.ref 369) (.ref 370) 652)
def o372 : Obj := (fo 69 "_law_table" "law_trueword_k39_pays_told" 580 371)
def o376 : Obj := (co "_law_grid" 655 258 4 3 373 true 374 .none .none .none (.ref 375) 658)
def o377 : Obj := (fo 70 "_law_grid" "law_trueword_k39_pays_told" 580 376)
def o383 : Obj := (co "_law_turn" 661 264 3 3 378 true 379 .none (.ref 380) (.ref 381) (.ref 382) 667)
def o384 : Obj := (fo 71 "_law_turn" "law_trueword_k39_pays_told" 580 383)
def o390 : Obj := (co "_law_whole" 670 266 1 3 385 true 386 .none (.ref 387) (.ref 388) (.ref 389) 674)
def o391 : Obj := (fo 72 "_law_whole" "law_trueword_k39_pays_told" 580 390)
def o397 : Obj := (co "_law_honest" 677 268 2 3 392 true 393 .none (.ref 394) (.ref 395) (.ref 396) 684)
def o398 : Obj := (fo 73 "_law_honest" "law_trueword_k39_pays_told" 580 397)
def o404 : Obj := (co "_law_road" 687 278 4 3 399 true 400 .none (.ref 401) (.ref 402) (.ref 403) 697)
def o405 : Obj := (fo 74 "_law_road" "law_trueword_k39_pays_told" 580 404)
def o411 : Obj := (co "_law_paper" 700 288 5 3 406 true 407 .none (.ref 408) (.ref 409) (.ref 410) 710)
def o412 : Obj := (fo 75 "_law_paper" "law_trueword_k39_pays_told" 580 411)
def o418 : Obj := (co "_law_papers" 713 300 5 3 413 true 414 .none (.ref 415) (.ref 416) (.ref 417) 724)
def o419 : Obj := (fo 76 "_law_papers" "law_trueword_k39_pays_told" 580 418)
def o425 : Obj := (co "_law_others_stay" 727 312 4 3 420 true 421 .none (.ref 422) (.ref 423) (.ref 424) 740)
def o426 : Obj := (fo 77 "_law_others_stay" "law_trueword_k39_pays_told" 580 425)
def o432 : Obj := (co "law" 743 323 1 3 427 true 428 .none (.ref 429) (.ref 430) (.ref 431) 754)
def o433 : Obj := (fo 78 "law" "law_trueword_k39_pays_told" 580 432)
def t2 (P : Params) : BT := ia (((t1 P).set 3 fun _ => o3_1 P).set 12 fun _ => ⟨.none, none, (.fields #[(.int (2) 0), (.int (0) 0), (.ref 20), (.int (4) 0), (.int (0) 0), (.ref 33), (.int (6) 0), (.int (0) 0), (.ref 45), (.int (10) 0), (.int (0) 0), (.ref 57), (.int (12) 0), (.int (0) 0), (.ref 64), (.int (14) 0), (.int (0) 0), (.ref 69), (.int (18) 0), (.int (0) 0), (.ref 76), (.int (20) 0), (.int (0) 0), (.ref 83), (.int (22) 0), (.int (0) 0), (.ref 90), (.int (34) 0), (.int (0) 0), (.ref 95), (.int (38) 0), (.int (0) 0), (.ref 100), (.int (42) 0), (.int (0) 0), (.ref 105), (.int (46) 0), (.int (0) 0), (.ref 112), (.int (50) 0), (.int (0) 0), (.ref 119), (.int (52) 0), (.int (0) 0), (.ref 124), (.int (54) 0), (.int (0) 0), (.ref 131), (.int (56) 0), (.int (0) 0), (.ref 138), (.int (58) 0), (.int (0) 0), (.ref 145), (.int (63) 0), (.int (0) 0), (.ref 150), (.int (69) 0), (.int (0) 0), (.ref 155), (.int (72) 0), (.int (0) 0), (.ref 160), (.int (76) 0), (.int (0) 0), (.ref 167), (.int (78) 0), (.int (0) 0), (.ref 174), (.int (80) 0), (.int (0) 0), (.ref 179), (.int (85) 0), (.int (0) 0), (.ref 186), (.int (90) 0), (.int (0) 0), (.ref 193), (.int (92) 0), (.int (0) 0), (.ref 200), (.int (94) 0), (.int (0) 0), (.ref 207), (.int (97) 0), (.int (0) 0), (.ref 214), (.int (99) 0), (.int (0) 0), (.ref 221), (.int (101) 0), (.int (0) 0), (.ref 226), (.int (103) 0), (.int (0) 0), (.ref 231), (.int (106) 0), (.int (0) 0), (.ref 236), (.int (108) 0), (.int (0) 0), (.ref 241), (.int (110) 0), (.int (0) 0), (.ref 246), (.int (115) 0), (.int (0) 0), (.ref 253), (.int (120) 0), (.int (0) 0), (.ref 258), (.int (131) 0), (.int (0) 0), (.ref 265), (.int (134) 0), (.int (0) 0), (.ref 272), (.int (136) 0), (.int (0) 0), (.ref 277), (.int (141) 0), (.int (0) 0), (.ref 282), (.int (146) 0), (.int (0) 0), (.ref 287), (.int (149) 0), (.int (0) 0), (.ref 292), (.int (151) 0), (.int (0) 0), (.ref 297), (.int (155) 0), (.int (0) 0), (.ref 302), (.int (160) 0), (.int (0) 0), (.ref 309), (.int (163) 0), (.int (0) 0), (.ref 316), (.int (172) 0), (.int (0) 0), (.ref 323), (.int (176) 0), (.int (0) 0), (.ref 328), (.int (189) 0), (.int (0) 0), (.ref 335), (.int (196) 0), (.int (0) 0), (.ref 342), (.int (204) 0), (.int (0) 0), (.ref 347), (.int (219) 0), (.int (0) 0), (.ref 352), (.int (227) 0), (.int (0) 0), (.ref 359), (.int (233) 0), (.int (0) 0), (.ref 364), (.int (253) 0), (.int (0) 0), (.ref 371), (.int (258) 0), (.int (0) 0), (.ref 376), (.int (264) 0), (.int (0) 0), (.ref 383), (.int (266) 0), (.int (0) 0), (.ref 390), (.int (268) 0), (.int (0) 0), (.ref 397), (.int (278) 0), (.int (0) 0), (.ref 404), (.int (288) 0), (.int (0) 0), (.ref 411), (.int (300) 0), (.int (0) 0), (.ref 418), (.int (312) 0), (.int (0) 0), (.ref 425), (.int (323) 0), (.int (0) 0), (.ref 432)]), #[]⟩) 228 [oE, oF, (xo 40 "least_to"), o231, o232, oE, oF, (xo 41 "lengthened"), o236, o237, oE, oF, (xo 42 "after_a_turn"), o241, o242, oE, oF, (xo 43 "has_honest"), o246, o247, oE, oF, (ts 486 ["rows", "s", "walks"]), oE, (xo 44 "closed_below_zero"), o253, o254, oE, oF, (xo 45 "ring"), o258, o259, oE, oF, (ts 503 ["grid"]), oE, (xo 47 "refuse_ring"), o265, o266, oE, oF, (ts 510 ["walk", "longer"]), oE, (xo 48 "lesser"), o272, o273, oE, oF, (xo 49 "least_roads"), o277, o278, oE, oF, (xo 51 "greatest"), o282, o283, oE, oF, (xo 53 "dealt_places"), o287, o288, oE, oF, (xo 54 "worths_at"), o292, o293, oE, oF, (xo 55 "grid_of"), o297, o298, oE, oF, (xo 57 "grids_of"), o302, o303, oE, oF, (ts 560 ["k", "others", "grid", "told"]), oE, (xo 58 "paper"), o309, o310, oE, oF, (ts 570 ["house", "table", "papers", "k", "others", "grid", "found"]), oE, (xo 59 "verdict"), o316, o317, oE, oF, (ts 585 ["script", "k"]), oE, (xo 61 "_law_cell_at"), o323, o324, oE, oF, (xo 62 "_law_pool"), o328, o329, oE, oF, (ts 599 ["script", "k", "many", "cell", "number"]), oE, (xo 63 "_law_drawn"), o335, o336, oE, oF, (ts 610 ["cell"]), oE, (xo 64 "_law_worth"), o342, o343, oE, oF, (xo 65 "_law_parts"), o347, o348, oE, oF, (xo 66 "_law_rows"), o352, o353, oE, oF, (ts 629 ["hands", "row", "weights", "place", "score", "j", "t"]), oE, (xo 67 "_law_score"), o359, o360, oE, oF, (xo 68 "_law_places"), o364, o365, oE, oF, (ts 648 ["outcomes", "places", "table", "row"]), oE, (xo 69 "_law_table"), o371, o372, oE, oF, (xo 70 "_law_grid"), o376, o377, oE, oF, (ts 664 ["grid", "s", "t"]), oE, (xo 71 "_law_turn"), o383, o384, oE, oF, (ts 673 ["found"]), oE, (xo 72 "_law_whole"), o390, o391, oE, oF, (ts 680 ["grid", "pays", "t", "s"]), oE, (xo 73 "_law_honest"), o397, o398, oE, oF, (ts 690 ["grid", "t", "pay", "words", "one", "whole", "j"]), oE, (xo 74 "_law_road"), o404, o405, oE, oF, (ts 703 ["hands", "places", "paper_v", "k", "others", "grid", "t"]), oE, (xo 75 "_law_paper"), o411, o412, oE, oF, (ts 716 ["house", "hands", "places", "papers", "first", "at", "k", "others"]), oE, (xo 76 "_law_papers"), o418, o419, oE, oF, (ts 730 ["house", "hands", "places", "papers", "k", "others", "pays", "roads", "grid", "t"]), oE, (xo 77 "_law_others_stay"), o425, o426, oE, oF, (ts 746 ["script", "outcomes", "hands", "house", "places", "table", "found", "mode"]), oE, (xo 78 "law"), o432, o433]
def hf (P : Params) : Heap := absHeap (t2 P) 434 (lf P)
def s0 (w : World) (os : OsState) : SharedT := ⟨t0 w.params, 15, lf w.params, Array.mk [], boot_drawn, 187, os⟩
def s1 (w : World) (os : OsState) : SharedT := ⟨t1 w.params, 228, lf w.params, Array.mk [], boot_drawn, 459, os⟩
def s2 (w : World) (os : OsState) : SharedT := ⟨t2 w.params, 434, lf w.params, Array.mk [], boot_drawn, 757, os⟩
def l0 : List Stmt := (pr.main.body.drop 0).take 40
def l1 : List Stmt := (pr.main.body.drop 40).take 39
theorem bs : behindTheImports pr = l0 ++ (l1 ++ ([])) := by kernel_rfl
theorem r_pre (w : World) (os : OsState) : topGo treeTable pr w 11 (some (.ref 6)) 12 ⟨boot_heap w.params, Array.mk [], boot_drawn, boot_toks, os⟩ (topStub pr) = some (⟨ha w.params, Array.mk [], boot_drawn, 187, os⟩, ⟨denote treeTable cd, cd, ⟨0, 0, 0, 0⟩, [topFrame qp]⟩) := by kernel_rfl
theorem zia (w : World) (os : OsState) : segRun treeTable pr w 11 (some (.ref 6)) 1 1 ⟨ha w.params, Array.mk [], boot_drawn, 187, os⟩ (blockOf (behindTheImports pr) env cd ⟨0, 0, 0, 0⟩ [topFrame qp]) = some (.next, (s0 w os).abs, cd, ⟨0, 0, 0, 0⟩) := by kernel_rfl
theorem r0 (w : World) (os : OsState) : segRunT treeTable pr w 11 (some (.ref 6)) 1 1494 (s0 w os) (piecesOf l0 env cd ⟨0, 0, 0, 0⟩ [topFrame qp]) = some (.next, s1 w os, cd, ⟨101, 0, 102, 65⟩) := by
  rw [PySem.W.Fast.te10110043849684766642, PySem.W.Fast.te14364793385576792824]; kernel_rfl
theorem r1 (w : World) (os : OsState) : segRunT treeTable pr w 11 (some (.ref 6)) 1 1050 (s1 w os) (piecesOf l1 env cd ⟨101, 0, 102, 65⟩ [topFrame qp]) = some (.next, s2 w os, cd, ⟨323, 0, 339, 73⟩) := by
  rw [PySem.W.Fast.te10110043849684766642, PySem.W.Fast.te14364793385576792824]; kernel_rfl
theorem r_fin (w : World) (os : OsState) : topRun treeTable pr w 11 (some (.ref 6)) 2 (s2 w os).abs ⟨doneF .next, cd, ⟨323, 0, 339, 73⟩, [topFrame qp]⟩ = some ⟨hf w.params, Array.mk [], boot_drawn, 757, os⟩ := by kernel_rfl
theorem r_rest (w : World) (os : OsState) : topRun treeTable pr w 11 (some (.ref 6)) (1494 + (1050 + (2))) (s0 w os).abs (restOf (behindTheImports pr) env cd ⟨0, 0, 0, 0⟩ [topFrame qp]) = some ⟨hf w.params, Array.mk [], boot_drawn, 757, os⟩ := by
  have k := piece_app (segRun_of (r0 w os)) (piece_app (segRun_of (r1 w os)) (piece_nil (r_fin w os)));exact (congrArg (fun b => topRun treeTable pr w 11 (some (.ref 6)) (1494 + (1050 + (2))) (s0 w os).abs (restOf b env cd ⟨0, 0, 0, 0⟩ [topFrame qp])) bs).trans k
theorem r_all (w : World) (os : OsState) : topRun treeTable pr w 11 (some (.ref 6)) (12 + (1 + (1494 + (1050 + (2))))) ⟨boot_heap w.params, Array.mk [], boot_drawn, boot_toks, os⟩ (topStub pr) = some ⟨hf w.params, Array.mk [], boot_drawn, 757, os⟩ := go_top (r_pre w os) (piece_block (zia w os) (r_rest w os))
def ks : List Addr := [3, 13, 17, 20, 23, 24, 30, 33, 36, 37, 42, 45, 48, 49, 57, 58, 64, 65, 69, 70, 76, 77, 83, 84, 90, 91, 95, 96, 100, 101, 105, 106, 112, 113, 119, 120, 124, 125, 131, 132, 138, 139, 145, 146, 150, 151, 155, 156, 160, 161, 167, 168, 174, 175, 179, 180, 186, 187, 193, 194, 200, 201, 207, 208, 214, 215, 221, 222, 226, 227, 231, 232, 236, 237, 241, 242, 246, 247, 253, 254, 258, 259, 265, 266, 272, 273, 277, 278, 282, 283, 287, 288, 292, 293, 297, 298, 302, 303, 309, 310, 316, 317, 323, 324, 328, 329, 335, 336, 342, 343, 347, 348, 352, 353, 359, 360, 364, 365, 371, 372, 376, 377, 383, 384, 390, 391, 397, 398, 404, 405, 411, 412, 418, 419, 425, 426, 432, 433]
def K : Params -> Frag := fun P => (nat_lit 3, o3_1 P) :: (nat_lit 13, o13) :: (nat_lit 17, o17 P) :: (nat_lit 20, o20) :: (nat_lit 23, o23 P) :: (nat_lit 24, o24) :: (nat_lit 30, o30 P) :: (nat_lit 33, o33) :: (nat_lit 36, o36 P) :: (nat_lit 37, o37) :: (nat_lit 42, o42 P) :: (nat_lit 45, o45) :: (nat_lit 48, o48 P) :: (nat_lit 49, o49) :: (nat_lit 57, o57) :: (nat_lit 58, o58) :: (nat_lit 64, o64) :: (nat_lit 65, o65) :: (nat_lit 69, o69) :: (nat_lit 70, o70) :: (nat_lit 76, o76) :: (nat_lit 77, o77) :: (nat_lit 83, o83) :: (nat_lit 84, o84) :: (nat_lit 90, o90) :: (nat_lit 91, o91) :: (nat_lit 95, o95) :: (nat_lit 96, o96) :: (nat_lit 100, o100) :: (nat_lit 101, o101) :: (nat_lit 105, o105) :: (nat_lit 106, o106) :: (nat_lit 112, o112) :: (nat_lit 113, o113) :: (nat_lit 119, o119) :: (nat_lit 120, o120) :: (nat_lit 124, o124) :: (nat_lit 125, o125) :: (nat_lit 131, o131) :: (nat_lit 132, o132) :: (nat_lit 138, o138) :: (nat_lit 139, o139) :: (nat_lit 145, o145) :: (nat_lit 146, o146) :: (nat_lit 150, o150) :: (nat_lit 151, o151) :: (nat_lit 155, o155) :: (nat_lit 156, o156) :: (nat_lit 160, o160) :: (nat_lit 161, o161) :: (nat_lit 167, o167) :: (nat_lit 168, o168) :: (nat_lit 174, o174) :: (nat_lit 175, o175) :: (nat_lit 179, o179) :: (nat_lit 180, o180) :: (nat_lit 186, o186) :: (nat_lit 187, o187) :: (nat_lit 193, o193) :: (nat_lit 194, o194) :: (nat_lit 200, o200) :: (nat_lit 201, o201) :: (nat_lit 207, o207) :: (nat_lit 208, o208) :: (nat_lit 214, o214) :: (nat_lit 215, o215) :: (nat_lit 221, o221) :: (nat_lit 222, o222) :: (nat_lit 226, o226) :: (nat_lit 227, o227) :: (nat_lit 231, o231) :: (nat_lit 232, o232) :: (nat_lit 236, o236) :: (nat_lit 237, o237) :: (nat_lit 241, o241) :: (nat_lit 242, o242) :: (nat_lit 246, o246) :: (nat_lit 247, o247) :: (nat_lit 253, o253) :: (nat_lit 254, o254) :: (nat_lit 258, o258) :: (nat_lit 259, o259) :: (nat_lit 265, o265) :: (nat_lit 266, o266) :: (nat_lit 272, o272) :: (nat_lit 273, o273) :: (nat_lit 277, o277) :: (nat_lit 278, o278) :: (nat_lit 282, o282) :: (nat_lit 283, o283) :: (nat_lit 287, o287) :: (nat_lit 288, o288) :: (nat_lit 292, o292) :: (nat_lit 293, o293) :: (nat_lit 297, o297) :: (nat_lit 298, o298) :: (nat_lit 302, o302) :: (nat_lit 303, o303) :: (nat_lit 309, o309) :: (nat_lit 310, o310) :: (nat_lit 316, o316) :: (nat_lit 317, o317) :: (nat_lit 323, o323) :: (nat_lit 324, o324) :: (nat_lit 328, o328) :: (nat_lit 329, o329) :: (nat_lit 335, o335) :: (nat_lit 336, o336) :: (nat_lit 342, o342) :: (nat_lit 343, o343) :: (nat_lit 347, o347) :: (nat_lit 348, o348) :: (nat_lit 352, o352) :: (nat_lit 353, o353) :: (nat_lit 359, o359) :: (nat_lit 360, o360) :: (nat_lit 364, o364) :: (nat_lit 365, o365) :: (nat_lit 371, o371) :: (nat_lit 372, o372) :: (nat_lit 376, o376) :: (nat_lit 377, o377) :: (nat_lit 383, o383) :: (nat_lit 384, o384) :: (nat_lit 390, o390) :: (nat_lit 391, o391) :: (nat_lit 397, o397) :: (nat_lit 398, o398) :: (nat_lit 404, o404) :: (nat_lit 405, o405) :: (nat_lit 411, o411) :: (nat_lit 412, o412) :: (nat_lit 418, o418) :: (nat_lit 419, o419) :: (nat_lit 425, o425) :: (nat_lit 426, o426) :: (nat_lit 432, o432) :: (nat_lit 433, o433) :: []
theorem ke (P : Params) : ks = (K P).map (·.1) := by kernel_rfl
def lo : List Str := pr.main.scope.names.map (·.1)
def vw : Program := { pr with main := { pr.main with body := [Mine.j0] } }
def fs (w : World) (os : OsState) : Shared := ⟨hf w.params, Array.mk [], boot_drawn, 757, os⟩
theorem z_size (w : World) : ((boot_heap w.params).isNs mainGlobals && (Array.mk [] : Array GenState).size == 0, (boot_heap w.params).objs.size, (boot_heap w.params).nsMap mainGlobals "__annotations__") = (true, 11, (some (.ref 6))) := by kernel_rfl
theorem z_one (w : World) (os : OsState) : (staticsOk (importedModules pr.main.body) (boot_heap w.params) (hf w.params) && namesBound pr (hf w.params) && gensDone (fs w os) && laidKept (boot_heap w.params) (hf w.params)) = true := by kernel_rfl
theorem z_two (w : World) (os : OsState) : openSeen vw lo (importedModules pr.main.body) (fun _ => true) true (fs w os) = openGood vw lo := by
  rw [PySem.W.Fast.te4187177175401517315]; kernel_rfl
theorem zie (w : World) (os : OsState) : (kHook K ks ke).obs (fs w os) = (kHook K ks ke).val w := by kernel_rfl
theorem z_open : opening pr = plainProg pr.main.scope.names := by kernel_rfl
theorem zib (s : Shared) : fenceModules? pr s = some s := by kernel_rfl
theorem left : LeftO pr vw lo (fun _ => true) (kHook K ks ke).obs (kHook K ks ke).val 1000000 :=
  LeftO.of_pieces (boot_open z_open rfl zib) z_size r_all rfl fun w => funext fun os => looks_pair (z_one w os) (looks_pair (z_two w os) (zie w os))
end
end Tp
open PySem PySem.W PyProof.Rows
set_option maxRecDepth 100000 in
set_option maxHeartbeats 0 in
theorem PySem.Challenge.cw_trueword_k39_pays_told_holds : PySem.Challenge.rw_trueword_k39_pays_told.Holds := by
  refine holds_law (by rw [PySem.W.Fast.te9446332074065402090]; kernel_rfl) fun said => ?_
  refine holds_open (q := Tp.vw) (loose := Tp.lo) (Xt := fun _ => true) (XP := fun _ _ => True) (Yf := (kHook Tp.K Tp.ks Tp.ke).obs) (Ya := (kHook Tp.K Tp.ks Tp.ke).val) (YP := (kHook Tp.K Tp.ks Tp.ke).says) (N := 1000000) Tp.left (kHook Tp.K Tp.ks Tp.ke).of (kHook Tp.K Tp.ks Tp.ke).keeps (fun _ _ => trivial) (fun _ _ _ _ _ => trivial) (by rfl) (by rfl) (by rfl) (fun _ _ => recFacts_nil rfl) (by rfl) said (by decide +kernel) ⟨rfl, rfl, rfl, rfl, rfl, by decide +kernel⟩ ?hw ?hc
  case hw => w_witness2
  k_fill
  refine L2.zgl (l := PySem.Challenge.rw_trueword_k39_pays_told) (n := 63) (k := 10) (x := "script") (CX := L2.CX0) (sp := Mine.zdc) rfl (by decide) rfl ⟨rfl, by decide, by decide⟩ (fun w h Y => PySem.W.kIn_of Y) ?F ?S ?C
  case F =>
    intro w mg fa h KX G hmg
    have N : mg "abs" = none /\ mg "all" = none /\ mg "bool" = none /\ mg "enumerate" = none /\ mg "int" = none /\ mg "isinstance" = none /\ mg "len" = none /\ mg "list" = none /\ mg "max" = none /\ mg "min" = none /\ mg "range" = none /\ mg "set" = none /\ mg "str" = none /\ mg "tuple" = none /\ mg "zip" = none /\ True := by
      refine ⟨?_, ?_, ?_, ?_, ?_, ?_, ?_, ?_, ?_, ?_, ?_, ?_, ?_, ?_, ?_, trivial⟩ <;> (refine' PySem.W.mg_none_of KX G ?a; (case a => k_is))
    obtain ⟨n_abs, n_all, n_bool, n_enumerate, n_int, n_isinstance, n_len, n_list, n_max, n_min, n_range, n_set, n_str, n_tuple, n_zip, -⟩ := N;have k0_MOST_WORDS := PySem.W.mg_of (n := "MOST_WORDS") KX G (by k_is);have k_MOST_WORDS : ∃ t, mg "MOST_WORDS" = some (Value.int 8 t) := ⟨_, k0_MOST_WORDS⟩;have k0_MOST_LETTERS := PySem.W.mg_of (n := "MOST_LETTERS") KX G (by k_is);have k_MOST_LETTERS : ∃ t, mg "MOST_LETTERS" = some (Value.int 8 t) := ⟨_, k0_MOST_LETTERS⟩;have k0_MOST_OUTCOMES := PySem.W.mg_of (n := "MOST_OUTCOMES") KX G (by k_is);have k_MOST_OUTCOMES : ∃ t, mg "MOST_OUTCOMES" = some (Value.int 8 t) := ⟨_, k0_MOST_OUTCOMES⟩;have k0_MOST_HANDS := PySem.W.mg_of (n := "MOST_HANDS") KX G (by k_is);have k_MOST_HANDS : ∃ t, mg "MOST_HANDS" = some (Value.int 4 t) := ⟨_, k0_MOST_HANDS⟩;have k0_MOST_ROWS := PySem.W.mg_of (n := "MOST_ROWS") KX G (by k_is);have k_MOST_ROWS : ∃ t, mg "MOST_ROWS" = some (Value.int 256 t) := ⟨_, k0_MOST_ROWS⟩;have B : Mine.Bt mg := ⟨n_abs, n_all, n_bool, n_enumerate, n_int, n_isinstance, n_len, n_list, n_max, n_min, n_range, n_set, n_str, n_tuple, n_zip, k_MOST_WORDS, k_MOST_LETTERS, k_MOST_OUTCOMES, k_MOST_HANDS, k_MOST_ROWS⟩;have z_NoHouse := L2.zfy (name := "NoHouse") KX G (by k_is) (by k_exc) (by k_is) (by k_is) (by k_is);have z_NoPays := L2.zfy (name := "NoPays") KX G (by k_is) (by k_exc) (by k_is) (by k_is) (by k_is);have C := Mine.Ct.mk (mg := mg) (a := ⟨_, _⟩) (z_NoHouse.1) (z_NoHouse.2) (z_NoPays.1) (z_NoPays.2)
    have D : L2.zi (L2.KOf KX) mg "is_whole" Mine.p0 ["thing"] /\ L2.zi (L2.KOf KX) mg "is_bounded" Mine.tj ["thing"] /\ L2.zi (L2.KOf KX) mg "is_grid_row" Mine.ur ["thing", "width"] /\ L2.zi (L2.KOf KX) mg "turn" Mine.g6 ["grid", "s", "t"] /\ L2.zi (L2.KOf KX) mg "gain" Mine.gk ["grid", "pays", "t", "s"] /\ L2.zi (L2.KOf KX) mg "first_gain" Mine.u9 ["grid", "pays"] /\ L2.zi (L2.KOf KX) mg "is_name" Mine.my ["thing"] /\ L2.zi (L2.KOf KX) mg "are_names" Mine.qm ["thing", "most"] /\ L2.zi (L2.KOf KX) mg "are_worths" Mine.sh ["thing", "height", "width"] /\ L2.zi (L2.KOf KX) mg "is_hand" Mine.mj ["thing", "width"] /\ L2.zi (L2.KOf KX) mg "name_of" Mine.mi ["hand"] /\ L2.zi (L2.KOf KX) mg "names_of" Mine.og ["hands"] /\ L2.zi (L2.KOf KX) mg "words_of_hand" Mine.wf ["hand"] /\ L2.zi (L2.KOf KX) mg "worths_of_hand" Mine.wa ["hand"] /\ L2.zi (L2.KOf KX) mg "count_of_rows" Mine.vp ["hands"] /\ L2.zi (L2.KOf KX) mg "makes_house" Mine.um ["outcomes", "hands"] /\ L2.zi (L2.KOf KX) mg "kept_hand" Mine.ud ["hand"] /\ L2.zi (L2.KOf KX) mg "house_of" Mine.so ["outcomes", "hands"] /\ L2.zi (L2.KOf KX) mg "outcomes_of" Mine.uw ["house"] /\ L2.zi (L2.KOf KX) mg "hands_of" Mine.p8 ["house"] /\ L2.zi (L2.KOf KX) mg "with_each" Mine.rn ["rows", "words"] /\ L2.zi (L2.KOf KX) mg "rows_over" Mine.r6 ["hands"] /\ L2.zi (L2.KOf KX) mg "without" Mine.ma ["things", "k"] /\ L2.zi (L2.KOf KX) mg "others_of" Mine.qj ["house", "k"] /\ L2.zi (L2.KOf KX) mg "row_with" Mine.pp ["others", "k", "word"] /\ L2.zi (L2.KOf KX) mg "total_of" Mine.pi ["walk"] /\ L2.zi (L2.KOf KX) mg "words_of" Mine.oh ["walk"] /\ L2.zi (L2.KOf KX) mg "walks_of_one_turn" Mine.we ["grid", "s"] /\ L2.zi (L2.KOf KX) mg "least_to" Mine.tf ["grid", "walks", "t"] /\ L2.zi (L2.KOf KX) mg "lengthened" Mine.vz ["grid", "walks"] /\ L2.zi (L2.KOf KX) mg "after_a_turn" Mine.ua ["grid", "totals", "t"] /\ L2.zi (L2.KOf KX) mg "has_honest" Mine.t8 ["grid"] /\ L2.zi (L2.KOf KX) mg "closed_below_zero" Mine.wb ["rows"] /\ L2.zi (L2.KOf KX) mg "ring" Mine.gi ["grid"] /\ L2.zi (L2.KOf KX) mg "refuse_ring" Mine.ux ["grid"] /\ L2.zi (L2.KOf KX) mg "lesser" Mine.k7 ["walk", "longer"] /\ L2.zi (L2.KOf KX) mg "least_roads" Mine.up ["grid", "walks"] /\ L2.zi (L2.KOf KX) mg "greatest" Mine.px ["grid"] /\ L2.zi (L2.KOf KX) mg "dealt_places" Mine.v8 ["house", "table", "k", "others"] /\ L2.zi (L2.KOf KX) mg "worths_at" Mine.qk ["worths", "places"] /\ L2.zi (L2.KOf KX) mg "grid_of" Mine.mh ["house", "table", "k", "others"] /\ L2.zi (L2.KOf KX) mg "grids_of" Mine.pj ["house", "table"] /\ L2.zi (L2.KOf KX) mg "paper" Mine.j4 ["k", "others", "grid"] /\ L2.zi (L2.KOf KX) mg "verdict" Mine.mf ["house", "table"] /\ L2.zi (L2.KOf KX) mg "_law_cell_at" Mine.uq ["script", "k"] /\ L2.zi (L2.KOf KX) mg "_law_pool" Mine.yd ["cell", "many"] /\ L2.zi (L2.KOf KX) mg "_law_drawn" Mine.qg ["script", "k"] /\ L2.zi (L2.KOf KX) mg "_law_worth" Mine.ql ["cell"] /\ L2.zi (L2.KOf KX) mg "_law_parts" Mine.rm ["script", "tops"] /\ L2.zi (L2.KOf KX) mg "_law_rows" Mine.oe ["hands"] /\ L2.zi (L2.KOf KX) mg "_law_score" Mine.qc ["hands", "row", "weights", "place"] /\ L2.zi (L2.KOf KX) mg "_law_places" Mine.sm ["script", "outcomes", "hands"] /\ L2.zi (L2.KOf KX) mg "_law_table" Mine.qf ["outcomes", "places"] /\ L2.zi (L2.KOf KX) mg "_law_grid" Mine.pw ["hands", "places", "k", "others"] /\ L2.zi (L2.KOf KX) mg "_law_turn" Mine.pz ["grid", "s", "t"] /\ L2.zi (L2.KOf KX) mg "_law_whole" Mine.qh ["found"] /\ L2.zi (L2.KOf KX) mg "_law_honest" Mine.s9 ["grid", "pays"] /\ L2.zi (L2.KOf KX) mg "_law_road" Mine.oi ["grid", "t", "pay", "words"] /\ L2.zi (L2.KOf KX) mg "_law_paper" Mine.qi ["hands", "places", "paper_v", "k", "others"] /\ L2.zi (L2.KOf KX) mg "_law_papers" Mine.ra ["house", "hands", "places", "papers", "first"] /\ L2.zi (L2.KOf KX) mg "_law_others_stay" Mine.wu ["house", "hands", "places", "papers"] /\ L2.zi (L2.KOf KX) mg "law" Mine.j0 ["script"] /\ True := by
      refine ⟨?_, ?_, ?_, ?_, ?_, ?_, ?_, ?_, ?_, ?_, ?_, ?_, ?_, ?_, ?_, ?_, ?_, ?_, ?_, ?_, ?_, ?_, ?_, ?_, ?_, ?_, ?_, ?_, ?_, ?_, ?_, ?_, ?_, ?_, ?_, ?_, ?_, ?_, ?_, ?_, ?_, ?_, ?_, ?_, ?_, ?_, ?_, ?_, ?_, ?_, ?_, ?_, ?_, ?_, ?_, ?_, ?_, ?_, ?_, ?_, ?_, ?_, trivial⟩ <;> (dsimp only [L2.KOf]; refine' L2.def_mk KX G ?a ?l ?c ?k ?h; (case a => k_is); (case l => k_is); (case c => k_is); (case k => k_is); (case h => first | exact (fun _ _ _ _ _ _ us hl => match us, hl with | [_], _ => rfl) | exact (fun _ _ _ _ _ _ us hl => match us, hl with | [_, _], _ => rfl) | exact (fun _ _ _ _ _ _ us hl => match us, hl with | [_, _, _], _ => rfl) | exact (fun _ _ _ _ _ _ us hl => match us, hl with | [_, _, _, _], _ => rfl) | exact (fun _ _ _ _ _ _ us hl => match us, hl with | [_, _, _, _, _], _ => rfl)))
    obtain ⟨d_is_whole, d_is_bounded, d_is_grid_row, d_turn, d_gain, d_first_gain, d_is_name, d_are_names, d_are_worths, d_is_hand, d_name_of, d_names_of, d_words_of_hand, d_worths_of_hand, d_count_of_rows, d_makes_house, d_kept_hand, d_house_of, d_outcomes_of, d_hands_of, d_with_each, d_rows_over, d_without, d_others_of, d_row_with, d_total_of, d_words_of, d_walks_of_one_turn, d_least_to, d_lengthened, d_after_a_turn, d_has_honest, d_closed_below_zero, d_ring, d_refuse_ring, d_lesser, d_least_roads, d_greatest, d_dealt_places, d_worths_at, d_grid_of, d_grids_of, d_paper, d_verdict, d_law_cell_at, d_law_pool, d_law_drawn, d_law_worth, d_law_parts, d_law_rows, d_law_score, d_law_places, d_law_table, d_law_grid, d_law_turn, d_law_whole, d_law_honest, d_law_road, d_law_paper, d_law_papers, d_law_others_stay, d_law, -⟩ := D;obtain ⟨f, fd, e1, F1, b1⟩ := d_law.ex;have e2 := hmg.symm.trans e1;cases e2;refine ⟨fd, fun s u => ?_, fun base kb nb => ?_⟩
    . exact Mine.zfj F1 s u
    . exact Mine.law_ok B C d_is_whole d_is_bounded d_is_grid_row d_turn d_gain d_first_gain d_is_name d_are_names d_are_worths d_is_hand d_name_of d_names_of d_words_of_hand d_worths_of_hand d_count_of_rows d_makes_house d_kept_hand d_house_of d_outcomes_of d_hands_of d_with_each d_rows_over d_without d_others_of d_row_with d_total_of d_words_of d_walks_of_one_turn d_least_to d_lengthened d_after_a_turn d_has_honest d_closed_below_zero d_ring d_refuse_ring d_lesser d_least_roads d_greatest d_dealt_places d_worths_at d_grid_of d_grids_of d_paper d_verdict d_law_cell_at d_law_pool d_law_drawn d_law_worth d_law_parts d_law_rows d_law_score d_law_places d_law_table d_law_grid d_law_turn d_law_whole d_law_honest d_law_road d_law_paper d_law_papers d_law_others_stay base F1
  case S => exact fun K H a ns hl hO hS => ⟨a, ns, rfl, hS, hl, fun _ => rfl⟩
  case C => exact fun _ _ _ _ z => z
#print axioms PySem.Challenge.cw_trueword_k39_pays_told_holds

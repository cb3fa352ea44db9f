import PyProof.Rows.All
import Wide.All
import OpenK.AllK
import Wide.FinOn
import Lean
import PyProof.EqAt
import PyProof.EqKinds
import PyProof.TupleCall
import PySem.Challenge.RW_trueword_k67_no_rule
abbrev Fg := PySem.W.Frag
abbrev Za := @List.length_map
abbrev Zb := @List.getElem?_eq_getElem
abbrev Zc := @List.getElem?_eq_some_iff
abbrev Zd := @Nat.le_trans
abbrev Ze := @List.getElem?_map
abbrev Zf := @List.getElem?_append_right
abbrev Zg := @List.getElem?_append_left
abbrev Zh := @Nat.lt_of_lt_of_le
abbrev Zi := @List.mem_of_getElem?
abbrev Zj := @List.length_take
abbrev Zk := @List.getD_eq_getElem?_getD
abbrev Zl := @List.getElem_mem
abbrev Zm := @Nat.le_refl
abbrev Zn := @List.map_append
abbrev Zo := @List.length_append
abbrev Zp := @List.mem_map
abbrev Zq := @List.take_add_one
abbrev Zr := @List.size_toArray
abbrev Zs := @Nat.ne_of_lt
abbrev Zt := @List.take_length
abbrev Zu := @List.mem_append_right
abbrev Zv := @List.mem_cons_of_mem
abbrev Zw := @Int.toNat_natCast
abbrev Zx := @List.not_mem_nil
abbrev Zy := @List.getElem_of_mem
abbrev Zz := @List.idxOf_lt_length_iff
abbrev ZA := @List.mem_cons_self
abbrev ZB := @Nat.min_le_right
abbrev ZC := @List.mem_singleton
abbrev ZD := @Nat.not_lt
abbrev ZE := @Nat.zero_le
abbrev ZF := @List.lookup_cons
abbrev ZG := @List.take_of_length_le
abbrev ZH := @List.mem_append
abbrev ZI := @List.length_replicate
abbrev ZJ := @Nat.lt_irrefl
abbrev ZK := @List.mem_cons
abbrev ZL := @List.length_cons
abbrev ZM := @List.map_cons
abbrev ZN := @Option.bind_some
abbrev ZO := @List.length_drop
abbrev ZP := @List.mem_filterMap
abbrev ZQ := @List.all_eq_true
abbrev ZR := @List.mem_append_left
abbrev ZS := @List.length_singleton
abbrev ZT := @Option.isSome_iff_exists
abbrev ZU := @List.getElem?_take_of_lt
abbrev ZV := @List.eq_of_mem_replicate
abbrev ZW := @Array.length_toList
abbrev ZX := @Int.toNat_of_nonneg
abbrev ZY := @List.mem_range
abbrev ZZ := @List.getElem?_set_self
abbrev Yb := @Array.getElem?_eq_some_iff
abbrev Yc := @List.getElem?_set_ne
abbrev Yd := @List.cons_append
abbrev Ye := @List.length_pos_iff
abbrev Yg := @List.getElem?_replicate
abbrev Yh := @List.map_take
abbrev Yi := @List.find?_cons
abbrev Yj := @Nat.min_eq_left
abbrev Yk := @Option.map_eq_some_iff
abbrev Yl := @List.getElem?_of_mem
abbrev Ym := @List.map_drop
abbrev Yn := @List.sum_cons
abbrev Yo := @List.append_nil
abbrev Yp := @List.drop_eq_getElem_cons
abbrev Yq := @List.length_zip
abbrev Yr := @Nat.ne_of_gt
abbrev Ys := @Nat.lt_of_le_of_lt
abbrev Yt := @List.getElem?_drop
abbrev Yu := @Int.emod_lt_of_pos
abbrev Yv := @List.map_map
abbrev Yw := @List.drop_drop
abbrev Yx := @Option.bind_eq_some_iff
abbrev Yy := @Nat.lt_succ_of_lt
abbrev Yz := @List.length_range
abbrev YA := @List.all_cons
abbrev YB := @List.any_cons
abbrev YC := @List.getElem_inj
abbrev YD := @Nat.lt_succ_self
abbrev YE := @List.any_eq_true
abbrev YF := @List.take_append_drop
abbrev YG := @List.nodup_cons
abbrev YH := @List.length_dropLast
abbrev YI := @Option.map_some
abbrev YJ := @List.nil_append
abbrev YK := @List.replicate_succ'
abbrev YL := @Int.emod_nonneg
abbrev YM := @List.getLast?_eq_some_getLast
abbrev YN := @List.filterMap_cons
abbrev YO := @List.replicate_succ
abbrev YQ := @List.toList_toArray
abbrev YR := @Nat.mul_le_mul
abbrev YS := @List.contains_cons
abbrev YT := @List.set_cons_succ
abbrev YU := @List.any_eq_false
abbrev YV := @List.take_sublist
abbrev YW := @Nat.le_of_eq
abbrev YX := @Option.getD_some
abbrev YY := @List.getElem_zip
abbrev YZ := @List.of_mem_zip
abbrev Xa := @List.length_set
abbrev Xb := @List.foldl_cons
abbrev Xc := @Nat.le_succ
-- CHANGE: your row's module here, as the last of these rows
set_option Elab.async false
set_option maxHeartbeats 8000000
set_option linter.all false
set_option maxRecDepth 100000
namespace L2
open PySem PySem.Spec PyProof.Rows
abbrev Key := Sum Int Str
def keyIs : Key -> Value -> Bool
  | .inl k, v => Value.isInt k v
  | .inr x, v => Value.isStrOf x v
def keyH (w : World) : Key -> Int
  | .inl k => hashInt k
  | .inr x => hashStr w x
theorem xk : ∀ {k : Key} {v : Value}, keyIs k v = true -> (∃ i t, k = Sum.inl i /\ v = Value.int i t) \/ (∃ x t, k = Sum.inr x /\ v = Value.str x t)
  | .inl i, v, h => by
    obtain ⟨t, e⟩ := Value.isInt_shape (k := i) (v := v) h;exact .inl ⟨i, t, rfl, e⟩
  | .inr x, v, h => by
    obtain ⟨t, e⟩ := Value.isStrOf_shape (x := x) (v := v) h;exact .inr ⟨x, t, rfl, e⟩
theorem key_ll (a b : Int) : decide ((Sum.inl a : Key) = Sum.inl b) = (a == b) := by
  by_cases e : a = b
  . subst e; simp
  . have h : ¬ (Sum.inl a : Key) = Sum.inl b := fun q => e (Sum.inl.inj q)
    rw [decide_eq_false h];exact (beq_eq_false_iff_ne.mpr e).symm
theorem key_rr (a b : Str) : decide ((Sum.inr a : Key) = Sum.inr b) = decide (a = b) := by
  by_cases e : a = b
  . subst e; simp
  . have h : ¬ (Sum.inr a : Key) = Sum.inr b := fun q => e (Sum.inr.inj q)
    rw [decide_eq_false h, decide_eq_false e]
theorem key_lr (a : Int) (b : Str) : decide ((Sum.inl a : Key) = Sum.inr b) = false := decide_eq_false (fun q => nomatch q)
theorem key_rl (a : Str) (b : Int) : decide ((Sum.inr a : Key) = Sum.inl b) = false := decide_eq_false (fun q => nomatch q)
def cm (prog : Program) (w : World) : PySem.KeyKind prog w Key where
  is := keyIs
  hash := keyH w
  inj := fun v a b ha hb => by
    rcases xk ha with ⟨i, t, rfl, rfl⟩ | ⟨x, t, rfl, rfl⟩
    . rcases xk hb with ⟨j, u, rfl, e⟩ | ⟨y, u, rfl, e⟩
      . injection e with e1 _; rw [e1]
      . exact nomatch e
    . rcases xk hb with ⟨j, u, rfl, e⟩ | ⟨y, u, rfl, e⟩
      . exact nomatch e
      . injection e with e1 _; rw [e1]
  byValue := fun k v h => by
    rcases xk h with ⟨i, t, rfl, rfl⟩ | ⟨x, t, rfl, rfl⟩ <;> rfl
  pyHash := fun hv h => by
    rcases xk hv with ⟨i, t, rfl, rfl⟩ | ⟨x, t, rfl, rfl⟩
    . exact wpAny_pyHash_int h
    . exact wpAny_pyHash_str h
  eqBool := fun hu hv h => by
    rcases xk hu with ⟨i, t, rfl, rfl⟩ | ⟨x, t, rfl, rfl⟩
    . rcases xk hv with ⟨j, u, rfl, rfl⟩ | ⟨y, u, rfl, rfl⟩
      . rw [key_ll] at h; exact wpAny_eqBool_int h
      . rw [key_lr] at h; exact SeqAt.EqAt.int_str i t y u _ _ _ _ h
    . rcases xk hv with ⟨j, u, rfl, rfl⟩ | ⟨y, u, rfl, rfl⟩
      . rw [key_rl] at h; exact SeqAt.EqAt.str_int x t j u _ _ _ _ h
      . rw [key_rr] at h; exact wpAny_eqBool_str h
  «strs» := fun k x t v h => by
    rcases xk h with ⟨i, u, rfl, e⟩ | ⟨y, u, rfl, e⟩
    . exact nomatch e
    . injection e with e1 _
      subst e1;cases v <;> rfl
end L2
namespace L2
open PySem PySem.Spec PyProof.Rows
inductive V where
  | non | bl (b : Bool) | int (i : Int) | str (x : Str) | byt (b : Array UInt8) | flt (b : UInt64) | ref (a : Addr) | ty (n : String)
  deriving DecidableEq
def RelV : V -> Value -> Prop
  | .non, u => u = Value.none
  | .bl b, u => u = Value.bool b
  | .int i, u => ∃ t, u = Value.int i t
  | .str x, u => ∃ t, u = Value.str x t
  | .byt b, u => ∃ t, u = Value.bytes b t
  | .flt b, u => ∃ t, u = Value.float b t
  | .ref a, u => u = Value.ref a
  | .ty n, u => u = Value.type n
abbrev Vals : List V -> List Value -> Prop := Paired RelV
theorem Vals.length {xs : List V} {us : List Value} (r : Vals xs us) : xs.length = us.length := Paired.length r
theorem Vals.get : ∀ {xs : List V} {us : List Value} {i : Nat} {x : V}, Vals xs us -> xs[i]? = some x -> ∃ u, us[i]? = some u /\ RelV x u
  | _, _, _, _, .nil, e => by simp at e
  | _, _, 0, _, .cons r _, e => by simp at e; subst e; exact ⟨_, rfl, r⟩
  | _, _, i + 1, x, .cons _ t, e => by
    obtain ⟨u, h1, h2⟩ := Vals.get (i := i) (x := x) t (by simpa using e);exact ⟨u, by simpa using h1, h2⟩
theorem Vals.set {x : V} {u : Value} (r : RelV x u) : ∀ {xs : List V} {us : List Value} (i : Nat), Vals xs us -> Vals (xs.set i x) (us.set i u)
  | _, _, _, .nil => .nil
  | _, _, 0, .cons _ t => .cons r t
  | _, _, i + 1, .cons q t => .cons q (Vals.set r i t)
theorem Vals.append : ∀ {xs ys : List V} {us ws : List Value}, Vals xs us -> Vals ys ws -> Vals (xs ++ ys) (us ++ ws)
  | _, _, _, _, .nil, s => s
  | _, _, _, _, .cons r t, s => .cons r (Vals.append t s)
theorem Vals.take : ∀ {xs : List V} {us : List Value} (n : Nat), Vals xs us -> Vals (xs.take n) (us.take n)
  | _, _, 0, _ => .nil
  | _, _, _ + 1, .nil => .nil
  | _, _, n + 1, .cons r t => .cons r (Vals.take n t)
theorem Vals.drop : ∀ {xs : List V} {us : List Value} (n : Nat), Vals xs us -> Vals (xs.drop n) (us.drop n)
  | _, _, 0, r => r
  | _, _, _ + 1, .nil => .nil
  | _, _, n + 1, .cons _ t => Vals.drop n t
def RelO : Option V -> Option Value -> Prop
  | some v, some u => RelV v u
  | none, none => True
  | _, _ => False
def KV {κ : Type} : List (κ × V) -> List (κ × Value) -> Prop := Paired fun (p : κ × V) (q : κ × Value) => p.1 = q.1 /\ RelV p.2 q.2
def kV : Key -> V
  | .inl i => .int i
  | .inr x => .str x
inductive HO where
    | lst (xs : List V)
    | tup (xs : List V)
    | dK (kvs : List (Key × V)) | dT (kvs : List (List Key × V))
    | set (S : Int -> Bool) (n : Nat)
    | ins (C dx : Addr) (fs : List (Str × V))
    | own (x : Addr)
    | xd (fs : List (Str × V))
    | met (f x : Addr)
    | rng (lo hi : Int)
    | frz (o : Obj) (u : HO)
    | tbl (ps : Array Value)
    | ext (φ : Heap -> Prop)
abbrev Hp := Addr -> Option HO
def upd (H : Hp) (a : Addr) (o : HO) : Hp := fun b => if b = a then some o else H b
theorem zc {H : Hp} {a : Addr} {o : HO} : upd H a o a = some o := by unfold upd; rw [if_pos rfl]
theorem zy {H : Hp} {a b : Addr} {o : HO} (h : b ≠ a) : upd H a o b = H b := by unfold upd; rw [if_neg h]
theorem xf {H : Hp} {a b : Addr} {o : HO} (h : H a = some o) (h' : H b = none) : a ≠ b := by
  intro e; subst e; rw [h] at h'; cases h'
def IsTupD (h : Heap) (a : Addr) (items : Array Value) : Prop := ∃ o, h.get? a = some o /\ o.cls = .type "tuple" /\ ∃ n, o.data = .seq items n /\ o.dict = none
theorem IsTupD.tup {h : Heap} {a : Addr} {items : Array Value} (q : IsTupD h a items) : IsTup h a items := by
  obtain ⟨o, e, c, n, d, _⟩ := q;exact ⟨o, e, c, n, d⟩
theorem IsTupD.new (h : Heap) (items : Array Value) : IsTupD (h.push { cls := .type "tuple", data := .seq items }) h.objs.size items := ⟨_, Heap.get?_push_size _ rfl, rfl, _, rfl, rfl⟩
section
variable (P : Program) (w : World)
def ObjOk (H : Hp) (h : Heap) (a : Addr) : HO -> Prop
  | .lst xs => xs.length <= sizeLine /\ ∃ (its : List Value) (n : Nat), Vals xs its /\ h.get? a = some { cls := .type "list", data := .seq its.toArray n }
  | .tup xs => xs.length <= sizeLine /\ ∃ its : List Value, Vals xs its /\ IsTupD h a its.toArray
  | .dK kvs => kvs.length <= sizeLine /\ (a == sysModules) = false /\ ∃ vs, KV kvs vs /\ h.DictOf (cm P w) a vs
  | .dT kvs => kvs.length <= sizeLine /\ (a == sysModules) = false /\ ∃ xs : List (List Key × Addr × Value),
      Paired (fun (p : List Key × V) (q : List Key × Addr × Value) => p.1 = q.1 /\ H q.2.1 = some (.tup (p.1.map kV)) /\ RelV p.2 q.2.2) kvs xs /\
      ∃ o es ep, h.get? a = some o /\ o.ExactDict /\ o.data = .dict es ep /\ es.toList = xs.map (entryOfKey (tupleKind (cm P w))) /\ (xs.map (·.1)).Nodup
  | .set S n => h.SetOf (intKind P w) a S n
  | .ins C dx fs => H dx = some (.own a) /\ fs.length <= 1000 /\ dx ≠ a /\ h.get? a = some (PySem.W.instObj C dx) /\
      ∃ mA, h.Ns1 dx mA /\ (∀ f, RelO (fs.lookup f) (mA f)) /\ PySem.Within mA (fs.map (·.1))
  | .own _ => ∃ o, h.get? a = some o
  | .xd fs => ∃ mA, h.Ns1 a mA /\ ∀ f, RelO (fs.lookup f) (mA f)
  | .rng lo hi => ∃ t u v, h.get? a = some { cls := .type "range", data := .fields #[.int lo t, .int hi u, .int 1 v] }
  | .frz o u => h.get? a = some o /\ ObjOk H h a u
  | .tbl ps => h.get? a = some { cls := .none, data := .fields ps }
  | .met f x => h.get? a = some (PySem.W.methodObj (.ref f) (.ref x))
  | .ext φ => φ h /\ (∃ o, h.get? a = some o) /\ ∀ h1 h2 : Heap, φ h1 -> (∀ o, h1.get? a = some o -> h2.get? a = some o) -> φ h2
def HOk (H : Hp) (h : Heap) : Prop := ∀ a o, H a = some o -> ObjOk P w H h a o
end
section
variable {P : Program} {w : World} {H H' : Hp} {h h' : Heap} {a : Addr} {o : HO}
theorem ObjOk.lt (x : ObjOk P w H h a o) : a < h.objs.size := by
  cases o with
  | lst xs => obtain ⟨_, _, _, _, e⟩ := x; exact Heap.lt_size e
  | tup xs => obtain ⟨_, _, _, p⟩ := x; exact p.tup.lt
  | dK kvs => obtain ⟨_, _, _, _, o, _, _, e, _⟩ := x; exact Heap.lt_size e
  | dT kvs => obtain ⟨_, _, _, _, o, _, _, e, _⟩ := x; exact Heap.lt_size e
  | set S n => obtain ⟨o, _, _, _, e, _⟩ := x; exact Heap.lt_size e
  | ins C dx fs => obtain ⟨_, _, _, e, _⟩ := x; exact Heap.lt_size e
  | own y => obtain ⟨_, e⟩ := x; exact Heap.lt_size e
  | xd fs => obtain ⟨_, ⟨_, _, _, e, _⟩, _⟩ := x; exact Heap.lt_size e
  | rng lo hi => obtain ⟨_, _, _, e⟩ := x; exact Heap.lt_size e
  | frz ob u => obtain ⟨e, _⟩ := x; exact Heap.lt_size e
  | tbl ps => exact Heap.lt_size (show h.get? a = some _ from x)
  | met f y => exact Heap.lt_size (show h.get? a = some _ from x)
  | ext φ => obtain ⟨_, ⟨_, e⟩, _⟩ := x; exact Heap.lt_size e
theorem Paired.mapP {α β : Type} {F G : α -> β -> Prop} : ∀ {l₁ : List α} {l₂ : List β}, Paired F l₁ l₂ -> (∀ a b, F a b -> G a b) -> Paired G l₁ l₂
  | _, _, .nil, _ => .nil
  | _, _, .cons r t, f => .cons (f _ _ r) (Paired.mapP t f)
theorem ObjOk.stay (x : ObjOk P w H h a o) (k : ∀ b u, (b = a \/ H b = some (.own a)) -> h.get? b = some u -> h'.get? b = some u)
    (ho : ∀ b, H b = some (.own a) -> H' b = some (.own a)) (ht : ∀ b xs, H b = some (.tup xs) -> H' b = some (.tup xs)) : ObjOk P w H' h' a o := by
  induction o with
  | lst xs => obtain ⟨z, its, n, r, e⟩ := x; exact ⟨z, its, n, r, k _ _ (.inl rfl) e⟩
  | tup xs => obtain ⟨z, its, r, ob, e, c⟩ := x; exact ⟨z, its, r, ob, k _ _ (.inl rfl) e, c⟩
  | dK kvs => obtain ⟨z, y, vs, r, ob, es, ep, e, c⟩ := x; exact ⟨z, y, vs, r, ob, es, ep, k _ _ (.inl rfl) e, c⟩
  | dT kvs =>
    obtain ⟨z, y, xs, r, ob, es, ep, e, c⟩ := x;exact ⟨z, y, xs, Paired.mapP r fun p q z => ⟨z.1, ht _ _ z.2.1, z.2.2⟩, ob, es, ep, k _ _ (.inl rfl) e, c⟩
  | set S n => obtain ⟨ob, es, ep, t, e, c⟩ := x; exact ⟨ob, es, ep, t, k _ _ (.inl rfl) e, c⟩
  | ins C dx fs =>
    obtain ⟨d, z, ne, e, mA, ⟨od, es, ep, e2, c⟩, r⟩ := x;exact ⟨ho _ d, z, ne, k _ _ (.inl rfl) e, mA, ⟨od, es, ep, k _ _ (.inr d) e2, c⟩, r⟩
  | own y => obtain ⟨ob, e⟩ := x; exact ⟨ob, k _ _ (.inl rfl) e⟩
  | xd fs => obtain ⟨mA, ⟨od, es, ep, e, c⟩, r⟩ := x; exact ⟨mA, ⟨od, es, ep, k _ _ (.inl rfl) e, c⟩, r⟩
  | rng lo hi => obtain ⟨t, u, v, e⟩ := x; exact ⟨t, u, v, k _ _ (.inl rfl) e⟩
  | frz ob u ih => obtain ⟨e, q⟩ := x; exact ⟨k _ _ (.inl rfl) e, ih q⟩
  | tbl ps =>
    have e : h.get? a = some { cls := .none, data := .fields ps } := x
    show h'.get? a = some { cls := .none, data := .fields ps }
    exact k a _ (.inl rfl) e
  | met f y =>
    have e : h.get? a = some (PySem.W.methodObj (.ref f) (.ref y)) := x
    show h'.get? a = some (PySem.W.methodObj (.ref f) (.ref y))
    exact k a _ (.inl rfl) e
  | ext φ => obtain ⟨p, ⟨o, e⟩, st⟩ := x; exact ⟨st _ _ p fun o q => k _ _ (.inl rfl) q, ⟨o, k _ _ (.inl rfl) e⟩, st⟩
theorem HOk.lt (x : HOk P w H h) (e : H a = some o) : a < h.objs.size := (x a o e).lt
theorem HOk.fresh (x : HOk P w H h) (e : h.objs.size <= a) : H a = none := by
  cases q : H a with
  | none => rfl
  | some u => exact absurd (Zh (x.lt q) e) (ZJ _)
theorem HOk.kept (x : HOk P w H h) (k : ∀ b u, h.get? b = some u -> h'.get? b = some u) : HOk P w H h' := fun a o e =>
  (x a o e).stay (fun b u _ q => k b u q) (fun _ q => q) fun _ _ q => q
theorem HOk.laid (x : HOk P w H h) (k : ∀ b u, h.get? b = some u -> h'.get? b = some u) (hp : h.objs.size <= a) (new : ObjOk P w (upd H a o) h' a o) : HOk P w (upd H a o) h' := fun b u e => by
  have hn := x.fresh hp
  by_cases hb : b = a
  . subst hb; rw [zc] at e; cases e; exact new
  . rw [zy hb] at e
    exact (x b u e).stay (fun c v _ q => k c v q) (fun c q => by rw [zy (xf q hn)]; exact q) fun c xs q => by rw [zy (xf q hn)]; exact q
end
def Rd (H : Hp) (a : Addr) (u : HO) : Prop := H a = some u \/ ∃ o, H a = some (.frz o u)
theorem Rd.of {H : Hp} {a : Addr} {u : HO} (h : H a = some u) : Rd H a u := .inl h
theorem Rd.ok {P : Program} {w : World} {H : Hp} {h : Heap} {a : Addr} {u : HO} (r : Rd H a u) (x : HOk P w H h) : ObjOk P w H h a u := by
  rcases r with r | ⟨o, r⟩
  . exact x a u r
  . obtain ⟨_, q⟩ := x a _ r
    exact q
def Mut : Option HO -> Prop
  | some (.lst _) => True
  | some (.dK _) => True
  | some (.dT _) => True
  | some (.set _ _) => True
  | some (.ins _ _ _) => True
  | some (.ext _) => True
  | _ => False
section
variable {P : Program} {w : World} {H : Hp} {h h' : Heap} {x e : Addr} {o' : HO}
theorem HOk.write (ok : HOk P w H h) (mu : Mut (H x)) (he : e = x \/ H e = some (.own x)) (k : ∀ b u, b ≠ e -> h.get? b = some u -> h'.get? b = some u) (heo : ∃ u, h'.get? e = some u)
    (new : ObjOk P w (upd H x o') h' x o') : HOk P w (upd H x o') h' := fun b u q => by
  have nown : ∀ c y, H c = some (.own y) -> c ≠ x := fun c y r z => by subst z; rw [r] at mu; exact mu
  have ntup : ∀ c xs, H c = some (.tup xs) -> c ≠ x := fun c xs r z => by subst z; rw [r] at mu; exact mu
  by_cases hb : b = x
  . subst hb; rw [zc] at q; cases q; exact new
  . rw [zy hb] at q
    by_cases hbe : b = e
    . have q' : H b = some (.own x) := by
        rcases he with z | z
        . exact absurd (hbe.trans z) hb
        . rw [hbe]; exact z
      rw [q] at q'; cases q';obtain ⟨v, hv⟩ := heo;exact ⟨v, by rw [hbe]; exact hv⟩
    . refine (ok b u q).stay (fun c v hc r => k c v ?_ r) (fun c r => by rw [zy (nown c b r)]; exact r) fun c xs r => by rw [zy (ntup c xs r)]; exact r
      rcases hc with rfl | hc
      . exact hbe
      . rintro rfl
        rcases he with z | z
        . exact nown c b hc z
        . rw [hc] at z; cases z; exact hb rfl
end
structure Un (fs ex : List Addr) (H H' : Hp) (h h' : Heap) : Prop where
  keep : ∀ b o, h.get? b = some o -> H b = none -> b ∉ fs -> b ∉ ex -> h'.get? b = some o
  slot : ∀ b o, h.get? b = some o -> H b = none -> b ∈ fs -> b ∉ ex -> ∃ sl, h'.get? b = some { o with slots := sl }
  free : ∀ b o, h.get? b = some o -> H b = none -> b ∉ ex -> H' b = none
  there : ∀ b o, h.get? b = some o -> b ∉ ex -> ∃ o', h'.get? b = some o'
  tups : ∀ b xs, H b = some (.tup xs) -> H' b = some (.tup xs)
  frzs : ∀ b o u, H b = some (.frz o u) -> H' b = some (.frz o u)
  tbls : ∀ b ps, H b = some (.tbl ps) -> ∃ more, H' b = some (.tbl (ps ++ more))
section
variable {fs fs' ex ex' : List Addr} {H H1 H2 : Hp} {h h1 h2 h' : Heap} {a x e : Addr} {o : HO}
theorem Un.any (u : Un fs ex H H1 h h1) {b : Addr} {ob : Obj} (q : h.get? b = some ob) (n : H b = none) (hx : b ∉ ex) : ∃ sl, h1.get? b = some { ob with slots := sl } := by
  by_cases hb : b ∈ fs
  . exact u.slot b ob q n hb hx
  . exact ⟨ob.slots, u.keep b ob q n hb hx⟩
theorem Un.trans (a : Un fs ex H H1 h h1) (b : Un fs ex H1 H2 h1 h2) : Un fs ex H H2 h h2 where
  keep := fun c ob q n hc hx => b.keep c ob (a.keep c ob q n hc hx) (a.free c ob q n hx) hc hx
  slot := fun c ob q n hc hx => by
    obtain ⟨sl, e1⟩ := a.slot c ob q n hc hx;obtain ⟨sl', e2⟩ := b.slot c _ e1 (a.free c ob q n hx) hc hx;exact ⟨sl', e2⟩
  free := fun c ob q n hx => by
    obtain ⟨o', e1⟩ := a.there c ob q hx;exact b.free c o' e1 (a.free c ob q n hx) hx
  there := fun c ob q hx => by
    obtain ⟨o', e1⟩ := a.there c ob q hx;exact b.there c o' e1 hx
  tups := fun c xs q => b.tups c xs (a.tups c xs q)
  frzs := fun c ob xs q => b.frzs c ob xs (a.frzs c ob xs q)
  tbls := fun c ps q => by
    obtain ⟨m1, e1⟩ := a.tbls c ps q;obtain ⟨m2, e2⟩ := b.tbls c _ e1;exact ⟨m1 ++ m2, by rw [e2, Array.append_assoc]⟩
theorem Un.kept (k : ∀ b u, h.get? b = some u -> h'.get? b = some u) : Un fs ex H H h h' :=
  ⟨fun b ob q _ _ _ => k b ob q, fun b ob q _ _ _ => ⟨ob.slots, k b ob q⟩, fun _ _ _ n _ => n, fun b ob q _ => ⟨ob, k b ob q⟩, fun _ _ q => q, fun _ _ _ q => q, fun _ ps q => ⟨#[], by rw [q]; simp⟩⟩
theorem Un.refl : Un fs ex H H h h := Un.kept fun _ _ q => q
theorem Un.laid (k : ∀ b u, h.get? b = some u -> h'.get? b = some u) (hp : h.objs.size <= a) (hn : H a = none) : Un fs ex H (upd H a o) h h' where
  keep := fun b u q _ _ _ => k b u q
  slot := fun b u q _ _ _ => ⟨u.slots, k b u q⟩
  free := fun b u q n _ => by rw [zy (Zs (Zh (Heap.lt_size q) hp))]; exact n
  there := fun b u q _ => ⟨u, k b u q⟩
  tups := fun b xs q => by rw [zy (xf q hn)]; exact q
  frzs := fun b u xs q => by rw [zy (xf q hn)]; exact q
  tbls := fun b ps q => ⟨#[], by rw [zy (xf q hn), q]; simp⟩
theorem Un.write (mu : Mut (H x)) (he : e = x \/ H e = some (.own x)) (k : ∀ b u, b ≠ e -> h.get? b = some u -> h'.get? b = some u) (heo : ∃ u, h'.get? e = some u) : Un fs ex H (upd H x o) h h' := by
  have hx : ∀ b, H b = none -> b ≠ x := fun b n z => by subst z; rw [n] at mu; exact mu
  have hb : ∀ b, H b = none -> b ≠ e := fun b n z => by
    subst z
    rcases he with r | r
    . exact hx b n r
    . rw [n] at r; cases r
  have hm : ∀ b u, H b = some u -> ¬ Mut (some u) -> b ≠ x := fun b u q nm z => by subst z; rw [q] at mu; exact nm mu
  refine ⟨fun b u q n _ _ => k b u (hb b n) q, fun b u q n _ _ => ⟨u.slots, k b u (hb b n) q⟩, fun b u q n _ => by rw [zy (hx b n)]; exact n, fun b u q _ => ?_,
    fun b xs q => by rw [zy (hm b _ q fun z => z)]; exact q, fun b u xs q => by rw [zy (hm b _ q fun z => z)]; exact q, fun b ps q => ⟨#[], by rw [zy (hm b _ q fun z => z), q]; simp⟩⟩
  by_cases hbe : b = e
  . subst hbe; exact heo
  . exact ⟨u, k b u hbe q⟩
theorem Un.mono (u : Un fs ex H H1 h h1) (hs : ∀ b ∈ fs, b ∈ fs') (hx : ∀ b ∈ ex, b ∈ ex') : Un fs' ex' H H1 h h1 :=
  ⟨fun b ob q n hb he => u.keep b ob q n (fun z => hb (hs b z)) fun z => he (hx b z), fun _ _ q n _ he => u.any q n fun z => he (hx _ z), fun b ob q n he => u.free b ob q n fun z => he (hx b z), fun b ob q he => u.there b ob q fun z => he (hx b z), u.tups, u.frzs, u.tbls⟩
end
def trk (h : Heap) (H : Hp) : List Addr := (List.range h.objs.size).filter fun a => (H a).isSome
def hidT (h : Heap) (H : Hp) : Heap := PySem.W.hideAll h (trk h H)
theorem za6 (h : Heap) (H : Hp) : (hidT h H).objs.size = h.objs.size := PySem.W.hideAll_size _ _
theorem zcl {h : Heap} {H : Hp} {b : Addr} {o : Obj} (e : h.get? b = some o) (n : H b = none) : (hidT h H).get? b = some o :=
  PySem.W.hideAll_get _ e fun hm => by
    have q : (H b).isSome = true := (List.mem_filter.mp hm).2;rw [n] at q; simp at q
theorem zc1 {h : Heap} {H : Hp} {b : Addr} {o : Obj} (e : (hidT h H).get? b = some o) : h.get? b = some o /\ H b = none := by
  have e' : h.get? b = some o := PySem.W.of_hideAll (trk h H) e;refine ⟨e', ?_⟩
  cases q : H b with
  | none => rfl
  | some x =>
    have hm : b ∈ trk h H := List.mem_filter.mpr ⟨ZY.mpr (Heap.lt_size e'), by simp [q]⟩;have z : (hidT h H).get? b = none := PySem.W.hideAll_none (trk h H) hm;rw [z] at e; cases e
def zcr (g h : Heap) (L : Addr) : List (Addr × Obj) := (List.range h.objs.size).filterMap fun a => if a = L \/ (g.get? a).isSome = true then none else (h.get? a).map fun o => (a, o)
def rest (g h : Heap) (L d : Addr) : List (Addr × Obj) := (zcr g h L).filter fun p => decide (p.1 ≠ d)
end L2
namespace L2
open PySem PySem.Spec PyProof.Rows
structure Mod (K : Fg) (mg : Str -> Option Value) (base : Heap) : Prop where
  kin : K.In base
  glob : base.Ns mainGlobals mg
  blt : ∃ mb, base.Ns builtinsNs mb /\ ∀ x : Str, x ≠ "__name__" -> mb x = bootBuiltins x
  nolimit : base.NoLimit
structure Cx where
  prog : Program
  w : World
  K : Fg
  mg : Str -> Option Value
  base : Heap
  A : Around
  N : List Str
  s₀ : Shared
  H₀ : Hp
  env : Env
  outer : List Env
  stack : List Env
  ex : List Addr
  fn : Str -> Bool
  calm : Bool
  pn : List (Addr × Obj)
  xe : Value -> Shared -> Prop
def frs (l : List Env) : List Addr := l.filterMap (·.frame)
abbrev Cx.fs (X : Cx) : List Addr := frs X.outer
def Vis (sc : Scope) (x : Str) : Prop := sc.names.lookup x = some .local \/ sc.names.lookup x = some .cell \/ sc.names.lookup x = some .free
def Loc (sc : Scope) (x : Str) : Prop := sc.names.lookup x = some .local \/ sc.names.lookup x = some .cell
def Look (env : Env) (h : Heap) (m : Str -> Option Value) (x : Str) (u : Value) : Prop :=
  (env.kindOf x = some .local /\ m x = some u) \/ ((env.kindOf x = some .cell \/ env.kindOf x = some .free) /\ ∃ c, env.cells.lookup x = some c /\ h.IsCell c (some u))
structure Cx.Ok (X : Cx) : Prop where
  mod : Mod X.K X.mg X.base
  kind : X.env.scope.kind = .function
  glob : X.env.globals = mainGlobals
  blt : X.env.builtins = builtinsNs
  above : X.s₀.heap.objs.size <= X.env.locals
  inj : ∀ x y c, X.env.cells.lookup x = some c -> X.env.cells.lookup y = some c -> x = y
  has : ∀ x, (X.env.kindOf x = some .cell \/ X.env.kindOf x = some .free) -> ∃ c, X.env.cells.lookup x = some c
  cab : ∀ x c, X.fn x = true -> X.env.cells.lookup x = some c -> X.s₀.heap.objs.size <= c
  hd : X.calm = true -> X.A.handled = none
  frames : X.A.frames = some X.stack
  stk : X.stack = X.outer \/ (X.stack = X.env :: X.outer /\ X.env.frame = some X.env.locals)
  exf : ∀ b ∈ X.ex, b ≠ X.env.locals /\ ∀ x c, X.env.cells.lookup x = some c -> c ≠ b
  bs : ∀ b o, X.base.get? b = some o -> X.s₀.heap.get? b = some o /\ X.H₀ b = none
  bsz : X.base.objs.size <= X.s₀.heap.objs.size
  noex : ∀ b o, X.base.get? b = some o -> b ∉ X.ex
  exfs : ∀ b ∈ X.ex, b ∉ X.fs
  funs : X.s₀.heap.FunFrames X.base X.outer
  frf : ∀ b ∈ X.fs, X.H₀ b = none
structure Inv (X : Cx) (pins : List (Addr × Obj)) (σ : List (Option V)) (H : Hp) (s : Shared) : Prop where
  ok : X.Ok
  os : s.os = X.s₀.os
  bare : AllBare s.gens
  base : Un X.fs X.ex X.H₀ H X.s₀.heap s.heap
  loc : ∃ m, s.heap.Ns X.env.locals m /\ ∀ (i : Nat) (x : Str) (v : V), X.N[i]? = some x -> σ[i]? = some (some v) -> Vis X.env.scope x -> ∃ u, RelV v u /\ Look X.env s.heap m x u
  cell : ∀ x c, X.env.cells.lookup x = some c -> ∃ v, s.heap.IsCell c v
  free : H X.env.locals = none
  freeC : ∀ x c, X.env.cells.lookup x = some c -> H c = none
  pin : ∀ p ∈ X.pn ++ pins, s.heap.get? p.1 = some p.2 /\ H p.1 = none /\ p.1 ≠ X.env.locals /\ p.1 ∉ X.fs /\ ∀ v, p.2.data ≠ .cell v
  hok : HOk X.prog X.w H s.heap
  len : σ.length = X.N.length
section
variable {X : Cx} {pins : List (Addr × Obj)} {σ : List (Option V)} {H H' : Hp} {s : Shared} {h' : Heap}
theorem Cx.Ok.nofr (ok : X.Ok) {b : Addr} {o : Obj} (e : X.base.get? b = some o) : b ∉ X.fs := fun hb => by
  have := (ok.funs.mem hb).1;rw [e] at this; cases this
theorem Inv.bs (I : Inv X pins σ H s) : ∀ b o, X.base.get? b = some o -> s.heap.get? b = some o /\ H b = none := fun b o e =>
  ⟨I.base.keep b o (I.ok.bs b o e).1 (I.ok.bs b o e).2 (I.ok.nofr e) (I.ok.noex b o e), I.base.free b o (I.ok.bs b o e).1 (I.ok.bs b o e).2 (I.ok.noex b o e)⟩
theorem Inv.bk (I : Inv X pins σ H s) : ∀ b o, X.base.get? b = some o -> s.heap.get? b = some o := fun b o e => (I.bs b o e).1
theorem Inv.mod (I : Inv X pins σ H s) : Mod X.K X.mg X.base := I.ok.mod
theorem Inv.kIn (I : Inv X pins σ H s) : X.K.In s.heap := I.ok.mod.kin.keeps I.bk
theorem Inv.nolimit (I : Inv X pins σ H s) : s.heap.NoLimit := I.ok.mod.nolimit.keeps I.bk
theorem Inv.fr (I : Inv X pins σ H s) : ∃ m, Fr X.base X.env.locals s.heap m :=
  let ⟨m, hn, _⟩ := I.loc
  ⟨m, hn, I.bk, Zd I.ok.bsz I.ok.above⟩
theorem Inv.lt (I : Inv X pins σ H s) : X.env.locals < s.heap.objs.size := let ⟨_, hn, _⟩ := I.loc; hn.lt
theorem Inv.sz (I : Inv X pins σ H s) : X.s₀.heap.objs.size <= s.heap.objs.size := Zd I.ok.above (Nat.le_of_lt I.lt)
theorem Inv.nofs (I : Inv X pins σ H s) {a : Addr} (h : s.heap.objs.size <= a) : a ∉ X.fs := fun hb => by
  obtain ⟨_, o, ho, _⟩ := I.ok.funs.mem hb;exact absurd (Zh (Heap.lt_size ho) (Zd I.sz h)) (ZJ _)
theorem Inv.cne (I : Inv X pins σ H s) : ∀ x c, X.env.cells.lookup x = some c -> c ≠ X.env.locals := fun x c e z => by
  obtain ⟨v, o, ho, hd⟩ := I.cell x c e;obtain ⟨m, ⟨o', es, ep, ho', hd', _⟩, _⟩ := I.loc;rw [z, ho'] at ho; cases ho; rw [hd'] at hd; cases hd
theorem Inv.funs (I : Inv X pins σ H s) : s.heap.FunFrames X.base X.outer := by
  have all : ∀ (l : List Env), (∀ b ∈ frs l, b ∈ X.fs) -> X.s₀.heap.FunFrames X.base l -> s.heap.FunFrames X.base l := by
    intro l
    induction l with
    | nil => intro _ _; trivial
    | cons env r ih =>
      intro hs hl;obtain ⟨hk, ⟨L, o, hf, hn, ho, hd⟩, hr⟩ := hl;have hL : L ∈ X.fs := hs L (by unfold frs; rw [YN, hf]; exact ZA);obtain ⟨sl, e⟩ := I.base.slot L o ho (I.ok.frf L hL) hL fun z => I.ok.exfs L z hL
      exact ⟨hk, ⟨L, _, hf, hn, e, hd⟩, ih (fun b hb => hs b (by unfold frs; rw [YN, hf]; exact Zv _ hb)) hr⟩
  exact all X.outer (fun _ hb => hb) I.ok.funs
theorem Inv.stack (I : Inv X pins σ H s) : s.heap.FunFrames X.base X.stack := by
  rcases I.ok.stk with e | ⟨e, hf⟩
  . rw [e]; exact I.funs
  . rw [e]
    obtain ⟨m, hn, _⟩ := I.loc;refine .cons (by rw [I.ok.kind]; decide) hf hn ?_ I.funs;exact Heap.get?_none_of_le (Zd I.ok.bsz I.ok.above)
theorem Inv.stkSub (I : Inv X pins σ H s) : ∀ b ∈ frs X.stack, b ∈ X.env.locals :: X.fs := fun b hb => by
  rcases I.ok.stk with e | ⟨e, hf⟩
  . rw [e] at hb; exact Zv _ hb
  . rw [e] at hb
    unfold frs at hb;rw [YN, hf] at hb;exact hb
theorem Inv.stkFree (I : Inv X pins σ H s) : ∀ b ∈ frs X.stack, H b = none := fun b hb => by
  rcases ZK.mp (I.stkSub b hb) with e | hb
  . rw [e]; exact I.free
  . obtain ⟨_, o, ho, _⟩ := I.ok.funs.mem hb
    exact I.base.free b o ho (I.ok.frf b hb) fun z => I.ok.exfs b z hb
theorem Inv.step {g' : Array GenState} {t' : Nat} {d' : Drawn} {ch : List Addr} (I : Inv X pins σ H s)
    (hch : ∀ b ∈ ch, (b ∈ X.ex \/ X.s₀.heap.objs.size <= b) /\ b ≠ X.env.locals /\ (∀ x c, X.env.cells.lookup x = some c -> c ≠ b) /\ ∀ p ∈ X.pn ++ pins, p.1 ≠ b)
    (keep : ∀ b o, b ≠ X.env.locals -> b ∉ X.fs -> b ∉ ch -> s.heap.get? b = some o -> H b = none -> h'.get? b = some o)
    (slot : ∀ b o, b ≠ X.env.locals -> b ∈ X.fs -> b ∉ ch -> s.heap.get? b = some o -> H b = none -> ∃ sl, h'.get? b = some { o with slots := sl }) (free : ∀ b o, b ∉ ch -> s.heap.get? b = some o -> H b = none -> H' b = none)
    (there : ∀ b o, b ∉ ch -> s.heap.get? b = some o -> ∃ o', h'.get? b = some o')
    (tups : ∀ b xs, H b = some (.tup xs) -> H' b = some (.tup xs)) (frzs : ∀ b o u, H b = some (.frz o u) -> H' b = some (.frz o u)) (tbls : ∀ b ps, H b = some (.tbl ps) -> ∃ more, H' b = some (.tbl (ps ++ more)))
    (ns : ∀ m, s.heap.Ns X.env.locals m -> h'.Ns X.env.locals m) (hok : HOk X.prog X.w H' h') (hg : AllBare g') :
    Inv X pins σ H' { s with heap := h', gens := g', drawn := d', toks := t' } := by
  have neL : ∀ b o, X.s₀.heap.get? b = some o -> b ≠ X.env.locals := fun b o e => Zs (Zh (Heap.lt_size e) I.ok.above)
  have neC : ∀ b o, X.s₀.heap.get? b = some o -> b ∉ X.ex -> b ∉ ch := fun b o e hx hb => by
    rcases (hch b hb).1 with z | z
    . exact hx z
    . exact absurd (Zh (Heap.lt_size e) z) (ZJ _)
  have cellK : ∀ x c, X.env.cells.lookup x = some c -> ∀ v, s.heap.IsCell c v -> h'.IsCell c v := fun x c e v ⟨o, ho, hd⟩ => by
    have nch : c ∉ ch := fun z => (hch c z).2.2.1 x c e rfl
    by_cases hc : c ∈ X.fs
    . obtain ⟨sl, q⟩ := slot c o (I.cne x c e) hc nch ho (I.freeC x c e)
      exact ⟨_, q, hd⟩
    . exact ⟨o, keep c o (I.cne x c e) hc nch ho (I.freeC x c e), hd⟩
  refine ⟨I.ok, I.os, hg, ⟨fun b o e n hb hx => ?_, fun b o e n hb hx => ?_, fun b o e n hx => ?_, fun b o e hx => ?_, fun b xs e => tups b xs (I.base.tups b xs e), fun b o xs e => frzs b o xs (I.base.frzs b o xs e), fun b ps e => ?_⟩, ?_, fun x c e => ?_, ?_, fun x c e => ?_, fun p hp => ?_, hok, I.len⟩
  . exact keep b o (neL b o e) hb (neC b o e hx) (I.base.keep b o e n hb hx) (I.base.free b o e n hx)
  . obtain ⟨sl, e1⟩ := I.base.slot b o e n hb hx
    obtain ⟨sl', e2⟩ := slot b _ (neL b o e) hb (neC b o e hx) e1 (I.base.free b o e n hx);exact ⟨sl', e2⟩
  . obtain ⟨o', e1⟩ := I.base.there b o e hx
    exact free b o' (neC b o e hx) e1 (I.base.free b o e n hx)
  . obtain ⟨o', e1⟩ := I.base.there b o e hx
    exact there b o' (neC b o e hx) e1
  . obtain ⟨m1, e1⟩ := I.base.tbls b ps e
    obtain ⟨m2, e2⟩ := tbls b _ e1;exact ⟨m1 ++ m2, by rw [e2, Array.append_assoc]⟩
  . obtain ⟨m, hn, hl⟩ := I.loc
    refine ⟨m, ns m hn, fun i x v e1 e2 e3 => ?_⟩;obtain ⟨u, r, l⟩ := hl i x v e1 e2 e3;refine ⟨u, r, ?_⟩
    rcases l with l | ⟨k, c, e, z⟩
    . exact .inl l
    . exact .inr ⟨k, c, e, cellK x c e _ z⟩
  . obtain ⟨v, z⟩ := I.cell x c e
    exact ⟨v, cellK x c e v z⟩
  . obtain ⟨m, ⟨o, _, _, ho, _⟩, _⟩ := I.loc
    exact free _ o (fun z => (hch _ z).2.1 rfl) ho I.free
  . obtain ⟨v, o, ho, hd⟩ := I.cell x c e
    exact free c o (fun z => (hch c z).2.2.1 x c e rfl) ho (I.freeC x c e)
  . obtain ⟨e, n, ne, nf, d⟩ := I.pin p hp
    have nch : p.1 ∉ ch := fun z => (hch p.1 z).2.2.2 p hp rfl
    exact ⟨keep p.1 p.2 ne nf nch e n, free p.1 p.2 nch e n, ne, nf, d⟩
theorem Inv.un {t' : Nat} (I : Inv X pins σ H s) (u : Un X.fs [] H H' s.heap h') (hok : HOk X.prog X.w H' h') : Inv X pins σ H' { s with heap := h', toks := t' } := by
  obtain ⟨m, ⟨o, es, ep, ho, r⟩, _⟩ := id I.loc;obtain ⟨sl, hL⟩ := u.any ho I.free (by simp)
  exact I.step (g' := s.gens) (d' := s.drawn) (ch := []) (fun _ z => nomatch z) (fun b o _ hb _ e n => u.keep b o e n hb (by simp)) (fun b o _ hb _ e n => u.slot b o e n hb (by simp)) (fun b o _ e n => u.free b o e n (by simp)) (fun b o _ e => u.there b o e (by simp)) u.tups u.frzs u.tbls (fun m' hm => by
    obtain ⟨o', es', ep', ho', r'⟩ := hm;rw [ho] at ho'; cases ho'
    exact ⟨_, es', ep', hL, r'⟩) hok I.bare
theorem Inv.call {g' : Array GenState} {t' : Nat} {d' : Drawn} {ch : List Addr} (I : Inv X pins σ H s) (u : Un (frs X.stack) ch H H' s.heap h') (hok : HOk X.prog X.w H' h') (hg : AllBare g')
    (hch : ∀ b ∈ ch, (b ∈ X.ex \/ X.s₀.heap.objs.size <= b) /\ b ≠ X.env.locals /\ (∀ x c, X.env.cells.lookup x = some c -> c ≠ b) /\ ∀ p ∈ X.pn ++ pins, p.1 ≠ b) :
    Inv X pins σ H' { s with heap := h', gens := g', drawn := d', toks := t' } := by
  obtain ⟨m, ⟨o, es, ep, ho, r⟩, _⟩ := id I.loc;obtain ⟨sl, hL⟩ := u.any ho I.free fun z => (hch _ z).2.1 rfl
  exact I.step (ch := ch) hch (fun b o hL hb hc e n => u.keep b o e n (fun z => (ZK.mp (I.stkSub b z)).elim hL hb) hc) (fun b o _ _ hc e n => u.any e n hc) (fun b o hc e n => u.free b o e n hc) (fun b o hc e => u.there b o e hc) u.tups u.frzs u.tbls (fun m' hm => by
    obtain ⟨o', es', ep', ho', r'⟩ := hm;rw [ho] at ho'; cases ho'
    exact ⟨_, es', ep', hL, r'⟩) hok hg
theorem Inv.turned {t' : Nat} {it : Addr} (I : Inv X pins σ H s) (k : ∀ b o, b ≠ it -> s.heap.get? b = some o -> h'.get? b = some o) (hn : H it = none) (hL : it ≠ X.env.locals)
    (h1 : it ∈ X.ex \/ X.s₀.heap.objs.size <= it) (h2 : ∀ x c, X.env.cells.lookup x = some c -> c ≠ it) (h3 : ∀ p ∈ X.pn ++ pins, p.1 ≠ it) : Inv X pins σ H { s with heap := h', toks := t' } := by
  have nit : ∀ b u, H b = some u -> b ≠ it := fun b u e z => by rw [z, hn] at e; cases e
  refine I.step (g' := s.gens) (d' := s.drawn) (ch := [it]) (fun b hb => ?_) (fun b o _ _ hc e _ => k b o (fun z => hc (by simp [z])) e) (fun b o _ _ hc e _ => ⟨o.slots, k b o (fun z => hc (by simp [z])) e⟩) (fun _ _ _ _ n => n)
    (fun b o hc e => ⟨o, k b o (fun z => hc (by simp [z])) e⟩) (fun _ _ e => e) (fun _ _ _ e => e) (fun b ps e => ⟨#[], by rw [e]; simp⟩) (fun m hm => ?_) (fun b u e => ?_) I.bare
  . have e : b = it := by simpa using hb
    subst e;exact ⟨h1, hL, h2, h3⟩
  . obtain ⟨o, es, ep, ho, r⟩ := hm
    exact ⟨o, es, ep, k _ o (Ne.symm hL) ho, r⟩
  . refine (I.hok b u e).stay (fun c v hc q => k c v ?_ q) (fun _ q => q) fun _ _ q => q
    rcases hc with z | z
    . rw [z]; exact nit b u e
    . exact nit c _ z
theorem Inv.tok (I : Inv X pins σ H s) (t : Nat) : Inv X pins σ H { s with toks := t } := I.un (h' := s.heap) (t' := t) Un.refl I.hok
theorem Inv.kept {t' : Nat} (I : Inv X pins σ H s) (k : ∀ b u, s.heap.get? b = some u -> h'.get? b = some u) : Inv X pins σ H { s with heap := h', toks := t' } := I.un (Un.kept k) (I.hok.kept k)
theorem Inv.laid {a : Addr} {o : HO} {t' : Nat} (I : Inv X pins σ H s) (k : ∀ b u, s.heap.get? b = some u -> h'.get? b = some u) (hp : s.heap.objs.size <= a) (new : ObjOk X.prog X.w (upd H a o) h' a o) :
    Inv X pins σ (upd H a o) { s with heap := h', toks := t' } := I.un (Un.laid k hp (I.hok.fresh hp)) (I.hok.laid k hp new)
theorem Inv.write {x e : Addr} {o : HO} {t' : Nat} (I : Inv X pins σ H s) (mu : Mut (H x)) (he : e = x \/ H e = some (.own x)) (k : ∀ b u, b ≠ e -> s.heap.get? b = some u -> h'.get? b = some u) (heo : ∃ u, h'.get? e = some u)
    (new : ObjOk X.prog X.w (upd H x o) h' x o) : Inv X pins σ (upd H x o) { s with heap := h', toks := t' } := I.un (Un.write mu he k heo) (I.hok.write mu he k heo new)
theorem Inv.weak {σ' : List (Option V)} (I : Inv X pins σ H s) (hl : σ'.length = σ.length) (w : ∀ (i : Nat) v, σ'[i]? = some (some v) -> σ[i]? = some (some v)) : Inv X pins σ' H s :=
  ⟨I.ok, I.os, I.bare, I.base, let ⟨m, hn, hl'⟩ := I.loc; ⟨m, hn, fun i x v e1 e2 e3 => hl' i x v e1 (w i v e2) e3⟩, I.cell, I.free, I.freeC, I.pin, I.hok, hl.trans I.len⟩
theorem Inv.pins_of {pins' : List (Addr × Obj)} (I : Inv X pins σ H s) (h : ∀ p ∈ pins', s.heap.get? p.1 = some p.2 /\ H p.1 = none /\ p.1 ≠ X.env.locals /\ p.1 ∉ X.fs /\ ∀ v, p.2.data ≠ .cell v) : Inv X pins' σ H s :=
  ⟨I.ok, I.os, I.bare, I.base, I.loc, I.cell, I.free, I.freeC, fun p hp => (ZH.mp hp).elim (fun z => I.pin p (ZR _ z)) (h p), I.hok, I.len⟩
theorem lm {N : List Str} (hN : N.Nodup) {i j : Nat} {x : Str} (a : N[i]? = some x) (b : N[j]? = some x) : i = j := by
  obtain ⟨h1, e1⟩ := Zc.mp a;obtain ⟨h2, e2⟩ := Zc.mp b;exact (YC hN).mp (e1.trans e2.symm)
theorem mi {M : Model} {A : Around} {E : Value -> Shared -> Prop} {i : Nat} {x : Str} {v : V} {u : Value} {Q : Unit -> Shared -> Prop} (I : Inv X pins σ H s) (hN : X.N.Nodup) (hi : X.N[i]? = some x) (hx : Loc X.env.scope x) (r : RelV v u)
    (h : ∀ s', Inv X pins (σ.set i (some v)) H s' -> (∃ a, Heap.SameBut a s.heap s'.heap /\ (a = X.env.locals \/ X.env.cells.lookup x = some a)) -> Q () s') (hf : X.fn x = true \/ X.env.scope.names.lookup x = some .local := by first | exact .inl rfl | exact .inr rfl | assumption) : wpAny M A (storeName X.env x u) Q E s := by
  obtain ⟨m, hn, hl⟩ := id I.loc;have hcls : (X.env.scope.kind == .class || (X.env.scope.kind == .module && X.env.locals != X.env.globals)) = false := by rw [I.ok.kind]; rfl
  have hiσ : i < σ.length := by rw [I.len]; exact (Zc.mp hi).1
  have cne := I.cne
  have tracked : ∀ {a : Addr} {h' : Heap}, (∃ o, s.heap.get? a = some o /\ H a = none) -> Heap.SameBut a s.heap h' -> HOk X.prog X.w H h' := fun {a h'} ha hs b ob e => by
    obtain ⟨_, _, hfree⟩ := ha;refine (I.hok b ob e).stay (fun c w' hc q => (hs.2 c ?_).trans q) (fun _ q => q) fun _ _ q => q
    rintro rfl
    rcases hc with rfl | hc
    . rw [hfree] at e; cases e
    . rw [hfree] at hc; cases hc
  rcases hx with hk | hk
  . refine wpAny_storeName_local hk hn (fun h' hn' hs => ?_) hcls
    obtain ⟨oL, _, _, hoL, _⟩ := id hn;refine h _ ⟨I.ok, I.os, I.bare, ⟨fun b o e n hb hx => ?_, fun b o e n hb hx => ?_, I.base.free, fun b o e hx => ?_, I.base.tups, I.base.frzs, I.base.tbls⟩, ⟨_, hn', fun j y v' e1 e2 e3 => ?_⟩, fun y c e => ?_, I.free, I.freeC, fun p hp => ?_, tracked ⟨oL, hoL, I.free⟩ hs, by simpa using I.len⟩ ⟨_, hs, .inl rfl⟩
    . exact (hs.2 b (Zs (Zh (Heap.lt_size e) I.ok.above))).trans (I.base.keep b o e n hb hx)
    . obtain ⟨sl, e1⟩ := I.base.slot b o e n hb hx
      exact ⟨sl, (hs.2 b (Zs (Zh (Heap.lt_size e) I.ok.above))).trans e1⟩
    . obtain ⟨o', e1⟩ := I.base.there b o e hx
      exact ⟨o', (hs.2 b (Zs (Zh (Heap.lt_size e) I.ok.above))).trans e1⟩
    . by_cases hj : j = i
      . subst hj
        rw [hi] at e1; cases e1;rw [ZZ hiσ] at e2;cases e2;exact ⟨u, r, .inl ⟨hk, by simp⟩⟩
      . rw [Yc (Ne.symm hj)] at e2
        obtain ⟨u', r', q⟩ := hl j y v' e1 e2 e3;refine ⟨u', r', ?_⟩
        rcases q with ⟨k, e⟩ | ⟨k, c, e, z⟩
        . refine .inl ⟨k, ?_⟩
          have : y ≠ x := fun e => hj (lm hN e1 (e ▸ hi))
          simp [this, e]
        . exact .inr ⟨k, c, e, z.sameBut hs (cne y c e)⟩
    . obtain ⟨w', z⟩ := I.cell y c e
      exact ⟨w', z.sameBut hs (cne y c e)⟩
    . obtain ⟨e, n, ne, nf, d⟩ := I.pin p hp
      exact ⟨(hs.2 p.1 ne).trans e, n, ne, nf, d⟩
  . have hfn : X.fn x = true := by
      rcases hf with z | z
      . exact z
      . rw [z] at hk; cases hk
    obtain ⟨c, hc⟩ := I.ok.has x (.inl hk);obtain ⟨w', z⟩ := I.cell x c hc;refine wpAny_storeName_cell I.ok.kind hk hc z (fun h' hc' hs => ?_);obtain ⟨oc, hoc, hocd⟩ := id z;refine h { s with heap := h' } ⟨I.ok, I.os, I.bare, ⟨fun b o e n hb hx => ?_, fun b o e n hb hx => ?_, I.base.free, fun b o e hx => ?_, I.base.tups, I.base.frzs, I.base.tbls⟩, ⟨m, hn.sameBut hs (Ne.symm (cne x c hc)), fun j y v' e1 e2 e3 => ?_⟩, fun y c' e => ?_, I.free, I.freeC, fun p hp => ?_, tracked ⟨oc, hoc, I.freeC x c hc⟩ hs, by simpa using I.len⟩ ⟨c, hs, .inr hc⟩
    . exact (hs.2 b (Zs (Zh (Heap.lt_size e) (I.ok.cab x c hfn hc)))).trans (I.base.keep b o e n hb hx)
    . obtain ⟨sl, e1⟩ := I.base.slot b o e n hb hx
      exact ⟨sl, (hs.2 b (Zs (Zh (Heap.lt_size e) (I.ok.cab x c hfn hc)))).trans e1⟩
    . obtain ⟨o', e1⟩ := I.base.there b o e hx
      exact ⟨o', (hs.2 b (Zs (Zh (Heap.lt_size e) (I.ok.cab x c hfn hc)))).trans e1⟩
    . by_cases hj : j = i
      . subst hj
        rw [hi] at e1; cases e1;rw [ZZ hiσ] at e2;cases e2;exact ⟨u, r, .inr ⟨.inl hk, c, hc, hc'⟩⟩
      . rw [Yc (Ne.symm hj)] at e2
        obtain ⟨u', r', q⟩ := hl j y v' e1 e2 e3;refine ⟨u', r', ?_⟩
        rcases q with q | ⟨k, c', e, z'⟩
        . exact .inl q
        . refine .inr ⟨k, c', e, z'.sameBut hs ?_⟩
          rintro rfl
          exact hj (lm hN e1 (I.ok.inj _ _ _ e hc ▸ hi))
    . by_cases hcc : c' = c
      . subst hcc; exact ⟨_, hc'⟩
      . obtain ⟨w2, z2⟩ := I.cell y c' e
        exact ⟨w2, z2.sameBut hs hcc⟩
    . obtain ⟨e, n, ne, nf, d⟩ := I.pin p hp
      refine ⟨(hs.2 p.1 ?_).trans e, n, ne, nf, d⟩;intro q;rw [q, hoc] at e;have q' : oc = p.2 := Option.some.inj e;exact d w' (by rw [<- q']; exact hocd)
theorem ni {M : Model} {A : Around} {E : Value -> Shared -> Prop} {i : Nat} {x : Str} {v : V} {u : Value} {Q : Unit -> Shared -> Prop} (I : Inv X pins σ H s) (hN : X.N.Nodup) (hi : X.N[i]? = some x) (hx : Loc X.env.scope x) (r : RelV v u)
    (h : ∀ s', Inv X pins (σ.set i (some v)) H s' -> Q () s') (hf : X.fn x = true \/ X.env.scope.names.lookup x = some .local := by first | exact .inl rfl | exact .inr rfl | assumption) : wpAny M A (storeName X.env x u) Q E s :=
  mi I hN hi hx r (fun s' I' _ => h s' I') hf
theorem Inv.call' {s' : Shared} {ch : List Addr} (I : Inv X pins σ H s) (ho : s'.os = s.os) (u : Un (frs X.stack) ch H H' s.heap s'.heap) (hok : HOk X.prog X.w H' s'.heap) (hg : AllBare s'.gens)
    (hch : ∀ b ∈ ch, (b ∈ X.ex \/ X.s₀.heap.objs.size <= b) /\ b ≠ X.env.locals /\ (∀ x c, X.env.cells.lookup x = some c -> c ≠ b) /\ ∀ p ∈ X.pn ++ pins, p.1 ≠ b) : Inv X pins σ H' s' := by
  obtain ⟨h', g', d', t', o'⟩ := s';have e : o' = s.os := ho;subst e;exact I.call (g' := g') (t' := t') (d' := d') u hok hg hch
end
abbrev XK := Value -> Option Addr -> Hp -> Prop
abbrev St := List (Option V)
abbrev VK := V -> Hp -> Prop
abbrev TE := St -> Hp -> VK -> Prop
abbrev TT := St -> Hp -> (Bool -> Hp -> Prop) -> Prop
abbrev TA := St -> Hp -> (List V -> Hp -> Prop) -> Prop
structure Ends where
  nx : St -> Hp -> Prop
  rt : VK
  bk : St -> Hp -> Prop := fun _ _ => False
  ct : St -> Hp -> Prop := fun _ _ => False
abbrev TS := Ends -> St -> Hp -> Prop
def EP (X : Cx) (pins : List (Addr × Obj)) (σ : St) (Q : VK) (u : Value) (s' : Shared) : Prop := ∃ v H', Inv X pins σ H' s' /\ RelV v u /\ Q v H'
def TP (X : Cx) (pins : List (Addr × Obj)) (σ : St) (Q : Bool -> Hp -> Prop) (b : Bool) (s' : Shared) : Prop := ∃ H', Inv X pins σ H' s' /\ Q b H'
def AP (X : Cx) (pins : List (Addr × Obj)) (σ : St) (Q : List V -> Hp -> Prop) (us : List Value) (s' : Shared) : Prop := ∃ vs H', Inv X pins σ H' s' /\ Vals vs us /\ Q vs H'
def SP (X : Cx) (pins : List (Addr × Obj)) (D : Ends) (f : Flow) (s' : Shared) : Prop :=
  match f with
  | .next => ∃ σ' H', Inv X pins σ' H' s' /\ D.nx σ' H'
  | .brk => ∃ σ' H', Inv X pins σ' H' s' /\ D.bk σ' H'
  | .cont => ∃ σ' H', Inv X pins σ' H' s' /\ D.ct σ' H'
  | .ret u => ∃ v σ' H', Inv X pins σ' H' s' /\ RelV v u /\ D.rt v H'
def PE (X : Cx) (e : Expr) (t : TE) : Prop :=
  ∀ (pins : List (Addr × Obj)) (s : Shared) (σ : St) (H : Hp) (Q : VK), Inv X pins σ H s -> t σ H Q -> wpAny (model X.prog X.w) X.A (eval e X.env) (EP X pins σ Q) X.xe s
def PT (X : Cx) (e : Expr) (t : TT) : Prop :=
  ∀ (pins : List (Addr × Obj)) (s : Shared) (σ : St) (H : Hp) (Q : Bool -> Hp -> Prop), Inv X pins σ H s -> t σ H Q -> wpAny (model X.prog X.w) X.A (isTrue e X.env (eval e X.env)) (TP X pins σ Q) X.xe s
def PW (X : Cx) (e : Expr) (t : TT) : Prop :=
  ∀ (whole : Sem Value) (pins : List (Addr × Obj)) (s : Shared) (σ : St) (H : Hp) (Q : Bool -> Hp -> Prop), Inv X pins σ H s -> t σ H Q -> wpAny (model X.prog X.w) X.A (isTrue e X.env whole) (TP X pins σ Q) X.xe s
theorem PW.pt {X : Cx} {e : Expr} {t : TT} (h : PW X e t) : PT X e t := h _
def PA (X : Cx) (es : List Expr) (t : TA) : Prop :=
  ∀ (pos : Pos) (pins : List (Addr × Obj)) (s : Shared) (σ : St) (H : Hp) (Q : List V -> Hp -> Prop), Inv X pins σ H s -> t σ H Q -> wpAny (model X.prog X.w) X.A (spliced (backTo pos (starEach es X.env))) (AP X pins σ Q) X.xe s
def PS (X : Cx) (st : Stmt) (t : TS) : Prop :=
  ∀ (pins : List (Addr × Obj)) (s : Shared) (σ : St) (H : Hp) (D : Ends), Inv X pins σ H s -> t D σ H -> wpAny (model X.prog X.w) X.A (exec st X.env) (SP X pins D) X.xe s
def PSs (X : Cx) (st : List Stmt) (t : TS) : Prop :=
  ∀ (pins : List (Addr × Obj)) (s : Shared) (σ : St) (H : Hp) (D : Ends), Inv X pins σ H s -> t D σ H -> wpAny (model X.prog X.w) X.A (execs st X.env) (SP X pins D) X.xe s
theorem thn {α : Type} {t : Sem α} {Q Q' : α -> Shared -> Prop} {M : Model} {A : Around} {E : Value -> Shared -> Prop} {s : Shared} (h : wpAny M A t Q E s) (hQ : ∀ a s, Q a s -> Q' a s) : wpAny M A t Q' E s := wpAny_mono h hQ fun _ _ x => x
end L2
namespace L2
open PySem PySem.Spec PyProof.Rows
section
variable {X : Cx}
def tVar (i : Nat) : TE := fun σ H Q => ∃ v, σ[i]? = some (some v) /\ Q v H
def tC (v : V) : TE := fun _ H Q => Q v H
theorem pe_var {i : Nat} {x : Str} {pos : Pos} (hN : X.N[i]? = some x) (hv : Vis X.env.scope x) (hd : (x == ("__debug__" : Str)) = false := by decide) (hcd : (x == ("__classdict__" : Str)) = false := by decide) : PE X (.Name x pos) (tVar i) := by
  intro pins s σ H Q I h;obtain ⟨v, e, h⟩ := h;obtain ⟨m, hn, hl⟩ := I.loc;obtain ⟨u, r, l⟩ := hl i x v hN e hv;have fin : EP X pins σ Q u s := ⟨v, H, I, r, h⟩
  rcases l with ⟨hk, hm⟩ | ⟨hk, c, hc, hcell⟩
  . exact wpAny_Name (wpAny_loadName_local I.ok.kind hk hn hm fin) hd
  . rcases hk with hk | hk
    . exact wpAny_Name (wpAny_loadName_cell I.ok.kind hk hc hcell fin) hd
    . exact wpAny_Name (wpAny_loadName_free I.ok.kind hk hc hcell fin hcd) hd
theorem zd {i j pos} : PE X (.Constant (.int i) j pos) (tC (.int i)) := fun _ _ _ H _ I h => wpAny_Constant_int ⟨.int i, H, I.tok _, ⟨_, rfl⟩, h⟩
theorem xr {b j pos} : PE X (.Constant (.bool b) j pos) (tC (.bl b)) := fun _ _ _ H _ I h => Constant_bool ⟨.bl b, H, I, rfl, h⟩
theorem uo {j pos} : PE X (.Constant .none j pos) (tC .non) := fun _ _ _ H _ I h => Constant_none ⟨.non, H, I, rfl, h⟩
theorem zp {x j pos} : PE X (.Constant (.str x) j pos) (tC (.str x)) := fun _ _ _ H _ I h => Calls.Constant_str ⟨.str x, H, I.tok _, ⟨_, rfl⟩, h⟩
def Gl (X : Cx) (x : Str) : Prop := X.env.kindOf x = some .globalImplicit
theorem om {E : Value -> Shared -> Prop} {pins : List (Addr × Obj)} {s : Shared} {σ : St} {H : Hp} {x : Str} {u : Value} {pos : Pos} {Q : Value -> Shared -> Prop} (I : Inv X pins σ H s) (hg : Gl X x) (hm : X.mg x = some u) (h : Q u s)
    (hd : (x == ("__debug__" : Str)) = false := by decide) : wpAny (model X.prog X.w) X.A (eval (.Name x pos) X.env) Q E s :=
  Calls.Name_function_global I.ok.kind hg (Calls.loadGlobal_global (by rw [I.ok.glob]; exact I.mod.glob.keeps I.bk) hm h) hd
theorem oq {E : Value -> Shared -> Prop} {pins : List (Addr × Obj)} {s : Shared} {σ : St} {H : Hp} {x : Str} {u : Value} {pos : Pos} {Q : Value -> Shared -> Prop} (I : Inv X pins σ H s) (hg : Gl X x) (hm : X.mg x = none) (hv : bootBuiltins x = some u) (h : Q u s)
    (hn : x ≠ "__name__" := by decide) (hd : (x == ("__debug__" : Str)) = false := by decide) : wpAny (model X.prog X.w) X.A (eval (.Name x pos) X.env) Q E s := by
  obtain ⟨mb, h1, h2⟩ := I.mod.blt;exact Calls.Name_function_global I.ok.kind hg (Calls.loadGlobal_builtin (by rw [I.ok.glob]; exact I.mod.glob.keeps I.bk) hm (by rw [I.ok.blt]; exact h1.keeps I.bk) ((h2 x hn).trans hv) h) hd
theorem we {x : Str} {v : V} {u : Value} {pos : Pos} (hg : Gl X x) (hm : X.mg x = some u) (r : RelV v u) (hd : (x == ("__debug__" : Str)) = false := by decide) : PE X (.Name x pos) (tC v) :=
  fun _ _ _ H _ I h => om I hg hm ⟨v, H, I, r, h⟩ hd
theorem zdr {x : Str} {v : V} {u : Value} {pos : Pos} (hg : Gl X x) (hm : X.mg x = none) (hv : bootBuiltins x = some u) (r : RelV v u) (hn : x ≠ "__name__" := by decide) (hd : (x == ("__debug__" : Str)) = false := by decide) : PE X (.Name x pos) (tC v) :=
  fun _ _ _ H _ I h => oq I hg hm hv ⟨v, H, I, r, h⟩ hn hd
variable {a b : Expr} {ta tb : TE} {pos : Pos}
def tB (t : TE) : TT := fun σ H Q => t σ H fun x H1 => ∃ c, x = .bl c /\ Q c H1
theorem xq {e : Expr} {t : TE} (h : PE X e t) (he : ∀ whole, isTrue e X.env whole = (do let v <- whole; standAt e.pos; holding [v] (truthy v)) := by intro _; rfl) : PT X e (tB t) := by
  intro pins s σ H Q I hw;refine isTrue_plain (thn (h pins s σ H _ I hw) fun v s1 ⟨x, H1, I1, r1, q1⟩ => ?_) (he _);obtain ⟨d, rfl, q⟩ := q1;cases r1;exact wpAny_truthy_bool ⟨H1, I1, q⟩
variable {tA tB' : TT} {rest : List Expr}
def tAnd (t u : TT) : TT := fun σ H Q => t σ H fun c H1 => if c = true then u σ H1 Q else Q false H1
def tOr (t u : TT) : TT := fun σ H Q => t σ H fun c H1 => if c = true then Q true H1 else u σ H1 Q
def tNot (t : TT) : TT := fun σ H Q => t σ H fun c H1 => Q (!c) H1
theorem qe (ha : PT X a tA) : PW X (.BoolOp .And [a] pos) tA := by
  intro wh pins s σ H Q I h;refine isTrue_and (thn (ha pins s σ H Q I h) fun c s1 e => ?_)
  cases c with
  | true => exact isTrue_and_nil e
  | false => exact e
theorem ve (ha : PT X a tA) : PW X (.BoolOp .Or [a] pos) tA := by
  intro wh pins s σ H Q I h;refine isTrue_or (thn (ha pins s σ H Q I h) fun c s1 e => ?_)
  cases c with
  | false => exact isTrue_or_nil e
  | true => exact e
theorem vi (ha : PT X a tA) (hb : PW X (.BoolOp .And (b :: rest) pos) tB') : PW X (.BoolOp .And (a :: b :: rest) pos) (tAnd tA tB') := by
  intro wh pins s σ H Q I h;refine isTrue_and (thn (ha pins s σ H _ I h) fun c s1 ⟨H1, I1, q1⟩ => ?_)
  cases c with
  | true => exact hb wh pins s1 σ H1 Q I1 q1
  | false => exact ⟨H1, I1, q1⟩
theorem vc (ha : PT X a tA) (hb : PW X (.BoolOp .Or (b :: rest) pos) tB') : PW X (.BoolOp .Or (a :: b :: rest) pos) (tOr tA tB') := by
  intro wh pins s σ H Q I h;refine isTrue_or (thn (ha pins s σ H _ I h) fun c s1 ⟨H1, I1, q1⟩ => ?_)
  cases c with
  | true => exact ⟨H1, I1, q1⟩
  | false => exact hb wh pins s1 σ H1 Q I1 q1
theorem xp (ha : PT X a tA) : PT X (.UnaryOp .Not a pos) (tNot tA) := by
  intro pins s σ H Q I h;exact isTrue_not (ha pins s σ H (fun c H1 => Q (!c) H1) I h)
def tAndV (ta tb : TE) : TE := fun σ H Q => ta σ H fun x H1 => ∃ c, x = .bl c /\ if c = true then tb σ H1 Q else Q (.bl false) H1
def tOrV (ta tb : TE) : TE := fun σ H Q => ta σ H fun x H1 => ∃ c, x = .bl c /\ if c = true then Q (.bl true) H1 else tb σ H1 Q
def tNotV (ta : TE) : TE := fun σ H Q => ta σ H fun x H1 => ∃ c, x = .bl c /\ Q (.bl (!c)) H1
theorem si {op} {t : TE} (h : PE X a t) : PE X (.BoolOp op [a] pos) t := fun pins s σ H Q I hw => BoolOp_one (h pins s σ H Q I hw)
theorem sj (ha : PE X a ta) (hb : PE X (.BoolOp .And (b :: rest) pos) tb) : PE X (.BoolOp .And (a :: b :: rest) pos) (tAndV ta tb) := by
  intro pins s σ H Q I h;refine BoolOp_and (thn (ha pins s σ H _ I h) fun v s1 ⟨x, H1, I1, r1, q1⟩ => ?_);obtain ⟨c, rfl, q1⟩ := q1;cases r1;refine wpAny_truthy_bool ?_
  cases c with
  | true => exact hb pins s1 σ H1 Q I1 q1
  | false => exact ⟨.bl false, H1, I1, rfl, q1⟩
theorem pe_or (ha : PE X a ta) (hb : PE X (.BoolOp .Or (b :: rest) pos) tb) : PE X (.BoolOp .Or (a :: b :: rest) pos) (tOrV ta tb) := by
  intro pins s σ H Q I h;refine BoolOp_or (thn (ha pins s σ H _ I h) fun v s1 ⟨x, H1, I1, r1, q1⟩ => ?_);obtain ⟨c, rfl, q1⟩ := q1;cases r1;refine wpAny_truthy_bool ?_
  cases c with
  | false => exact hb pins s1 σ H1 Q I1 q1
  | true => exact ⟨.bl true, H1, I1, rfl, q1⟩
theorem az (ha : PE X a ta) : PE X (.UnaryOp .Not a pos) (tNotV ta) := by
  intro pins s σ H Q I h;refine UnaryOp_ (thn (ha pins s σ H _ I h) fun v s1 ⟨x, H1, I1, r1, q1⟩ => ?_);obtain ⟨c, rfl, q1⟩ := q1;cases r1;exact not_of (wpAny_truthy_bool ⟨.bl (!c), H1, I1, rfl, q1⟩)
def tIf (t : TT) (ta tb : TE) : TE := fun σ H Q => t σ H fun c H1 => if c = true then ta σ H1 Q else tb σ H1 Q
end
end L2
namespace L2
open PySem PySem.Spec PyProof.Rows
def SqL (K : Fg) (H : Hp) (a : Addr) (xs : List V) : Prop :=
  Rd H a (.lst xs) \/
    ∃ (o : Obj) (its : Array Value) (n : Nat), K.lookup a = some o /\ o.cls = .type "list" /\ o.dict = none /\ o.data = .seq its n /\ its.size <= sizeLine /\ Vals xs its.toList
def SqT (K : Fg) (H : Hp) (a : Addr) (xs : List V) : Prop :=
  Rd H a (.tup xs) \/
    ∃ (o : Obj) (its : Array Value) (n : Nat), K.lookup a = some o /\ o.cls = .type "tuple" /\ o.data = .seq its n /\ its.size <= sizeLine /\ Vals xs its.toList
def absV : Value -> Option V
  | .none => some .non
  | .bool b => some (.bl b)
  | .int i _ => some (.int i)
  | .str x _ => some (.str x)
  | .bytes b _ => some (.byt b)
  | .float b _ => some (.flt b)
  | .ref a => some (.ref a)
  | .type n => some (.ty n)
  | _ => none
theorem RelV.abs {x : V} {u : Value} (r : RelV x u) : absV u = some x := by
  cases x with
  | non => cases r; rfl
  | bl _ => cases r; rfl
  | int _ => obtain ⟨t, rfl⟩ := r; rfl
  | str _ => obtain ⟨t, rfl⟩ := r; rfl
  | byt _ => obtain ⟨t, rfl⟩ := r; rfl
  | flt _ => obtain ⟨t, rfl⟩ := r; rfl
  | ref _ => cases r; rfl
  | ty _ => cases r; rfl
theorem RelV.inj {x y : V} {u : Value} (r : RelV x u) (q : RelV y u) : x = y := Option.some.inj (r.abs.symm.trans q.abs)
theorem Vals.inj : ∀ {xs ys : List V} {us : List Value}, Vals xs us -> Vals ys us -> xs = ys
  | _, _, _, .nil, .nil => rfl
  | _, _, _, .cons r t, .cons r' t' => by rw [r.inj r', Vals.inj t t']
section
variable {X : Cx} {pins : List (Addr × Obj)} {σ : St} {H : Hp} {s : Shared} {a : Addr} {xs ys : List V}
theorem SqL.of {K : Fg} (h : H a = some (.lst xs)) : SqL K H a xs := .inl (.inl h)
theorem SqT.of {K : Fg} (h : H a = some (.tup xs)) : SqT K H a xs := .inl (.inl h)
theorem Inv.list (I : Inv X pins σ H s) (h : SqL X.K H a xs) : ∃ its : List Value, Vals xs its /\ PlainL s.heap a its.toArray /\ xs.length <= sizeLine := by
  rcases h with h | ⟨o, its, n, hk, hc, hd, hs, hz, r⟩
  . obtain ⟨z, its, n, r, e⟩ := h.ok I.hok
    exact ⟨its, r, ⟨_, n, e, rfl, rfl, rfl⟩, z⟩
  . refine ⟨its.toList, r, ⟨o, n, I.kIn a o hk, hc, hd, by simpa using hs⟩, ?_⟩
    have e := r.length;simp only [ZW] at e;omega
theorem Inv.tuple (I : Inv X pins σ H s) (h : SqT X.K H a xs) : ∃ its : List Value, Vals xs its /\ IsTup s.heap a its.toArray /\ xs.length <= sizeLine := by
  rcases h with h | ⟨o, its, n, hk, hc, hs, hz, r⟩
  . obtain ⟨z, its, r, p⟩ := h.ok I.hok
    exact ⟨its, r, p.tup, z⟩
  . refine ⟨its.toList, r, ⟨o, I.kIn a o hk, hc, n, by simpa using hs⟩, ?_⟩
    have e := r.length;simp only [ZW] at e;omega
theorem Inv.list_inj (I : Inv X pins σ H s) (h : SqL X.K H a xs) (h' : SqL X.K H a ys) : xs = ys := by
  obtain ⟨its, r, ⟨o, n, e, _, _, d⟩, _⟩ := I.list h;obtain ⟨its', r', ⟨o', n', e', _, _, d'⟩, _⟩ := I.list h';rw [e] at e'; cases e';rw [d] at d'
  injection d' with d1 _
  have : its = its' := by simpa using congrArg Array.toList d1
  subst this;exact r.inj r'
theorem Inv.tuple_inj (I : Inv X pins σ H s) (h : SqT X.K H a xs) (h' : SqT X.K H a ys) : xs = ys := by
  obtain ⟨its, r, ⟨o, e, _, n, d⟩, _⟩ := I.tuple h;obtain ⟨its', r', ⟨o', e', _, n', d'⟩, _⟩ := I.tuple h';rw [e] at e'; cases e';rw [d] at d'
  injection d' with d1 _
  have : its = its' := by simpa using congrArg Array.toList d1
  subst this;exact r.inj r'
end
abbrev Cx.wish (X : Cx) (E : Value -> Shared -> Prop) : Cx := { X with xe := E }
abbrev Cx.nox (X : Cx) : Cx := X.wish fun _ _ => False
theorem Cx.Ok.wish {X : Cx} (ok : X.Ok) (E : Value -> Shared -> Prop) : (X.wish E).Ok :=
  ⟨ok.mod, ok.kind, ok.glob, ok.blt, ok.above, ok.inj, ok.has, ok.cab, ok.hd, ok.frames, ok.stk, ok.exf, ok.bs, ok.bsz, ok.noex, ok.exfs, ok.funs, ok.frf⟩
theorem Cx.Ok.unwish {X : Cx} {E : Value -> Shared -> Prop} (ok : (X.wish E).Ok) : X.Ok :=
  ⟨ok.mod, ok.kind, ok.glob, ok.blt, ok.above, ok.inj, ok.has, ok.cab, ok.hd, ok.frames, ok.stk, ok.exf, ok.bs, ok.bsz, ok.noex, ok.exfs, ok.funs, ok.frf⟩
section
variable {X : Cx} {pins : List (Addr × Obj)} {σ : St} {H : Hp} {s : Shared} {E : Value -> Shared -> Prop}
theorem Inv.wish (I : Inv X pins σ H s) (E : Value -> Shared -> Prop) : Inv (X.wish E) pins σ H s := ⟨I.ok.wish E, I.os, I.bare, I.base, I.loc, I.cell, I.free, I.freeC, I.pin, I.hok, I.len⟩
theorem Inv.unwish (I : Inv (X.wish E) pins σ H s) : Inv X pins σ H s := ⟨I.ok.unwish, I.os, I.bare, I.base, I.loc, I.cell, I.free, I.freeC, I.pin, I.hok, I.len⟩
theorem SP.unwish {D : Ends} {f : Flow} {s' : Shared} (h : SP (X.wish E) pins D f s') : SP X pins D f s' := by
  cases f with
  | next => obtain ⟨σ', H', I, q⟩ := h; exact ⟨σ', H', I.unwish, q⟩
  | brk => obtain ⟨σ', H', I, q⟩ := h; exact ⟨σ', H', I.unwish, q⟩
  | cont => obtain ⟨σ', H', I, q⟩ := h; exact ⟨σ', H', I.unwish, q⟩
  | ret u => obtain ⟨v, σ', H', I, r, q⟩ := h; exact ⟨v, σ', H', I.unwish, r, q⟩
theorem PE.nox {e : Expr} {t : TE} (h : PE X.nox e t) : PE X e t := fun pins s σ H Q I hw =>
  wpAny_mono (h pins s σ H Q (I.wish _) hw) (fun _ _ ⟨v, H', I', r, q⟩ => ⟨v, H', I'.unwish, r, q⟩) fun _ _ z => False.elim z
theorem PT.nox {e : Expr} {t : TT} (h : PT X.nox e t) : PT X e t := fun pins s σ H Q I hw =>
  wpAny_mono (h pins s σ H Q (I.wish _) hw) (fun _ _ ⟨H', I', q⟩ => ⟨H', I'.unwish, q⟩) fun _ _ z => False.elim z
theorem PSs.nox {st : List Stmt} {t : TS} (h : PSs X.nox st t) : PSs X st t := fun pins s σ H D I hw =>
  wpAny_mono (h pins s σ H D (I.wish _) hw) (fun _ _ q => q.unwish) fun _ _ z => False.elim z
end
section
variable {X : Cx} {st : Stmt} {rest : List Stmt} {t u : TS} {e : Expr} {te : TE} {pos : Pos}
def ku : TS := fun D σ H => D.nx σ H
def tSeq (t u : TS) : TS := fun D σ H => t { D with nx := u D } σ H
theorem z5 : PSs X [] ku := fun _ _ σ H _ I h => wpAny_execs_nil ⟨σ, H, I, h⟩
theorem zg (h1 : PS X st t) (h2 : PSs X rest u) : PSs X (st :: rest) (tSeq t u) := by
  intro pins s σ H D I h;refine wpAny_execs_cons (thn (h1 pins s σ H { D with nx := u D } I h) fun f s1 q => ?_)
  cases f with
  | next =>
    obtain ⟨σ', H', I', q⟩ := q;exact h2 pins s1 σ' H' D I' q
  | ret v => exact q
  | brk => exact q
  | cont => exact q
theorem zh (h1 : PS X st t) : PSs X [st] t := by
  intro pins s σ H D I h;refine wpAny_execs_cons (thn (h1 pins s σ H D I h) fun f s1 q => ?_)
  cases f with
  | next => exact wpAny_execs_nil q
  | ret v => exact q
  | brk => exact q
  | cont => exact q
def tBreak : TS := fun D σ H => D.bk σ H
def tCont : TS := fun D σ H => D.ct σ H
theorem Inv.quiet {pins : List (Addr × Obj)} {σ : St} {H : Hp} {s : Shared} (I : Inv X pins σ H s) : interactive X.env = false := by simp [interactive, I.ok.kind]
def tDrop (te : TE) : TS := fun D σ H => te σ H fun _ H1 => D.nx σ H1
theorem qd (he : PE X e te) (hs : swapsWith e none pos.line X.env = pure false := by rfl) : PS X (.Expr e pos) (tDrop te) := by
  intro pins s σ H D I h;exact wpAny_Expr_any (thn (he pins s σ H _ I h) fun v s1 ⟨x, H1, I1, r1, q1⟩ => ⟨σ, H1, I1, q1⟩) I.quiet hs
def tRet (te : TE) : TS := fun D σ H => te σ H D.rt
theorem zt (he : PE X e te) : PS X (.Return (some e) pos) (tRet te) := by
  intro pins s σ H D I h;exact wpAny_Return_some (thn (he pins s σ H _ I h) fun v s1 ⟨x, H1, I1, r1, q1⟩ => ⟨x, σ, H1, I1, r1, q1⟩)
def tRetN : TS := fun D _ H => D.rt .non H
def tIfS (c : TT) (t u : TS) : TS := fun D σ H => c σ H fun b H1 => if b = true then t D σ H1 else u D σ H1
theorem yb {c : Expr} {a b : List Stmt} {tc : TT} (hc : PT X c tc) (ha : PSs X a t) (hb : PSs X b u) : PS X (.If c a b pos) (tIfS tc t u) := by
  intro pins s σ H D I h;refine wpAny_If (thn (hc pins s σ H _ I h) fun d s1 ⟨H1, I1, q1⟩ => ?_)
  cases d with
  | true => exact ha pins s1 σ H1 D I1 q1
  | false => exact hb pins s1 σ H1 D I1 q1
end
abbrev TG := V -> St -> Hp -> (St -> Hp -> Prop) -> Prop
abbrev TGs := List V -> St -> Hp -> (St -> Hp -> Prop) -> Prop
def PG (X : Cx) (target : Expr) (t : TG) : Prop :=
  ∀ (pins : List (Addr × Obj)) (s : Shared) (σ : St) (H : Hp) (v : V) (u : Value) (Q : St -> Hp -> Prop), Inv X pins σ H s -> RelV v u -> t v σ H Q ->
    wpAny (model X.prog X.w) X.A (assign target X.env u) (fun _ s' => ∃ σ' H', Inv X pins σ' H' s' /\ Q σ' H') X.xe s
def PGs (X : Cx) (ts : List Expr) (t : TGs) : Prop :=
  ∀ (pins : List (Addr × Obj)) (s : Shared) (σ : St) (H : Hp) (vs : List V) (us : List Value) (Q : St -> Hp -> Prop), Inv X pins σ H s -> Vals vs us -> t vs σ H Q ->
    wpAny (model X.prog X.w) X.A (assignInOrder ((assignEach ts X.env).map (·.2)) us) (fun _ s' => ∃ σ' H', Inv X pins σ' H' s' /\ Q σ' H') X.xe s
abbrev TSet := V -> V -> V -> Hp -> (Hp -> Prop) -> Prop
def PSet (X : Cx) (t : TSet) : Prop :=
  ∀ (pins : List (Addr × Obj)) (s : Shared) (σ : St) (H : Hp) (o i v : V) (ov iv u : Value) (Q : Hp -> Prop), Inv X pins σ H s -> RelV o ov -> RelV i iv -> RelV v u -> t o i v H Q ->
    wpAny (model X.prog X.w) X.A (setItem ov iv u) (fun _ s' => ∃ H', Inv X pins σ H' s' /\ Q H') X.xe s
abbrev TIp := V -> V -> Hp -> VK -> Prop
section
variable {X : Cx} {pos : Pos}
def ao (i : Nat) : TG := fun v σ H Q => Q (σ.set i (some v)) H
theorem z6 {i : Nat} {x : Str} (hN : X.N.Nodup) (hi : X.N[i]? = some x) (hx : Loc X.env.scope x) (hf : X.fn x = true \/ X.env.scope.names.lookup x = some .local := by first | exact .inl rfl | exact .inr rfl | assumption) : PG X (.Name x pos) (ao i) := by
  intro pins s σ H v u Q I r h;exact wpAny_assign_Name (ni I hN hi hx r (fun s' I' => ⟨_, H, I', h⟩) hf)
def gNil : TGs := fun vs σ H Q => vs = [] /\ Q σ H
def gCons (t : TG) (u : TGs) : TGs := fun vs σ H Q => ∃ v r, vs = v :: r /\ t v σ H fun σ' H' => u r σ' H' Q
theorem jp : PGs X [] gNil := by
  intro pins s σ H vs us Q I r h;obtain ⟨e, h⟩ := h;subst e;cases r;exact assignInOrder_nil ⟨σ, H, I, h⟩
theorem vx {e : Expr} {es : List Expr} {t : TG} {u : TGs} (h1 : PG X e t) (h2 : PGs X es u)
    (hs : (assignEach (e :: es) X.env).map (·.2) = assign e X.env :: (assignEach es X.env).map (·.2) := by rfl) : PGs X (e :: es) (gCons t u) := by
  intro pins s σ H vs us Q I r h;obtain ⟨v, vr, e1, h⟩ := h;subst e1
  cases r with
  | cons r rr =>
    rw [hs];refine assignInOrder_cons (thn (h1 pins s σ H _ _ _ I r h) fun _ s1 ⟨σ1, H1, I1, q1⟩ => ?_);exact h2 pins s1 σ1 H1 _ _ Q I1 rr q1
def gTup (K : Fg) (n : Nat) (t : TGs) : TG := fun v σ H Q => ∃ a xs, v = .ref a /\ SqT K H a xs /\ xs.length = n /\ t xs σ H Q
theorem f8 {es : List Expr} {k : Nat} {t : TGs} {n : Nat} (hc : X.calm = true) (h : PGs X es t)
    (hn : (assignEach es X.env).length = n := by rfl) (hst : (assignEach es X.env).findIdx? (·.1) = none := by rfl) : PG X (.Tuple es k pos) (gTup X.K n t) := by
  intro pins s σ H v u Q I r hw;obtain ⟨a, xs, e1, hq, hl, hw⟩ := hw;subst e1;cases r;obtain ⟨its, rv, ht, hz⟩ := I.tuple hq;refine assign_Tuple_tuple (I.ok.hd hc) ht (by simp [hn, <- hl, rv.length]) hst fun h' hx => ?_
  have I1 : Inv X pins σ H { s with heap := h' } := I.kept (t' := s.toks) fun b o e => hx b o (Zs (Heap.lt_size e)) e
  exact h pins _ σ H xs _ Q I1 (by simpa using rv) hw
def gSub (to ti : TE) (t : TSet) : TG := fun v σ H Q => to σ H fun o H1 => ti σ H1 fun i H2 => t o i v H2 fun H3 => Q σ H3
theorem zbk {o i : Expr} {to ti : TE} {t : TSet} (ho : PE X o to) (hi : PE X i ti) (hs : PSet X t)
    (ha : ∀ v, assign (.Subscript o i pos) X.env v = (do
      let ov <- holding [v] (eval o X.env)
      let iv <- holding [v, ov] (eval i X.env)
      standAt pos
      holding [v, ov, iv] (setItem ov iv v)
      release [v, ov, iv] []) := by intro _; rfl) : PG X (.Subscript o i pos) (gSub to ti t) := by
  intro pins s σ H v u Q I r h;rw [ha];refine wpAny_bind (wpAny_holding (thn (ho pins s σ H _ I h) fun ov s1 ⟨x, H1, I1, r1, q1⟩ => ?_));refine wpAny_bind (wpAny_holding (thn (hi pins s1 σ H1 _ I1 q1) fun iv s2 ⟨y, H2, I2, r2, q2⟩ => ?_));refine wpAny_bind (wpAny_standAt (wpAny_bind (wpAny_holding (thn (hs pins s2 σ H2 x y v ov iv u _ I2 r1 r2 r q2) fun _ s3 ⟨H3, I3, q3⟩ => ?_))));exact wpAny_release ⟨σ, H3, I3, q3⟩
def tAsg (te : TE) (g : TG) : TS := fun D σ H => te σ H fun x H1 => g x σ H1 D.nx
theorem kt {tg e : Expr} {te : TE} {g : TG} (he : PE X e te) (hg : PG X tg g) (hs : swapsWithSole [tg] e pos.line X.env = pure false := by rfl) (hw : swappedStores [tg] e X.env = pure none := by rfl)
    (h1 : (assignEach [tg] X.env).map (·.2) = [assign tg X.env] := by rfl) : PS X (.Assign [tg] e pos) (tAsg te g) := by
  intro pins s σ H D I h;refine wpAny_Assign_stores (thn (he pins s σ H _ I h) fun v s1 ⟨x, H1, I1, r1, q1⟩ => ?_) hs hw;rw [h1];exact thn (hg pins s1 σ H1 x v _ I1 r1 q1) fun _ s2 q => q
theorem zu {i : Nat} {x : Str} {e : Expr} {te : TE} {pos' : Pos} (hN : X.N.Nodup) (hi : X.N[i]? = some x) (hx : Loc X.env.scope x) (he : PE X e te) (hs : swapsWith e (some (.Name x pos')) pos.line X.env = pure false := by rfl) (hf : X.fn x = true \/ X.env.scope.names.lookup x = some .local := by first | exact .inl rfl | exact .inr rfl | assumption) :
    PS X (.Assign [.Name x pos'] e pos) (tAsg te (ao i)) := by
  intro pins s σ H D I h;refine wpAny_Assign_Name (thn (he pins s σ H _ I h) fun v s1 ⟨y, H1, I1, r1, q1⟩ => ?_) hs;exact ni I1 hN hi hx r1 (fun s2 I2 => ⟨_, H1, I2, q1⟩) hf
def tAugS (to ti te : TE) (tget : V -> V -> Hp -> VK -> Prop) (tip : TIp) (tset : TSet) : TS := fun D σ H => to σ H fun o H1 => ti σ H1 fun i H2 => tget o i H2 fun x H3 => te σ H3 fun y H4 => tip x y H4 fun z H5 => tset o i z H5 fun H6 => D.nx σ H6
def ipI (f : Int -> Int -> Int) : TIp := fun x y H Q => ∃ i j, x = .int i /\ y = .int j /\ Q (.int (f i j)) H
end
section
variable {X : Cx} {pos : Pos}
def za0 (c : TT) (tb : TS) : TS := fun D σ H => ∃ W : Nat -> St -> Hp -> Prop, (∃ m, W m σ H) /\ ∀ m σ H, W m σ H ->
  c σ H fun b H1 => if b = true then ∃ N : St -> Hp -> Prop, (∀ σ' H', N σ' H' -> ∃ m', m' < m /\ W m' σ' H') /\ tb { D with nx := N, ct := N, bk := D.nx } σ H1 else D.nx σ H1
theorem zby {c : Expr} {body : List Stmt} {tc : TT} {tb : TS} (hp : PassesOwn (model X.prog X.w) X.A X.env X.xe) (hc : PT X c tc) (hb : PSs X body tb) : PS X (.While c body [] pos) (za0 tc tb) := by
  intro pins s σ H D I h;obtain ⟨W, ⟨m0, w0⟩, turn⟩ := h;refine wpAny_While (codeAny_whileLoop (fun n s' => ∃ σ' H', Inv X pins σ' H' s' /\ W n σ' H') ?_ m0 ⟨σ, H, I, w0⟩)
  rintro n s1 ⟨σ1, H1, I1, w1⟩
  refine wpAny_passesOwn hp (thn (hc pins s1 σ1 H1 _ I1 (turn n σ1 H1 w1)) fun b s2 ⟨H2, I2, q2⟩ => ?_)
  cases b with
  | true =>
    obtain ⟨N, hN, q2⟩ := q2;rw [if_pos rfl];refine wpAny_passesOwn hp (thn (hb pins s2 σ1 H2 _ I2 q2) fun f s3 q3 => ?_)
    cases f with
    | next =>
      obtain ⟨σ3, H3, I3, n3⟩ := q3;obtain ⟨m', hm, w3⟩ := hN σ3 H3 n3;exact ⟨m', hm, σ3, H3, I3, w3⟩
    | cont =>
      obtain ⟨σ3, H3, I3, n3⟩ := q3;obtain ⟨m', hm, w3⟩ := hN σ3 H3 n3;exact ⟨m', hm, σ3, H3, I3, w3⟩
    | brk => exact q3
    | ret v => exact q3
  | false =>
    rw [if_neg Bool.false_ne_true];exact wpAny_execs_nil ⟨σ1, H2, I2, q2⟩
end
structure It where
  go : Nat -> Hp -> Prop
  yld : Nat -> Hp -> V -> Hp -> Prop
  stop : Nat -> Hp -> Prop
def FpOk (X : Cx) (pins : List (Addr × Obj)) (H : Hp) (b : Addr) : Prop :=
  H b = none /\ b ≠ X.env.locals /\ b ∉ X.fs /\ (b ∈ X.ex \/ X.s₀.heap.objs.size <= b) /\ (∀ x c, X.env.cells.lookup x = some c -> c ≠ b) /\ ∀ p ∈ X.pn ++ pins, p.1 ≠ b
theorem Inv.fpOk {X : Cx} {pins : List (Addr × Obj)} {σ : St} {H H' : Hp} {s : Shared} {b : Addr} (I : Inv X pins σ H s) (hb : s.heap.objs.size <= b) (hn : H' b = none) : FpOk X pins H' b := by
  refine ⟨hn, Yr (Zh I.lt hb), I.nofs hb, .inr (Zd I.sz hb), fun x c e z => ?_, fun p hp z => ?_⟩
  . obtain ⟨v, q⟩ := I.cell x c e
    exact absurd (Zh q.lt (by rw [z]; exact hb)) (ZJ _)
  . exact absurd (Zh (Heap.lt_size (I.pin p hp).1) (by rw [z]; exact hb)) (ZJ _)
structure Turn (P : Program) (w : World) (K : Fg) (tg : Expr) (J : It) (fp : List Addr) (it : Addr) (tn : Nat -> Heap -> Prop) : Prop where
  mem : it ∈ fp
  obj : ∀ i h, tn i h -> ∀ b ∈ fp, ∃ o, h.get? b = some o /\ ∀ v, o.data ≠ .cell v
  keep : ∀ i h h', tn i h -> (∀ b ∈ fp, ∀ o, h.get? b = some o -> h'.get? b = some o) -> tn i h'
  item : ∀ (X : Cx), X.prog = P -> X.w = w -> X.K = K -> X.calm = true -> ∀ (i : Nat) (pins : List (Addr × Obj)) (s : Shared) (σ : St) (H : Hp) (E : Value -> Shared -> Prop), Inv X pins σ H s -> (∀ b ∈ fp, FpOk X pins H b) -> tn i s.heap -> J.go i H ->
    wpAny (model P w) X.A (pyNext (.ref it)) (fun r s1 => ∃ u, r = some u /\
      wpAny (model P w) X.A (letOwnedTupleGo tg (.ref it) u) (fun _ s2 => ∃ x H', Inv X pins σ H' s2 /\ RelV x u /\ J.yld i H x H' /\ tn (i + 1) s2.heap /\ ∀ b ∈ fp, H' b = none) E s1) E s
  done : ∀ (X : Cx), X.prog = P -> X.w = w -> X.K = K -> X.calm = true -> ∀ (i : Nat) (pins : List (Addr × Obj)) (s : Shared) (σ : St) (H : Hp) (E : Value -> Shared -> Prop), Inv X pins σ H s -> (∀ b ∈ fp, FpOk X pins H b) -> tn i s.heap -> J.stop i H ->
    wpAny (model P w) X.A (pyNext (.ref it)) (fun r s1 => r = none /\ Inv X pins σ H s1) E s
  self : ∀ (A : Around) (i : Nat) (s : Shared) (Q : Value -> Shared -> Prop) (E : Value -> Shared -> Prop), tn i s.heap -> Q (.ref it) s -> wpAny (model P w) A (pyIter (.ref it)) Q E s
abbrev TI := St -> Hp -> (It -> Hp -> Prop) -> Prop
def PIE (X : Cx) (pins : List (Addr × Obj)) (σ : St) (tg : Expr) (R : It -> Hp -> Prop) (itv : Value) (s2 : Shared) : Prop :=
  ∃ (it : Addr) (fp : List Addr) (tn : Nat -> Heap -> Prop) (J : It) (H' : Hp), itv = .ref it /\ Inv X pins σ H' s2 /\ Turn X.prog X.w X.K tg J fp it tn /\ tn 0 s2.heap /\ (∀ b ∈ fp, FpOk X pins H' b) /\ R J H'
def PI (X : Cx) (tg iter : Expr) (wi : TI) : Prop :=
  ∀ (pins : List (Addr × Obj)) (s : Shared) (σ : St) (H : Hp) (R : It -> Hp -> Prop), Inv X pins σ H s -> wi σ H R ->
    wpAny (model X.prog X.w) X.A (eval iter X.env) (fun v s1 => wpAny (model X.prog X.w) X.A (pyIter v) (PIE X pins σ tg R) X.xe s1) X.xe s
theorem kr {M : Model} {A : Around} {E : Value -> Shared -> Prop} {s : Shared} {tg : Expr} {it : Addr} {u : Value} {o : Obj} {n : String} {vs : Array Value} {Q : Unit -> Shared -> Prop} (ho : s.heap.get? it = some o) (hc : o.cls = .type n) (hd : o.data = .fields vs)
    (hn : ["enumerate", "zip", "dict_itemiterator", "dict_reverseitemiterator", "odict_iterator", "itertools.zip_longest", "itertools.pairwise"].contains n = false) (hQ : Q () s) : wpAny M A (letOwnedTupleGo tg (.ref it) u) Q E s := by
  unfold letOwnedTupleGo
  cases tg <;> first
    | exact wpAny_pure hQ
    | (cases u <;> first
        | exact wpAny_pure hQ
        | (refine wpAny_bind (wpAny_load ho ?_)
           rw [hc, hd]
           show wpAny M A (if (["enumerate", "zip", "dict_itemiterator", "dict_reverseitemiterator", "odict_iterator", "itertools.zip_longest", "itertools.pairwise"].contains n && vs[0]? == some (rawInt _)) = true then _ else _) Q E s
           rw [if_neg (by intro h; rw [hn, Bool.false_and] at h; cases h)]
           exact wpAny_pure hQ))
def Itl (K : Fg) (a : Addr) : It :=
  ⟨fun i H => ∃ xs x, SqL K H a xs /\ xs[i]? = some x, fun i H x H' => H' = H /\ ∀ xs, SqL K H a xs -> xs[i]? = some x, fun i H => ∃ xs, SqL K H a xs /\ xs.length <= i⟩
def Itt (K : Fg) (a : Addr) : It :=
  ⟨fun i H => ∃ xs x, SqT K H a xs /\ xs[i]? = some x, fun i H x H' => H' = H /\ ∀ xs, SqT K H a xs -> xs[i]? = some x, fun i H => ∃ xs, SqT K H a xs /\ xs.length <= i⟩
def Itr (lo : Int) (n : Nat) : It := ⟨fun i _ => i < n, fun i H x H' => H' = H /\ x = .int (lo + i), fun i _ => n <= i⟩
theorem ig {P : Program} {w : World} {K : Fg} {tg : Expr} (a it : Addr) : Turn P w K tg (Itl K a) [it] it (fun i h => h.IsListIter it a i) where
  mem := by simp
  obj := fun i h st b hb => by
    have e : b = it := by simpa using hb
    subst e;obtain ⟨o, e, c, d⟩ := st;exact ⟨o, e, fun v z => by rw [d] at z; cases z⟩
  keep := fun i h h' st k => st.at fun o e => k it (by simp) o e
  item := by
    intro X hP hw hK hc i pins s σ H E I hf st hg;subst hP hw hK;obtain ⟨xs, x, hq, hx⟩ := hg;obtain ⟨its, rv, p, hz⟩ := I.list hq;obtain ⟨u, hu, ru⟩ := rv.get hx;obtain ⟨f0, f1, f2, f3, f4, f5⟩ := hf it (by simp);refine wpAny_pyNext_list_item st p.isList (x := u) (by simpa using hu) fun h' st' sb => ?_
    have I1 : Inv X pins σ H { s with heap := h' } := I.turned (t' := s.toks) (fun b o hb e => (sb.2 b hb).trans e) f0 f1 f3 f4 f5;obtain ⟨o, e, c, d⟩ := id st';exact ⟨u, rfl, kr (s := { s with heap := h' }) e c d (by decide) ⟨x, H, I1, ru, ⟨rfl, fun ys hy => by rw [I.list_inj hy hq]; exact hx⟩, st', fun b hb => (hf b hb).1⟩⟩
  done := by
    intro X hP hw hK hc i pins s σ H E I hf st hg;subst hP hw hK;obtain ⟨xs, hq, hx⟩ := hg;obtain ⟨its, rv, p, hz⟩ := I.list hq;obtain ⟨f0, f1, f2, f3, f4, f5⟩ := hf it (by simp);have hl := rv.length;exact wpAny_pyNext_list_end (I.ok.hd hc) st p.isList (by simp; omega) fun h' eb => ⟨rfl, I.turned (t' := s.toks) (fun b o hb e => eb b o hb e) f0 f1 f3 f4 f5⟩
  self := fun _ _ _ _ _ st h => wpAny_pyIter_listiter st h
theorem kj {P : Program} {w : World} {K : Fg} {tg : Expr} (a it : Addr) : Turn P w K tg (Itt K a) [it] it (fun i h => h.IsTupleIter it a i) where
  mem := by simp
  obj := fun i h st b hb => by
    have e : b = it := by simpa using hb
    subst e;obtain ⟨o, e, c, d⟩ := st;exact ⟨o, e, fun v z => by rw [d] at z; cases z⟩
  keep := fun i h h' st k => st.at fun o e => k it (by simp) o e
  item := by
    intro X hP hw hK hc i pins s σ H E I hf st hg;subst hP hw hK;obtain ⟨xs, x, hq, hx⟩ := hg;obtain ⟨its, rv, p, hz⟩ := I.tuple hq;obtain ⟨u, hu, ru⟩ := rv.get hx;obtain ⟨f0, f1, f2, f3, f4, f5⟩ := hf it (by simp);refine wpAny_pyNext_tuple_item st (show s.heap.IsTuple a its.toArray from p) (x := u) (by simpa using hu) fun h' st' sb => ?_
    have I1 : Inv X pins σ H { s with heap := h' } := I.turned (t' := s.toks) (fun b o hb e => (sb.2 b hb).trans e) f0 f1 f3 f4 f5;obtain ⟨o, e, c, d⟩ := id st';exact ⟨u, rfl, kr (s := { s with heap := h' }) e c d (by decide) ⟨x, H, I1, ru, ⟨rfl, fun ys hy => by rw [I.tuple_inj hy hq]; exact hx⟩, st', fun b hb => (hf b hb).1⟩⟩
  done := by
    intro X hP hw hK hc i pins s σ H E I hf st hg;subst hP hw hK;obtain ⟨xs, hq, hx⟩ := hg;obtain ⟨its, rv, p, hz⟩ := I.tuple hq;obtain ⟨f0, f1, f2, f3, f4, f5⟩ := hf it (by simp);have hl := rv.length;exact wpAny_pyNext_tuple_end (I.ok.hd hc) st (show s.heap.IsTuple a its.toArray from p) (by simp; omega) fun h' eb => ⟨rfl, I.turned (t' := s.toks) (fun b o hb e => eb b o hb e) f0 f1 f3 f4 f5⟩
  self := fun _ _ _ _ _ st h => wpAny_pyIter_tupleiter st h
theorem bi {P : Program} {w : World} {K : Fg} {tg : Expr} (it : Addr) (lo : Int) (n : Nat) : Turn P w K tg (Itr lo n) [it] it (fun i h => IsRangeIter h it (lo + (i : Nat) * 1) ((n : Int) - (i : Nat)) 1) where
  mem := by simp
  obj := fun i h st b hb => by
    have e : b = it := by simpa using hb
    subst e
    exact ⟨_, st, fun v z => by
      have z' : Data.fields _ = Data.cell v := z
      cases z'⟩
  keep := fun i h h' st k => k it (by simp) _ st
  item := by
    intro X hP hw hK hc i pins s σ H E I hf st hg;subst hP hw hK;obtain ⟨f0, f1, f2, f3, f4, f5⟩ := hf it (by simp);have W := Walks.range (prog := X.prog) (w := X.w) (I.ok.hd hc) it lo 1 n;refine W.item i s _ _ hg st fun v h' tk hv st' kk => ?_
    obtain ⟨t, rfl⟩ := hv;have I1 : Inv X pins σ H { s with heap := h', toks := tk } := I.turned (fun b o hb e => kk b o (by simpa using hb) e) f0 f1 f3 f4 f5;refine ⟨_, rfl, kr (s := { s with heap := h', toks := tk }) (n := "range_iterator") st' rfl rfl (by decide) ⟨.int (lo + i), H, I1, ⟨t, ?_⟩, ⟨rfl, rfl⟩, st', fun b hb => (hf b hb).1⟩⟩;rw [Int.mul_one]
  done := by
    intro X hP hw hK hc i pins s σ H E I hf st hg;subst hP hw hK;obtain ⟨f0, f1, f2, f3, f4, f5⟩ := hf it (by simp);exact wpAny_pyNext_range_end (I.ok.hd hc) st (by have : n <= i := hg; omega) fun h' eb => ⟨rfl, I.turned (t' := s.toks) (fun b o hb e => eb b o hb e) f0 f1 f3 f4 f5⟩
  self := fun _ _ _ _ _ st h => wpAny_pyIter_rangeiter st h
end L2
namespace L2
open PySem PySem.Spec PyProof.Rows
section
variable {X : Cx} {tg : Expr}
def iList (K : Fg) (tl : TE) : TI := fun σ H R => tl σ H fun x H1 => ∃ a, x = .ref a /\ (∃ xs, SqL K H1 a xs) /\ R (Itl K a) H1
def iTup (K : Fg) (tl : TE) : TI := fun σ H R => tl σ H fun x H1 => ∃ a, x = .ref a /\ (∃ xs, SqT K H1 a xs) /\ R (Itt K a) H1
theorem yo {l : Expr} {tl : TE} (hl : PE X l tl) : PI X tg l (iList X.K tl) := by
  intro pins s σ H R I h;refine thn (hl pins s σ H _ I h) fun v s1 ⟨x, H1, I1, r1, q1⟩ => ?_
  obtain ⟨a, e, ⟨xs, hq⟩, q⟩ := q1;subst e;cases r1;obtain ⟨its, rv, p, hz⟩ := I1.list hq;refine wpAny_pyIter_list p.isList ?_;refine ⟨s1.heap.objs.size, [s1.heap.objs.size], _, _, H1, rfl, I1.kept (t' := s1.toks) fun b o e => Heap.get?_push_of_some _ e, ig a _, ⟨_, Heap.get?_push_size _ rfl, rfl, rfl⟩, fun b hb => ?_, q⟩;have e : b = s1.heap.objs.size := by simpa using hb
  subst e;exact I1.fpOk (Zm _) (I1.hok.fresh (Zm _))
theorem pi_tup {l : Expr} {tl : TE} (hl : PE X l tl) : PI X tg l (iTup X.K tl) := by
  intro pins s σ H R I h;refine thn (hl pins s σ H _ I h) fun v s1 ⟨x, H1, I1, r1, q1⟩ => ?_
  obtain ⟨a, e, ⟨xs, hq⟩, q⟩ := q1;subst e;cases r1;obtain ⟨its, rv, p, hz⟩ := I1.tuple hq;refine wpAny_pyIter_tuple (show s1.heap.IsTuple a its.toArray from p) ?_;refine ⟨s1.heap.objs.size, [s1.heap.objs.size], _, _, H1, rfl, I1.kept (t' := s1.toks) fun b o e => Heap.get?_push_of_some _ e, kj a _, ⟨_, Heap.get?_push_size _ rfl, rfl, rfl⟩, fun b hb => ?_, q⟩;have e : b = s1.heap.objs.size := by simpa using hb
  subst e;exact I1.fpOk (Zm _) (I1.hok.fresh (Zm _))
theorem zb1 {pins : List (Addr × Obj)} {σ : St} {H : Hp} {s : Shared} {R : It -> Hp -> Prop} {E : Value -> Shared -> Prop} {lo hi : Int} {t u v : Tok} {tk : Nat} (I : Inv X pins σ H s) (h1 : -(2 ^ 62) <= lo) (h2 : lo < 2 ^ 62) (h3 : -(2 ^ 62) <= hi) (h4 : hi < 2 ^ 62)
    (q : R (Itr lo (hi - lo).toNat) H) : wpAny (model X.prog X.w) X.A (pyIter (.ref s.heap.objs.size)) (PIE X pins σ tg R) E { s with heap := s.heap.push { cls := .type "range", data := .fields #[.int lo t, .int hi u, .int 1 v] }, toks := tk } := by
  refine wpAny_pyIter_range (IsRange.new ..) (small_one h1 h2 h3 h4) ?_;have I1 : Inv X pins σ H { s with heap := s.heap.push { cls := .type "range", data := .fields #[.int lo t, .int hi u, .int 1 v] }, toks := tk } := I.kept fun b o e => Heap.get?_push_of_some _ e
  refine ⟨(s.heap.push { cls := .type "range", data := .fields #[.int lo t, .int hi u, .int 1 v] }).objs.size, [(s.heap.push { cls := .type "range", data := .fields #[.int lo t, .int hi u, .int 1 v] }).objs.size], _, _, H, rfl,
    I1.kept (t' := tk) fun b o e => Heap.get?_push_of_some _ e, bi _ lo (hi - lo).toNat, ?_, fun b hb => ?_, q⟩
  . have e1 : lo + ((0 : Nat) : Int) * 1 = lo := by simp
    have e2 : (((hi - lo).toNat : Nat) : Int) - ((0 : Nat) : Int) = Builtin.Range.rangeSize lo hi 1 := by rw [rangeSize_one]; split <;> omega
    show IsRangeIter _ _ (lo + ((0 : Nat) : Int) * 1) ((((hi - lo).toNat : Nat) : Int) - ((0 : Nat) : Int)) 1
    rw [e1, e2];exact Heap.get?_push_size _ rfl
  . have e : b = (s.heap.push { cls := .type "range", data := .fields #[.int lo t, .int hi u, .int 1 v] }).objs.size := by simpa using hb
    subst e;exact I1.fpOk (Zm _) (I1.hok.fresh (Zm _))
def iRng1 (ta : TA) : TI := fun σ H R => ta σ H fun vs H1 => ∃ j : Int, vs = [.int j] /\ -(2 ^ 62) <= j /\ j < 2 ^ 62 /\ R (Itr 0 j.toNat) H1
def iRng2 (ta : TA) : TI := fun σ H R => ta σ H fun vs H1 => ∃ i j : Int, vs = [.int i, .int j] /\ (-(2 ^ 62) <= i /\ i < 2 ^ 62 /\ -(2 ^ 62) <= j /\ j < 2 ^ 62) /\ R (Itr i (j - i).toNat) H1
theorem tw {a : Expr} {ta : TA} {p pos : Pos} (hg : Gl X "range") (hm : X.mg "range" = none) (ha : PA X [a] ta) (hs : starEach [a] X.env = [(false, eval a X.env)] := by rfl) : PI X tg (.Call (.Name "range" p) [a] [] pos) (iRng1 ta) := by
  intro pins s σ H R I h;refine Call_ (oq I hg hm boot_range (PyProof.Rows.callWith_type1 (thn (ha pos pins s σ H _ I h) fun us s1 ⟨vs, H1, I1, r1, q1⟩ => ?_) hs rfl));obtain ⟨j, e, q1, q2, q⟩ := q1;subst e
  cases r1 with
  | cons r rr =>
    cases rr;obtain ⟨t, rfl⟩ := r;exact call_range_1 (zb1 I1 (by omega) (by omega) q1 q2 (by simpa using q))
def tFor (wi : TI) (g : TG) (tb : TS) : TS := fun D σ H => wi σ H fun J H1 => ∃ W : Nat -> Nat -> St -> Hp -> Prop, (∃ m, W 0 m σ H1) /\ ∀ i m σ H, W i m σ H ->
  (J.stop i H /\ D.nx σ H) \/ (J.go i H /\ ∃ N : St -> Hp -> Prop, (∀ σ' H', N σ' H' -> ∃ m', m' < m /\ W (i + 1) m' σ' H') /\ ∀ x H', J.yld i H x H' -> g x σ H' fun σ2 H2 => tb { D with nx := N, ct := N, bk := D.nx } σ2 H2)
def p9 (fp : List Addr) (h : Heap) : List (Addr × Obj) := fp.filterMap fun b => (h.get? b).map fun o => (b, o)
theorem w6 {fp : List Addr} {h : Heap} {b : Addr} {o : Obj} (hb : b ∈ fp) (e : h.get? b = some o) : (b, o) ∈ p9 fp h := ZP.mpr ⟨b, hb, by rw [e]; rfl⟩
theorem zat {fp : List Addr} {h : Heap} {p : Addr × Obj} (hp : p ∈ p9 fp h) : p.1 ∈ fp /\ h.get? p.1 = some p.2 := by
  obtain ⟨b, hb, e⟩ := ZP.mp hp
  cases q : h.get? b with
  | none => rw [q] at e; cases e
  | some o =>
    rw [q] at e;have e' : (b, o) = p := Option.some.inj e;subst e';exact ⟨hb, q⟩
theorem Inv.pinned {pins : List (Addr × Obj)} {σ : St} {H : Hp} {s : Shared} {fp : List Addr} (I : Inv X pins σ H s) (hf : ∀ b ∈ fp, FpOk X pins H b) (ho : ∀ b ∈ fp, ∃ o, s.heap.get? b = some o /\ ∀ v, o.data ≠ .cell v) : Inv X (pins ++ p9 fp s.heap) σ H s :=
  I.pins_of fun p hp => (ZH.mp hp).elim (fun z => I.pin p (Zu _ z)) fun z => by
    obtain ⟨hb, e⟩ := zat z;obtain ⟨f0, f1, f2, _⟩ := hf p.1 hb;obtain ⟨o, e', d⟩ := ho p.1 hb;rw [e] at e'; cases e';exact ⟨e, f0, f1, f2, d⟩
theorem Inv.unpinned {pins pl : List (Addr × Obj)} {σ : St} {H : Hp} {s : Shared} (I : Inv X (pins ++ pl) σ H s) : Inv X pins σ H s := I.pins_of fun p hp => I.pin p (Zu _ (ZR _ hp))
theorem sf {iter : Expr} {body : List Stmt} {wi : TI} {g : TG} {tb : TS} {pos : Pos} (hp : PassesOwn (model X.prog X.w) X.A X.env X.xe) (hc : X.calm = true) (hi : PI X tg iter wi) (hg : PG X tg g) (hb : PSs X body tb)
    (hs : ∀ x, foldedSetIterable iter X.env x = pure x := by intro _; rfl) : PS X (.For tg iter body [] pos) (tFor wi g tb) := by
  intro pins s σ H D I h;refine wpAny_For (thn (hi pins s σ H _ I h) fun v s1 h1 => thn h1 fun itv s2 h2 => ?_) hs;obtain ⟨it, fp, tn, J, H2, e, I2, T, st2, f2, W, ⟨m0, w0⟩, turn⟩ := h2;subst e
  -- what stays true of the iterator's objects through the loop
  have stat : ∀ {H' : Hp}, (∀ b ∈ fp, H' b = none) -> ∀ b ∈ fp, FpOk X pins H' b := fun hn b hb => ⟨hn b hb, (f2 b hb).2⟩
  refine codeAny_forLoop_any (fun n s' => ∃ i σ' H', Inv X pins σ' H' s' /\ tn i s'.heap /\ (∀ b ∈ fp, H' b = none) /\ W i n σ' H') ?_ m0 ⟨0, σ, H2, I2, st2, fun b hb => (f2 b hb).1, w0⟩
  rintro n s3 ⟨i, σ3, H3, I3, st3, fr3, w3⟩
  rcases turn i n σ3 H3 w3 with ⟨stop, qn⟩ | ⟨go, N, hN, step⟩
  . refine wpAny_passesOwn hp (thn (T.done X rfl rfl rfl hc i pins s3 σ3 H3 X.xe I3 (stat fr3) st3 stop) fun r s4 ⟨hr, I4⟩ => ?_)
    subst hr;exact wpAny_execs_nil ⟨σ3, H3, I4, qn⟩
  . refine wpAny_passesOwn hp (thn (T.item X rfl rfl rfl hc i pins s3 σ3 H3 X.xe I3 (stat fr3) st3 go) fun r s4 ⟨u, hr, h4⟩ => ?_)
    subst hr;refine wpAny_passesOwn hp (thn h4 fun _ s5 ⟨x, H5, I5, r5, y5, st5, fr5⟩ => ?_);have I5' := I5.pinned (stat fr5) (T.obj _ _ st5);refine wpAny_passesOwn hp (thn (hg _ s5 σ3 H5 x u _ I5' r5 (step x H5 y5)) fun _ s6 ⟨σ6, H6, I6, q6⟩ => ?_);refine wpAny_passesOwn hp (thn (hb _ s6 σ6 H6 _ I6 q6) fun f s7 q7 => ?_)
    have again : ∀ {σ7 : St} {H7 : Hp}, Inv X (pins ++ p9 fp s5.heap) σ7 H7 s7 -> N σ7 H7 -> ∃ m, m < n /\ ∃ i σ' H', Inv X pins σ' H' s7 /\ tn i s7.heap /\ (∀ b ∈ fp, H' b = none) /\ W i m σ' H' := fun {σ7 H7} I7 n7 => by
      obtain ⟨m', hm, w7⟩ := hN σ7 H7 n7;refine ⟨m', hm, i + 1, σ7, H7, I7.unpinned, T.keep _ _ _ st5 fun b hb o e => (I7.pin (b, o) (Zu _ (Zu _ (w6 hb e)))).1, fun b hb => ?_, w7⟩;obtain ⟨o, e, d⟩ := T.obj _ _ st5 b hb;exact (I7.pin (b, o) (Zu _ (Zu _ (w6 hb e)))).2.1
    cases f with
    | next => obtain ⟨σ7, H7, I7, n7⟩ := q7; exact again I7 n7
    | cont => obtain ⟨σ7, H7, I7, n7⟩ := q7; exact again I7 n7
    | brk => obtain ⟨σ7, H7, I7, q7⟩ := q7; exact ⟨σ7, H7, I7.unpinned, q7⟩
    | ret v => obtain ⟨x7, σ7, H7, I7, r7, q7⟩ := q7; exact ⟨x7, σ7, H7, I7.unpinned, r7, q7⟩
end
theorem ou {K : Fg} {a : Addr} {xs : List V} {g : TG} {tb : TS} {D : Ends} {σ : St} {H : Hp} (Pv : Nat -> St -> Hp -> Prop) (h0 : Pv 0 σ H) (hl : ∀ i σ H, i <= xs.length -> Pv i σ H -> SqL K H a xs)
    (hs : ∀ i x σ H, xs[i]? = some x -> Pv i σ H -> g x σ H fun σ2 H2 => tb { D with nx := Pv (i + 1), ct := Pv (i + 1), bk := D.nx } σ2 H2) (hd : ∀ σ H, Pv xs.length σ H -> D.nx σ H) :
    ∃ W : Nat -> Nat -> St -> Hp -> Prop, (∃ m, W 0 m σ H) /\ ∀ i m σ H, W i m σ H ->
      ((Itl K a).stop i H /\ D.nx σ H) \/ ((Itl K a).go i H /\ ∃ N : St -> Hp -> Prop, (∀ σ' H', N σ' H' -> ∃ m', m' < m /\ W (i + 1) m' σ' H') /\ ∀ x H', (Itl K a).yld i H x H' -> g x σ H' fun σ2 H2 => tb { D with nx := N, ct := N, bk := D.nx } σ2 H2) := by
  refine ⟨fun i m σ H => m = xs.length - i /\ i <= xs.length /\ Pv i σ H, ⟨xs.length, by simp, ZE _, h0⟩, ?_⟩
  rintro i m σ H ⟨rfl, hi, p⟩
  have q := hl i σ H hi p
  by_cases hlt : i < xs.length
  . refine .inr ⟨⟨xs, xs[i], q, by simp [hlt]⟩, Pv (i + 1), fun σ' H' p' => ⟨xs.length - (i + 1), by omega, rfl, hlt, p'⟩, fun x H' y => ?_⟩
    obtain ⟨e, y⟩ := y;subst e;exact hs i x σ _ (y xs q) p
  . have e : i = xs.length := by omega
    subst e;exact .inl ⟨⟨xs, q, Zm _⟩, hd σ H p⟩
theorem zcy {K : Fg} {a : Addr} {xs : List V} {g : TG} {tb : TS} {D : Ends} {σ : St} {H : Hp} (Pv : Nat -> St -> Hp -> Prop) (h0 : Pv 0 σ H) (hl : ∀ i σ H, i <= xs.length -> Pv i σ H -> SqT K H a xs)
    (hs : ∀ i x σ H, xs[i]? = some x -> Pv i σ H -> g x σ H fun σ2 H2 => tb { D with nx := Pv (i + 1), ct := Pv (i + 1), bk := D.nx } σ2 H2) (hd : ∀ σ H, Pv xs.length σ H -> D.nx σ H) :
    ∃ W : Nat -> Nat -> St -> Hp -> Prop, (∃ m, W 0 m σ H) /\ ∀ i m σ H, W i m σ H ->
      ((Itt K a).stop i H /\ D.nx σ H) \/ ((Itt K a).go i H /\ ∃ N : St -> Hp -> Prop, (∀ σ' H', N σ' H' -> ∃ m', m' < m /\ W (i + 1) m' σ' H') /\ ∀ x H', (Itt K a).yld i H x H' -> g x σ H' fun σ2 H2 => tb { D with nx := N, ct := N, bk := D.nx } σ2 H2) := by
  refine ⟨fun i m σ H => m = xs.length - i /\ i <= xs.length /\ Pv i σ H, ⟨xs.length, by simp, ZE _, h0⟩, ?_⟩
  rintro i m σ H ⟨rfl, hi, p⟩
  have q := hl i σ H hi p
  by_cases hlt : i < xs.length
  . refine .inr ⟨⟨xs, xs[i], q, by simp [hlt]⟩, Pv (i + 1), fun σ' H' p' => ⟨xs.length - (i + 1), by omega, rfl, hlt, p'⟩, fun x H' y => ?_⟩
    obtain ⟨e, y⟩ := y;subst e;exact hs i x σ _ (y xs q) p
  . have e : i = xs.length := by omega
    subst e;exact .inl ⟨⟨xs, q, Zm _⟩, hd σ H p⟩
theorem nt {lo : Int} {n : Nat} {g : TG} {tb : TS} {D : Ends} {σ : St} {H : Hp} (Pv : Nat -> St -> Hp -> Prop) (h0 : Pv 0 σ H)
    (hs : ∀ i σ H, i < n -> Pv i σ H -> g (.int (lo + i)) σ H fun σ2 H2 => tb { D with nx := Pv (i + 1), ct := Pv (i + 1), bk := D.nx } σ2 H2) (hd : ∀ σ H, Pv n σ H -> D.nx σ H) :
    ∃ W : Nat -> Nat -> St -> Hp -> Prop, (∃ m, W 0 m σ H) /\ ∀ i m σ H, W i m σ H ->
      ((Itr lo n).stop i H /\ D.nx σ H) \/ ((Itr lo n).go i H /\ ∃ N : St -> Hp -> Prop, (∀ σ' H', N σ' H' -> ∃ m', m' < m /\ W (i + 1) m' σ' H') /\ ∀ x H', (Itr lo n).yld i H x H' -> g x σ H' fun σ2 H2 => tb { D with nx := N, ct := N, bk := D.nx } σ2 H2) := by
  refine ⟨fun i m σ H => m = n - i /\ i <= n /\ Pv i σ H, ⟨n, by simp, ZE _, h0⟩, ?_⟩
  rintro i m σ H ⟨rfl, hi, p⟩
  by_cases hlt : i < n
  . refine .inr ⟨hlt, Pv (i + 1), fun σ' H' p' => ⟨n - (i + 1), by omega, rfl, hlt, p'⟩, fun x H' y => ?_⟩
    obtain ⟨e, y⟩ := y;subst e y;exact hs i σ _ hlt p
  . have e : i = n := by omega
    subst e;exact .inl ⟨Zm _, hd σ H p⟩
end L2
namespace L2
open PySem PySem.Spec PyProof.Rows
abbrev R2 := V -> V -> Hp -> VK -> Prop
def OpR (X : Cx) (f : Value -> Value -> Sem Value) (r : R2) : Prop :=
  ∀ (pins : List (Addr × Obj)) (s : Shared) (σ : St) (H : Hp) (x y : V) (v u : Value) (Q : VK), Inv X pins σ H s -> RelV x v -> RelV y u -> r x y H Q ->
    wpAny (model X.prog X.w) X.A (f v u) (EP X pins σ Q) X.xe s
def UnR (X : Cx) (f : Value -> Sem Value) (r : V -> Hp -> VK -> Prop) : Prop :=
  ∀ (pins : List (Addr × Obj)) (s : Shared) (σ : St) (H : Hp) (x : V) (v : Value) (Q : VK), Inv X pins σ H s -> RelV x v -> r x H Q ->
    wpAny (model X.prog X.w) X.A (f v) (EP X pins σ Q) X.xe s
def CallR (X : Cx) (f : Value) (r : List V -> Hp -> VK -> Prop) : Prop :=
  ∀ (pins : List (Addr × Obj)) (s : Shared) (σ : St) (H : Hp) (xs : List V) (us : List Value) (Q : VK), Inv X pins σ H s -> Vals xs us -> r xs H Q ->
    wpAny (model X.prog X.w) X.A (call f us) (EP X pins σ Q) X.xe s
def tOp (r : R2) (ta tb : TE) : TE := fun σ H Q => ta σ H fun x H1 => tb σ H1 fun y H2 => r x y H2 Q
def tUn (r : V -> Hp -> VK -> Prop) (ta : TE) : TE := fun σ H Q => ta σ H fun x H1 => r x H1 Q
def rI (C : Int -> Int -> Prop) (g : Int -> Int -> V) : R2 := fun x y H Q => ∃ i j, x = .int i /\ y = .int j /\ C i j /\ Q (g i j) H
def rI0 (g : Int -> Int -> V) : R2 := fun x y H Q => ∃ i j, x = .int i /\ y = .int j /\ Q (g i j) H
def rU (g : Int -> V) : V -> Hp -> VK -> Prop := fun x H Q => ∃ i, x = .int i /\ Q (g i) H
section
variable {X : Cx} {a b c : Expr} {ta tb tc : TE} {pos : Pos}
theorem binT (ha : PE X a ta) (hb : PE X b tb) {pins : List (Addr × Obj)} {s : Shared} {σ : St} {H : Hp} {R : V -> V -> Hp -> Prop} (I : Inv X pins σ H s)
    (h : ta σ H fun x H1 => tb σ H1 fun y H2 => R x y H2) {Q : Value -> Shared -> Prop} {f : Value -> Value -> Sem Value}
    (hf : ∀ v u s2 x y H2, Inv X pins σ H2 s2 -> RelV x v -> RelV y u -> R x y H2 -> wpAny (model X.prog X.w) X.A (f v u) Q X.xe s2) :
    wpAny (model X.prog X.w) X.A (eval a X.env) (fun v s₁ => wpAny (model X.prog X.w) X.A (eval b X.env) (fun u s₂ => wpAny (model X.prog X.w) X.A (f v u) Q X.xe s₂) X.xe s₁) X.xe s := by
  refine thn (ha pins s σ H _ I h) fun v s1 ⟨x, H1, I1, r1, q1⟩ => ?_
  refine thn (hb pins s1 σ H1 _ I1 q1) fun u s2 ⟨y, H2, I2, r2, q2⟩ => ?_
  exact hf v u s2 x y H2 I2 r1 r2 q2
theorem zm {op : Operator} {r : R2} (ho : OpR X (binaryOp op) r) (ha : PE X a ta) (hb : PE X b tb) : PE X (.BinOp a op b pos) (tOp r ta tb) := by
  intro pins s σ H Q I h;exact wpAny_BinOp (binT ha hb I h fun v u s2 x y H2 I2 rx ry q => ho pins s2 σ H2 x y v u Q I2 rx ry q)
theorem ul {op : UnaryOp} {r : V -> Hp -> VK -> Prop} (ho : UnR X (unaryOp op) r) (ha : PE X a ta) : PE X (.UnaryOp op a pos) (tUn r ta) := by
  intro pins s σ H Q I h;exact UnaryOp_ (thn (ha pins s σ H _ I h) fun v s1 ⟨x, H1, I1, r1, q1⟩ => ho pins s1 σ H1 x v Q I1 r1 q1)
theorem opI {f : Value -> Value -> Sem Value} {C : Int -> Int -> Prop} {g : Int -> Int -> Int}
    (rule : ∀ (i j : Int) (t u : Tok) (s : Shared) (Q : Value -> Shared -> Prop) (E : Value -> Shared -> Prop), C i j -> Q (.int (g i j) s.toks) { s with toks := s.toks + 1 } -> wpAny (model X.prog X.w) X.A (f (.int i t) (.int j u)) Q E s) :
    OpR X f (rI C fun i j => .int (g i j)) := by
  intro pins s σ H x y v u Q I rx ry h;obtain ⟨i, j, rfl, rfl, hc, q⟩ := h;obtain ⟨t, rfl⟩ := rx;obtain ⟨t', rfl⟩ := ry;exact rule i j t t' s _ _ hc ⟨.int (g i j), H, I.tok _, ⟨_, rfl⟩, q⟩
theorem opI0 {f : Value -> Value -> Sem Value} {g : Int -> Int -> Int}
    (rule : ∀ (i j : Int) (t u : Tok) (s : Shared) (Q : Value -> Shared -> Prop) (E : Value -> Shared -> Prop), Q (.int (g i j) s.toks) { s with toks := s.toks + 1 } -> wpAny (model X.prog X.w) X.A (f (.int i t) (.int j u)) Q E s) :
    OpR X f (rI0 fun i j => .int (g i j)) := by
  intro pins s σ H x y v u Q I rx ry h;obtain ⟨i, j, rfl, rfl, q⟩ := h;obtain ⟨t, rfl⟩ := rx;obtain ⟨t', rfl⟩ := ry;exact rule i j t t' s _ _ ⟨.int (g i j), H, I.tok _, ⟨_, rfl⟩, q⟩
theorem opB0 {f : Value -> Value -> Sem Value} {g : Int -> Int -> Bool}
    (rule : ∀ (i j : Int) (t u : Tok) (s : Shared) (Q : Value -> Shared -> Prop) (E : Value -> Shared -> Prop), Q (.bool (g i j)) s -> wpAny (model X.prog X.w) X.A (f (.int i t) (.int j u)) Q E s) :
    OpR X f (rI0 fun i j => .bl (g i j)) := by
  intro pins s σ H x y v u Q I rx ry h;obtain ⟨i, j, rfl, rfl, q⟩ := h;obtain ⟨t, rfl⟩ := rx;obtain ⟨t', rfl⟩ := ry;exact rule i j t t' s _ _ ⟨.bl (g i j), H, I, rfl, q⟩
def CDiv (i j : Int) : Prop := 0 < j /\ j < 1073741824
def CPow (i j : Int) : Prop := 0 <= j /\ j <= 1000000 /\ i.natAbs < 2 ^ 64
def CMul (i j : Int) : Prop := (-(2 ^ 64) < i /\ i < 2 ^ 64) \/ (-(2 ^ 64) < j /\ j < 2 ^ 64)
theorem CMul.ok {i j : Int} (h : CMul i j) : IntMulOk i j := by
  rcases h with ⟨h1, h2⟩ | ⟨h1, h2⟩
  . exact .of_left (intBits_le_64 h1 h2)
  . exact .of_right (intBits_le_64 h1 h2)
theorem yg : OpR X (binaryOp .Add) (rI0 fun i j => .int (i + j)) := opI0 fun _ _ _ _ _ _ _ q => add_int q
theorem mj : OpR X (binaryOp .Sub) (rI0 fun i j => .int (i - j)) := opI0 fun _ _ _ _ _ _ _ q => sub_int q
theorem oi : OpR X (binaryOp .Mult) (rI CMul fun i j => .int (i * j)) := opI fun _ _ _ _ _ _ _ hc q => mul_int q hc.ok
theorem yn : OpR X (binaryOp .FloorDiv) (rI CDiv fun i j => .int (i / j)) := opI fun i j _ _ _ _ _ hc q => by
  have h1 : (0 : Int) < j := hc.1;have h2 : j < 1073741824 := hc.2;exact floordiv_int (by omega) (by rw [Int.fdiv_eq_ediv_of_nonneg i (by omega)]; exact q) (.inl (PyProof.noPylong_small (by omega)))
theorem yf : OpR X (binaryOp .Mod) (rI (fun _ j => 0 < j) fun i j => .int (i % j)) := opI fun i j _ _ _ _ _ hc q => by
  have h1 : (0 : Int) < j := hc;exact mod_int' (by omega) (by rw [Int.fmod_eq_emod_of_nonneg i (by omega)]; exact q)
theorem op_pow : OpR X (binaryOp .Pow) (rI CPow fun i j => .int (i ^ j.toNat)) := opI fun _ _ _ _ _ _ _ hc q => pow_int_small hc.1 hc.2.1 hc.2.2 q
theorem unI {f : Value -> Sem Value} {g : Int -> Int}
    (rule : ∀ (i : Int) (t : Tok) (s : Shared) (Q : Value -> Shared -> Prop) (E : Value -> Shared -> Prop), Q (.int (g i) s.toks) { s with toks := s.toks + 1 } -> wpAny (model X.prog X.w) X.A (f (.int i t)) Q E s) :
    UnR X f (rU fun i => .int (g i)) := by
  intro pins s σ H x v Q I rx h;obtain ⟨i, rfl, q⟩ := h;obtain ⟨t, rfl⟩ := rx;exact rule i t s _ _ ⟨.int (g i), H, I.tok _, ⟨_, rfl⟩, q⟩
theorem w5 : UnR X (unaryOp .USub) (rU fun i => .int (-i)) := unI fun _ _ _ _ _ q => neg_int q
end
def scal : V -> V -> Bool
  | .non, .non => true | .non, .int _ => true | .int _, .non => true | .non, .bl _ => true | .bl _, .non => true | .non, .str _ => true | .str _, .non => true
  | .int _, .int _ => true | .bl _, .bl _ => true | .str _, .str _ => true | .byt _, .byt _ => true
  | .int _, .str _ => true | .str _, .int _ => true | .bl _, .str _ => true | .str _, .bl _ => true
  | _, _ => false
def rEq : R2 := fun x y H Q => scal x y = true /\ Q (.bl (decide (x = y))) H
def rNe : R2 := fun x y H Q => scal x y = true /\ Q (.bl (!decide (x = y))) H
theorem d4 {i j : Int} : decide (V.int i = V.int j) = (i == j) := by
  rw [Bool.eq_iff_iff];simp
theorem za4 {i j : Bool} : decide (V.bl i = V.bl j) = (i == j) := by
  rw [Bool.eq_iff_iff];simp
theorem cp {i j : Str} : decide (V.str i = V.str j) = (i == j) := by
  rw [Bool.eq_iff_iff];simp
theorem ck {i j : Array UInt8} : decide (V.byt i = V.byt j) = (i.toList == j.toList) := by
  rw [Bool.eq_iff_iff];cases i;cases j;simp
section
variable {X : Cx} {a b c : Expr} {ta tb tc : TE} {pos : Pos}
theorem yh {pins : List (Addr × Obj)} {σ : St} {H : Hp} {s : Shared} {Q : VK} {k k' : Bool} (I : Inv X pins σ H s) (q : Q (.bl k) H) (e : k = k') : EP X pins σ Q (.bool k') s := by
  subst e;exact ⟨.bl k, H, I, rfl, q⟩
theorem y9 : OpR X (compareOp .Eq) rEq := by
  intro pins s σ H x y v u Q I rx ry h;obtain ⟨hs, q⟩ := h
  cases x with
  | non =>
    cases rx
    cases y with
    | non => cases ry; exact PySem.EqNone.eq_none_none (yh I q (by simp))
    | bl j => cases ry; exact PySem.EqNone.eq_none_bool (yh I q (by simp))
    | int j => obtain ⟨t', rfl⟩ := ry; exact PySem.EqNone.eq_none_int (yh I q (by simp))
    | str j => obtain ⟨t', rfl⟩ := ry; exact PySem.EqNone.eq_none_str (yh I q (by simp))
    | _ => exact absurd (show false = true from hs) Bool.false_ne_true
  | bl i =>
    cases rx
    cases y with
    | non => cases ry; exact PySem.EqNone.eq_bool_none (yh I q (by simp))
    | bl j => cases ry; exact eq_bool (yh I q za4)
    | str j => obtain ⟨t', rfl⟩ := ry; exact PySem.EqMixed.eq_bool_str (yh I q (by simp))
    | _ => exact absurd (show false = true from hs) Bool.false_ne_true
  | int i =>
    obtain ⟨t, rfl⟩ := rx
    cases y with
    | non => cases ry; exact PySem.EqNone.eq_int_none (yh I q (by simp))
    | int j => obtain ⟨t', rfl⟩ := ry; exact eq_int (yh I q d4)
    | str j => obtain ⟨t', rfl⟩ := ry; exact PySem.EqMixed.eq_int_str (yh I q (by simp))
    | _ => exact absurd (show false = true from hs) Bool.false_ne_true
  | str i =>
    obtain ⟨t, rfl⟩ := rx
    cases y with
    | non => cases ry; exact PySem.EqNone.eq_str_none (yh I q (by simp))
    | bl j => cases ry; exact PySem.EqMixed.eq_str_bool (yh I q (by simp))
    | int j => obtain ⟨t', rfl⟩ := ry; exact PySem.EqMixed.eq_str_int (yh I q (by simp))
    | str j => obtain ⟨t', rfl⟩ := ry; exact eq_str (yh I q cp)
    | _ => exact absurd (show false = true from hs) Bool.false_ne_true
  | byt i =>
    obtain ⟨t, rfl⟩ := rx
    cases y with
    | byt j => obtain ⟨t', rfl⟩ := ry; exact PySem.W.eq_bytes (yh I q ck)
    | _ => exact absurd (show false = true from hs) Bool.false_ne_true
  | _ => cases y <;> exact absurd (show false = true from hs) Bool.false_ne_true
theorem uy : OpR X (compareOp .NotEq) rNe := by
  intro pins s σ H x y v u Q I rx ry h;obtain ⟨hs, q⟩ := h
  cases x with
  | non =>
    cases rx
    cases y with
    | non => cases ry; exact PySem.EqNone.ne_none_none (yh I q (by simp))
    | bl j => cases ry; exact PySem.EqNone.ne_none_bool (yh I q (by simp))
    | int j => obtain ⟨t', rfl⟩ := ry; exact PySem.EqNone.ne_none_int (yh I q (by simp))
    | str j => obtain ⟨t', rfl⟩ := ry; exact PySem.EqNone.ne_none_str (yh I q (by simp))
    | _ => exact absurd (show false = true from hs) Bool.false_ne_true
  | bl i =>
    cases rx
    cases y with
    | non => cases ry; exact PySem.EqNone.ne_bool_none (yh I q (by simp))
    | bl j => cases ry; exact ne_bool (yh I q (congrArg not za4))
    | str j => obtain ⟨t', rfl⟩ := ry; exact PySem.EqMixed.ne_bool_str (yh I q (by simp))
    | _ => exact absurd (show false = true from hs) Bool.false_ne_true
  | int i =>
    obtain ⟨t, rfl⟩ := rx
    cases y with
    | non => cases ry; exact PySem.EqNone.ne_int_none (yh I q (by simp))
    | int j => obtain ⟨t', rfl⟩ := ry; exact ne_int (yh I q (congrArg not d4))
    | str j => obtain ⟨t', rfl⟩ := ry; exact PySem.EqMixed.ne_int_str (yh I q (by simp))
    | _ => exact absurd (show false = true from hs) Bool.false_ne_true
  | str i =>
    obtain ⟨t, rfl⟩ := rx
    cases y with
    | non => cases ry; exact PySem.EqNone.ne_str_none (yh I q (by simp))
    | bl j => cases ry; exact PySem.EqMixed.ne_str_bool (yh I q (by simp))
    | int j => obtain ⟨t', rfl⟩ := ry; exact PySem.EqMixed.ne_str_int (yh I q (by simp))
    | str j => obtain ⟨t', rfl⟩ := ry; exact ne_str (yh I q (congrArg not cp))
    | _ => exact absurd (show false = true from hs) Bool.false_ne_true
  | byt i =>
    obtain ⟨t, rfl⟩ := rx
    cases y with
    | byt j => obtain ⟨t', rfl⟩ := ry; exact PySem.W.ne_bytes (yh I q (congrArg not ck))
    | _ => exact absurd (show false = true from hs) Bool.false_ne_true
  | _ => cases y <;> exact absurd (show false = true from hs) Bool.false_ne_true
theorem pb : OpR X (compareOp .Lt) (rI0 fun i j => .bl (decide (i < j))) := opB0 fun _ _ _ _ _ _ _ q => lt_int q
theorem kq : OpR X (compareOp .LtE) (rI0 fun i j => .bl (decide (i <= j))) := opB0 fun _ _ _ _ _ _ _ q => le_int q
theorem rq : OpR X (compareOp .Gt) (rI0 fun i j => .bl (decide (j < i))) := opB0 fun _ _ _ _ _ _ _ q => gt_int q
theorem op_ge : OpR X (compareOp .GtE) (rI0 fun i j => .bl (decide (j <= i))) := opB0 fun _ _ _ _ _ _ _ q => ge_int q
theorem fb : OpR X (compareOp .Is) (fun x y H Q => y = .non /\ Q (.bl (decide (x = .non))) H) := by
  intro pins s σ H x y v u Q I rx ry h;obtain ⟨rfl, q⟩ := h;cases ry;refine is_none_gen (yh I q ?_)
  cases x <;> first
    | (cases rx; rfl)
    | (obtain ⟨t, rfl⟩ := rx; rfl)
theorem OpR.or {f : Value -> Value -> Sem Value} {r r' : R2} (h : OpR X f r) (h' : OpR X f r') : OpR X f (fun x y H Q => r x y H Q \/ r' x y H Q) := by
  intro pins s σ H x y v u Q I rx ry q
  rcases q with q | q
  . exact h pins s σ H x y v u Q I rx ry q
  . exact h' pins s σ H x y v u Q I rx ry q
theorem z0 (b : Expr) {op : CmpOp} (h : op ≠ .In := by decide) (h2 : op ≠ .NotIn := by decide) : behindInMarks op b = false := by
  have e1 : (op == CmpOp.In) = false := by cases op <;> first | rfl | exact absurd rfl h
  have e2 : (op == CmpOp.NotIn) = false := by cases op <;> first | rfl | exact absurd rfl h2
  cases b <;> simp [behindInMarks, e1, e2]
theorem xy {op : CmpOp} {r : R2} (ho : OpR X (compareOp op) r) (ha : PE X a ta) (hb : PE X b tb) (hm : behindInMarks op b = false) : PE X (.Compare a [op] [b] pos) (tOp r ta tb) := by
  intro pins s σ H Q I h;exact wpAny_Compare1 (binT ha hb I h fun v u s2 x y H2 I2 rx ry q => ho pins s2 σ H2 x y v u Q I2 rx ry q) hm
def mt (t : TE) : TT := fun σ H Q => t σ H fun x H' => ∃ k, x = .bl k /\ Q k H'
theorem zw {op : CmpOp} {r : R2} (ho : OpR X (compareOp op) r) (ha : PE X a ta) (hb : PE X b tb) (hm : behindInMarks op b = false) : PT X (.Compare a [op] [b] pos) (mt (tOp r ta tb)) := by
  intro pins s σ H Q I h
  refine wpAny_isTrue_Compare1 (thn (ha pins s σ H _ I h) fun v s1 ⟨x, H1, I1, r1, q1⟩ => thn (hb pins s1 σ H1 _ I1 q1) fun u s2 ⟨y, H2, I2, r2, q2⟩ =>
    thn (ho pins s2 σ H2 x y v u _ I2 r1 r2 q2) fun c s3 ⟨z, H3, I3, r3, k, e, q3⟩ => ?_) hm
  subst e;cases r3;exact wpAny_truthy_bool ⟨H3, I3, q3⟩
def fh (r r' : R2) (ta tb tc : TE) : TE := fun σ H Q => ta σ H fun x H1 => tb σ H1 fun y H2 => r x y H2 fun z H3 => ∃ k, z = .bl k /\
  (if k = true then tc σ H3 fun w' H4 => r' y w' H4 Q else Q (.bl false) H3)
theorem zch {op op' : CmpOp} {r r' : R2} (ho : OpR X (compareOp op) r) (ho' : OpR X (compareOp op') r') (ha : PE X a ta) (hb : PE X b tb) (hc : PE X c tc)
    (hm : lastMarks [op, op'] [b, c] = false := by with_unfolding_all rfl) : PE X (.Compare a [op, op'] [b, c] pos) (fh r r' ta tb tc) := by
  intro pins s σ H Q I h
  refine Compare_chain (thn (ha pins s σ H _ I h) fun v s1 ⟨x, H1, I1, r1, q1⟩ => chain_link (thn (hb pins s1 σ H1 _ I1 q1) fun u s2 ⟨y, H2, I2, r2, q2⟩ =>
    thn (ho pins s2 σ H2 x y v u _ I2 r1 r2 q2) fun d s3 ⟨z, H3, I3, r3, k, e, q3⟩ => ?_)) hm
  subst e;cases r3;refine wpAny_truthy_bool ?_
  cases k with
  | false => exact ite_ff ⟨.bl false, H3, I3, rfl, q3⟩
  | true => exact ite_tt (chain_last (thn (hc pins s3 σ H3 _ I3 q3) fun w' s4 ⟨z', H4, I4, r4, q4⟩ => ho' pins s4 σ H4 y z' u w' Q I4 r2 r4 q4))
theorem g5 {op op' : CmpOp} {r r' : R2} (ho : OpR X (compareOp op) r) (ho' : OpR X (compareOp op') r') (ha : PE X a ta) (hb : PE X b tb) (hc : PE X c tc)
    (hm : lastMarks [op, op'] [b, c] = false := by with_unfolding_all rfl) : PT X (.Compare a [op, op'] [b, c] pos) (mt (fh r r' ta tb tc)) := by
  intro pins s σ H Q I h
  refine isTrue_chain (thn (ha pins s σ H _ I h) fun v s1 ⟨x, H1, I1, r1, q1⟩ => test_link (thn (hb pins s1 σ H1 _ I1 q1) fun u s2 ⟨y, H2, I2, r2, q2⟩ =>
    thn (ho pins s2 σ H2 x y v u _ I2 r1 r2 q2) fun d s3 ⟨z, H3, I3, r3, k, e, q3⟩ => ?_)) hm
  subst e;cases r3;refine wpAny_truthy_bool ?_
  cases k with
  | false =>
    obtain ⟨k', e', q'⟩ := q3;cases e';exact ite_ff ⟨H3, I3, q'⟩
  | true =>
    refine ite_tt (test_last (thn (hc pins s3 σ H3 _ I3 q3) fun w' s4 ⟨z', H4, I4, r4, q4⟩ => thn (ho' pins s4 σ H4 y z' u w' _ I4 r2 r4 q4) fun d' s5 ⟨z2, H5, I5, r5, k2, e2, q5⟩ => ?_));subst e2;cases r5;exact wpAny_truthy_bool ⟨H5, I5, q5⟩
theorem qi : (sizeLine : Nat) < 2 ^ 63 := by rw [sizeLine_eq]; decide
theorem x8 : OpR X (binaryOp .Add) (fun x y H Q => ∃ i j, x = .str i /\ y = .str j /\ i.length + j.length <= sizeLine /\ Q (.str (i ++ j)) H) := by
  intro pins s σ H x y v u Q I rx ry h;obtain ⟨i, j, rfl, rfl, hz, q⟩ := h;obtain ⟨t, rfl⟩ := rx;obtain ⟨t', rfl⟩ := ry;exact add_str (fun t' tk => ⟨.str (i ++ j), H, I.tok _, ⟨_, rfl⟩, q⟩) hz
theorem uz {x : V} {us : List Value} (r : Vals [x] us) : ∃ u, us = [u] /\ RelV x u := by
  cases r with
  | cons r1 r2 => cases r2; exact ⟨_, rfl, r1⟩
theorem zcp : CallR X (.builtin "abs") (fun xs H Q => ∃ i, xs = [.int i] /\ Q (.int (if i < 0 then -i else i)) H) := by
  intro pins s σ H xs us Q I r h;obtain ⟨i, rfl, q⟩ := h;obtain ⟨u, rfl, t, rfl⟩ := uz r;exact call_abs_int fun u tk => ⟨.int (if i < 0 then -i else i), H, I.tok _, ⟨_, rfl⟩, q⟩
theorem zbh : CallR X (.type "int") (fun xs H Q => (∃ i, xs = [.int i] /\ Q (.int i) H) \/ ∃ k, xs = [.bl k] /\ Q (.int (if k then 1 else 0)) H) := by
  intro pins s σ H xs us Q I r h
  rcases h with ⟨i, rfl, q⟩ | ⟨k, rfl, q⟩
  . obtain ⟨u, rfl, t, rfl⟩ := uz r
    exact call_int_int ⟨.int i, H, I, ⟨_, rfl⟩, q⟩
  . obtain ⟨u, rfl, r1⟩ := uz r
    cases r1;exact call_int_bool ⟨.int (if k then 1 else 0), H, I.tok _, ⟨_, rfl⟩, q⟩
theorem mh : CallR X (.type "str") (fun xs H Q => ∃ i, xs = [.int i] /\ i.natAbs.log2 < 1920 /\ Q (.str (toString i)) H) := by
  intro pins s σ H xs us Q I r h;obtain ⟨i, rfl, hz, q⟩ := h;obtain ⟨u, rfl, t, rfl⟩ := uz r;exact PySem.P.str_of_int hz ⟨.str _, H, I.tok _, ⟨_, rfl⟩, q⟩
end
end L2
namespace L2
open PySem PySem.Spec PyProof.Rows
structure ObjM (h : Heap) (x dx C : Addr) (mA : Str -> Option Value) : Prop where
  obj : h.get? x = some (PySem.W.instObj C dx)
  ns : h.Ns1 dx mA
  ne : dx ≠ x
theorem zar {h : Heap} {dx : Addr} {mA : Str -> Option Value} (n : h.Ns1 dx mA) : ∃ od, h.get? dx = some od /\ ∀ name, PySem.W.lookIn name od = some (mA name) := by
  obtain ⟨o, es, ep, ho, hd, hk, _, hm⟩ := n;refine ⟨o, ho, fun name => ?_⟩;have e := hm name;unfold nsFind findBy at e;rw [<- Array.find?_toList] at e;unfold PySem.W.lookIn;rw [hd];dsimp only
  split
  . rename_i y q
    rw [q] at e;exact congrArg some e
  . rename_i q
    rw [q] at e
    have a : es.toList.any (·.refKey) = false := by
      rw [YU];intro y hy;obtain ⟨z, t, hkey⟩ := hk y (Array.mem_toList_iff.mp hy);simp [DictEntry.refKey, hkey]
    have a' : ¬ es.toList.any (·.refKey) = true := by rw [a]; exact Bool.false_ne_true
    rw [if_neg a'];exact congrArg some e
theorem ObjM.look {h : Heap} {x dx C : Addr} {mA : Str -> Option Value} (I : ObjM h x dx C mA) : ∃ od, PySem.W.InstAt h x (PySem.W.instObj C dx) C (some od) /\ ∀ name, PySem.W.lookIn name od = some (mA name) :=
  let ⟨od, ho, hl⟩ := zar I.ns
  ⟨od, ⟨I.obj, rfl, rfl, ho⟩, hl⟩
section
variable {prog : Program} {w : World} {A : Around} {E : Value -> Shared -> Prop} {s : Shared} {K : Fg} {x dx C f : Addr} {mA : Str -> Option Value} {name : Str} {v : Value}
end
section
variable {P : Program} {w : World} {H H' : Hp} {h h' : Heap} {a C dx : Addr} {fs fs' : List (Str × V)}
theorem zdo (hok : HOk P w H h) (e : H a = some (.ins C dx fs)) : ∃ mA, ObjM h a dx C mA /\ (∀ f, RelO (fs.lookup f) (mA f)) /\ PySem.Within mA (fs.map (·.1)) /\ fs.length <= 1000 /\ H dx = some (.own a) := by
  obtain ⟨d, z, ne, ob, mA, n, r, q⟩ := (show ObjOk P w H h a (.ins C dx fs) from hok a _ e);exact ⟨mA, ⟨ob, n, ne⟩, r, q, z, d⟩
end
structure Cls (K : Fg) (C : Addr) : Prop where
  pg : PySem.W.plainGet K C Str.empty = true
  hd : PySem.W.hasDictIn K C = true
  po : PySem.W.plainOver K C = true
  sa : PySem.W.findIn K (.ref C) "__setattr__" = some (some (.builtin "object.__setattr__"))
theorem Cls.get {K : Fg} {C : Addr} (c : Cls K C) (f : Str) : PySem.W.plainGet K C f = true := c.pg
section
variable {X : Cx} {pins : List (Addr × Obj)} {σ : St} {H : Hp} {s : Shared} {a C dx : Addr} {fs : List (Str × V)} {f : Str} {v : V} {A : Around} {E : Value -> Shared -> Prop}
theorem Inv.made (I : Inv X pins σ H s) : Inv X pins σ (upd (upd H s.heap.objs.size (.own (s.heap.objs.size + 1))) (s.heap.objs.size + 1) (.ins C s.heap.objs.size []))
    { s with heap := (s.heap.push PySem.W.emptyDict).push (PySem.W.instObj C s.heap.objs.size) } := by
  have e1 : (s.heap.push PySem.W.emptyDict).get? s.heap.objs.size = some PySem.W.emptyDict := Heap.get?_push_size s.heap rfl
  have e2 : ((s.heap.push PySem.W.emptyDict).push (PySem.W.instObj C s.heap.objs.size)).get? (s.heap.objs.size + 1) = some (PySem.W.instObj C s.heap.objs.size) := by
    have := Heap.get?_push_size (s.heap.push PySem.W.emptyDict) (o := PySem.W.instObj C s.heap.objs.size) rfl
    rwa [Heap.size_push] at this
  have e3 : (s.heap.push PySem.W.emptyDict).Ns s.heap.objs.size (fun _ => none) := ⟨PySem.W.emptyDict, #[], _, e1, rfl, (fun e he => absurd he (by simp)), fun _ => rfl⟩;have I1 := I.laid (a := s.heap.objs.size) (o := .own (s.heap.objs.size + 1)) (h' := s.heap.push PySem.W.emptyDict) (t' := s.toks) (fun b u q => Heap.get?_push_of_some _ q) (Zm _) ⟨_, e1⟩;refine I1.laid (a := s.heap.objs.size + 1) (o := .ins C s.heap.objs.size []) (t' := s.toks) (fun b u q => Heap.get?_push_of_some _ q) (YW (Heap.size_push _ _)) ?_;have ne : s.heap.objs.size ≠ s.heap.objs.size + 1 := Zs (YD _);refine ⟨by rw [zy ne, zc], ZE _, ne, e2, fun _ => none, (Heap.Ns1.of_empty e3).at fun o q => Heap.get?_push_of_some _ q, fun _ => True.intro, fun y hy => absurd rfl hy⟩
end
section
variable {X : Cx} {o e value : Expr} {f : Str} {pos pos' tpos : Pos} {ta tv : TE}
end
section
variable {X : Cx} {pins : List (Addr × Obj)} {σ : St} {H : Hp} {s : Shared} {A : Around} {E : Value -> Shared -> Prop} {Q : Value -> Shared -> Prop} {c : Value} {b : Bool}
inductive TyOf (K : Fg) (H : Hp) : V -> Value -> Prop where
  | non : TyOf K H .non (.type "NoneType")
  | bl (x : Bool) : TyOf K H (.bl x) (.type "bool")
  | int (i : Int) : TyOf K H (.int i) (.type "int")
  | str (x : Str) : TyOf K H (.str x) (.type "str")
  | flt (x : UInt64) : TyOf K H (.flt x) (.type "float")
  | lst {a : Addr} {xs : List V} (e : H a = some (.lst xs)) : TyOf K H (.ref a) (.type "list")
  | frz {a : Addr} {o : Obj} {xs : List V} (e : H a = some (.frz o (.lst xs))) : TyOf K H (.ref a) (.type "list")
  | tup {a : Addr} {xs : List V} (e : H a = some (.tup xs)) : TyOf K H (.ref a) (.type "tuple")
  | dK {a : Addr} {kvs : List (Key × V)} (e : H a = some (.dK kvs)) : TyOf K H (.ref a) (.type "dict")
  | dT {a : Addr} {kvs : List (List Key × V)} (e : H a = some (.dT kvs)) : TyOf K H (.ref a) (.type "dict")
  | ins {a C dx : Addr} {fs : List (Str × V)} (e : H a = some (.ins C dx fs)) (cl : Cls K C) (ha : PySem.W.findIn K (.ref C) "__class__" = some (some (.builtin "object.__class__")))
      (hn : PySem.W.specialIn K (.builtin "object.__class__") "__get__" = some (some (.builtin "getset_descriptor.__get__"))) (htk : PySem.W.takesIn K (.builtin "object.__class__") = some true)
      (hm : PySem.W.mroIn K C (.type "object") = some true) : TyOf K H (.ref a) (.ref C)
theorem zbe {x : V} {u t : Value} (I : Inv X pins σ H s) (rx : RelV x u) (ty : TyOf X.K H x t) (e : PySem.W.kitOne X.K t c = some b) (h : ∀ tk, Q (.bool b) { s with toks := tk }) :
    wpAny (model X.prog X.w) A (call (.builtin "isinstance") [u, c]) Q E s := by
  cases ty with
  | non => cases (show u = Value.none from rx); exact PySem.W.kia_one PySem.W.kitx_none I.kIn True.intro e (fun z => nomatch z) h
  | bl y => cases (show u = Value.bool y from rx); exact PySem.W.kia_one PySem.W.kitx_bool I.kIn True.intro e (fun z => nomatch z) h
  | int i => obtain ⟨t, q⟩ := (show ∃ t, u = Value.int i t from rx); cases q; exact PySem.W.kia_one PySem.W.kitx_int I.kIn True.intro e (fun z => nomatch z) h
  | str y => obtain ⟨t, q⟩ := (show ∃ t, u = Value.str y t from rx); cases q; exact PySem.W.kia_one PySem.W.kitx_str I.kIn True.intro e (fun z => nomatch z) h
  | flt y => obtain ⟨t, q⟩ := (show ∃ t, u = Value.float y t from rx); cases q; exact PySem.W.kia_one PySem.W.kitx_float I.kIn True.intro e (fun z => nomatch z) h
  | @lst a xs ea =>
    cases (show u = Value.ref a from rx);obtain ⟨_, _, n, _, h1⟩ := (show ObjOk X.prog X.w H s.heap a (.lst xs) from I.hok a _ ea);exact PySem.W.kia_one PySem.W.kitx_list I.kIn ⟨_, h1, rfl⟩ e (fun z => nomatch z) h
  | @frz a ob xs ea =>
    cases (show u = Value.ref a from rx);obtain ⟨_, _, _, n, _, h1⟩ := (show ObjOk X.prog X.w H s.heap a (.frz ob (.lst xs)) from I.hok a _ ea);exact PySem.W.kia_one PySem.W.kitx_list I.kIn ⟨_, h1, rfl⟩ e (fun z => nomatch z) h
  | @tup a xs ea =>
    cases (show u = Value.ref a from rx);obtain ⟨_, _, _, p⟩ := (show ObjOk X.prog X.w H s.heap a (.tup xs) from I.hok a _ ea);obtain ⟨o, h1, h2, _⟩ := p;exact PySem.W.kia_one PySem.W.kitx_tuple I.kIn ⟨o, h1, h2⟩ e (fun z => nomatch z) h
  | @dK a kvs ea =>
    cases (show u = Value.ref a from rx);obtain ⟨_, _, vs, _, p⟩ := (show ObjOk X.prog X.w H s.heap a (.dK kvs) from I.hok a _ ea);obtain ⟨o, es, ep, h1, h2, _⟩ := p;exact PySem.W.kia_one PySem.W.kitx_dict I.kIn ⟨o, h1, h2.1⟩ e (fun z => nomatch z) h
  | @dT a kvs ea =>
    cases (show u = Value.ref a from rx);obtain ⟨_, _, xs, _, o, es, ep, h1, h2, _⟩ := (show ObjOk X.prog X.w H s.heap a (.dT kvs) from I.hok a _ ea);exact PySem.W.kia_one PySem.W.kitx_dict I.kIn ⟨o, h1, h2.1⟩ e (fun z => nomatch z) h
  | @ins a C dx fs ea cl ha hn htk hm =>
    cases (show u = Value.ref a from rx);obtain ⟨mA, O, _⟩ := zdo I.hok ea;obtain ⟨od, J, _⟩ := O.look;exact PySem.W.kia_one (PySem.W.kitx_own (cl.get _) cl.hd ha hn htk hm) I.kIn J e (fun z => nomatch z) h
end
end L2
namespace L2
open PySem PySem.Spec PyProof.Rows
structure Room (k : Nat) (A : Around) : Prop where
  hd : A.handled = none
  dp : A.depth + 3 * k + 5 < recursionLimit
  un : A.units + 16 * k + 200 < cLine
theorem Room.mono {j k : Nat} {A : Around} (r : Room k A) (h : j <= k) : Room j A := ⟨r.hd, by have := r.dp; omega, by have := r.un; omega⟩
theorem Room.deeper {k : Nat} {A : Around} (r : Room (k + 1) A) (env : Env) : Room k (A.deeper env) :=
  ⟨r.hd, by have := r.dp; show A.depth + 1 + 3 * k + 5 < _; omega, by have := r.un; show A.units + 3 + 16 * k + 200 < _; omega⟩
theorem Room.in1 {k : Nat} {A : Around} (r : Room (k + 1) A) : Room k A.in1 :=
  ⟨r.hd, by have := r.dp; show A.depth + 3 * k + 5 < _; omega, by have := r.un; show A.units + 1 + 16 * k + 200 < _; omega⟩
theorem Room.depth {k : Nat} {A : Around} (r : Room k A) : A.depth < recursionLimit := by have := r.dp; omega
theorem Room.units {k : Nat} {A : Around} (r : Room k A) : A.units + 64 < cLine := by have := r.un; omega
def tNil : TA := fun _ H Q => Q [] H
def tCons (ta : TE) (tr : TA) : TA := fun σ H Q => ta σ H fun x H1 => tr σ H1 fun xs H2 => Q (x :: xs) H2
section
variable {X : Cx} {e : Expr} {es : List Expr} {te : TE} {t : TA} {pos : Pos}
theorem zb : PA X [] tNil := fun _ _ _ _ H Q I h => Calls.spliced_nil ⟨[], H, I, .nil, h⟩
theorem za (ha : PE X e te) (hr : PA X es t) (hs : starEach (e :: es) X.env = (false, eval e X.env) :: starEach es X.env := by rfl) : PA X (e :: es) (tCons te t) := by
  intro pos pins s σ H Q I h;rw [hs]
  show wpAny _ _ (spliced ((false, eval e X.env) :: backTo pos (starEach es X.env))) _ _ s
  refine Calls.spliced_cons (thn (ha pins s σ H _ I h) fun u s1 ⟨x, H1, I1, r1, q1⟩ => ?_);exact thn (hr pos pins s1 σ H1 _ I1 q1) fun us s2 ⟨xs, H2, I2, r2, q2⟩ => ⟨x :: xs, H2, I2, .cons r1 r2, q2⟩
def tTup (t : TA) : TE := fun σ H Q => t σ H fun xs H1 => xs.length <= sizeLine /\ ∀ p, H1 p = none -> Q (.ref p) (upd H1 p (.tup xs))
def tLst (t : TA) : TE := fun σ H Q => t σ H fun xs H1 => xs.length <= sizeLine /\ ∀ p, H1 p = none -> Q (.ref p) (upd H1 p (.lst xs))
theorem yl {x1} (h : PA X es t) : PE X (.Tuple es x1 pos) (tTup t) := by
  intro pins s σ H Q I hq;refine wpAny_Tuple_spliced (thn (h pos pins s σ H _ I hq) fun us s1 ⟨xs, H1, I1, r, z, q⟩ => ⟨by rw [<- r.length]; exact z, ?_⟩);have hf : H1 s1.heap.objs.size = none := I1.hok.fresh (Zm _);refine ⟨.ref s1.heap.objs.size, upd H1 s1.heap.objs.size (.tup xs), I1.laid (t' := s1.toks) (fun b u e => Heap.get?_push_of_some _ e) (Zm _) ?_, rfl, q _ hf⟩;exact ⟨z, us, r, ⟨_, Heap.get?_push_size _ rfl, rfl, _, rfl, rfl⟩⟩
theorem yd (h : PA X es t) : PE X (.List es pos) (tLst t) := by
  intro pins s σ H Q I hq;refine wpAny_List_spliced (thn (h pos pins s σ H _ I hq) fun us s1 ⟨xs, H1, I1, r, z, q⟩ => ⟨by rw [<- r.length]; exact z, ?_⟩);have hf : H1 s1.heap.objs.size = none := I1.hok.fresh (Zm _);refine ⟨.ref s1.heap.objs.size, upd H1 s1.heap.objs.size (.lst xs), I1.laid (t' := s1.toks) (fun b u e => Heap.get?_push_of_some _ e) (Zm _) ?_, rfl, q _ hf⟩;exact ⟨z, us, 0, r, Heap.get?_push_size _ rfl⟩
end
abbrev Sp := List V -> Hp -> VK -> XK -> Prop
abbrev CXT := List Env -> Hp -> Shared -> XK -> Value -> Shared -> Prop
structure Env0 (P : Program) (w : World) (K : Fg) (mg : Str -> Option Value) (base : Heap) (A : Around) (outer : List Env) (s : Shared) (H : Hp) : Prop where
  frames : A.frames = some outer
  mod : Mod K mg base
  bs : ∀ b o, base.get? b = some o -> s.heap.get? b = some o /\ H b = none
  bsz : base.objs.size <= s.heap.objs.size
  funs : s.heap.FunFrames base outer
  frf : ∀ b ∈ frs outer, H b = none
  hok : HOk P w H s.heap
  bare : AllBare s.gens
def CE (outer : List Env) (P : Program) (w : World) (H : Hp) (s : Shared) (Q : VK) (u : Value) (s' : Shared) : Prop :=
  ∃ v H', s'.os = s.os /\ AllBare s'.gens /\ Un (frs outer) [] H H' s.heap s'.heap /\ HOk P w H' s'.heap /\ RelV v u /\ Q v H'
def CR (CX : CXT) (outer : List Env) (P : Program) (w : World) (H : Hp) (s : Shared) (Q : VK) (E : XK) (r : Result) (s' : Shared) : Prop :=
  match r with
  | .ok (.ret u) => CE outer P w H s Q u s'
  | .ok _ => False
  | .error e => CX outer H s E e s'
structure FnOk (P : Program) (w : World) (K : Fg) (mg : Str -> Option Value) (base : Heap) (CX : CXT) (k : Nat) (f : Addr) (fd : FuncData) (ps : List Str) (sp : Sp) : Prop where
  len : ∀ vs H Q E, sp vs H Q E -> vs.length = ps.length
  run : ∀ (A : Around) (outer : List Env) (s : Shared) (H : Hp) (args : Args) (us : List Value) (vs : List V) (Q : VK) (E : XK), Room k A -> Env0 P w K mg base A outer s H -> BindsTo s fd args (ps.zip us) -> Vals vs us -> sp vs H Q E ->
    codeAny (model P w) A (.call (.ref f) args) (CR CX outer P w H s Q E) s
theorem FnOk.mono {P : Program} {w : World} {K : Fg} {mg : Str -> Option Value} {base : Heap} {CX : CXT} {j k : Nat} {f : Addr} {fd : FuncData} {ps : List Str} {sp : Sp} (F : FnOk P w K mg base CX j f fd ps sp) (h : j <= k) :
    FnOk P w K mg base CX k f fd ps sp := ⟨F.len, fun A outer s H args us vs Q E hr => F.run A outer s H args us vs Q E (hr.mono h)⟩
theorem Env0.in1 {P : Program} {w : World} {K : Fg} {mg : Str -> Option Value} {base : Heap} {A : Around} {outer : List Env} {s : Shared} {H : Hp} (e : Env0 P w K mg base A outer s H) :
    Env0 P w K mg base A.in1 outer s H := ⟨e.frames, e.mod, e.bs, e.bsz, e.funs, e.frf, e.hok, e.bare⟩
section
variable {X : Cx} {pins : List (Addr × Obj)} {σ : St} {H : Hp} {s s' : Shared}
theorem Inv.env0 (I : Inv X pins σ H s) : Env0 X.prog X.w X.K X.mg X.base X.A X.stack s H :=
  ⟨I.ok.frames, I.ok.mod, I.bs, Zd I.ok.bsz I.sz, I.stack, I.stkFree, I.hok, I.bare⟩
theorem Inv.after {Q : VK} {u : Value} (I : Inv X pins σ H s) (h : CE X.stack X.prog X.w H s Q u s') : EP X pins σ Q u s' := by
  obtain ⟨v, H', os, bare, un, hok, r, q⟩ := h;obtain ⟨hh, g, d, t, os'⟩ := s';obtain rfl : os' = s.os := os;exact ⟨v, H', I.call (h' := hh) (g' := g) (d' := d) (t' := t) (ch := []) un hok bare (fun b z => absurd z (by simp)), r, q⟩
end
def ix (sp : Sp) (dvs : List V) (E : XK) (t : TA) : TE := fun σ H Q => t σ H fun vs H1 => sp (vs ++ dvs) H1 Q E
def Binds (K : Fg) (fd : FuncData) (ps : List Str) (ds : List Value) : Prop :=
  ∀ (s : Shared) (us : List Value), K.In s.heap -> (us ++ ds).length = ps.length -> BindsTo s fd ⟨us, []⟩ (ps.zip (us ++ ds))
theorem Binds.all {K : Fg} {fd : FuncData} {ps : List Str} (h : ∀ us : List Value, us.length = ps.length -> bindArgs fd ⟨us, []⟩ = pure (ps.zip us)) : Binds K fd ps [] := fun s us _ hl => by
  rw [Yo] at hl ⊢;exact .of_eq (h us hl)
def nw (CX : CXT) (X : Cx) (E : XK) : Prop := ∀ (pins : List (Addr × Obj)) (σ : St) (H : Hp) (s : Shared) (e : Value) (s' : Shared), Inv X pins σ H s -> CX X.stack H s E e s' -> X.xe e s'
section
variable {X : Cx} {CX : CXT} {k : Nat} {f C : Addr} {fd : FuncData} {ps : List Str} {sp : Sp} {dvs : List V} {ds : List Value} {E : XK} {x m : Str} {p pos apos : Pos} {e o : Expr} {es : List Expr} {ta : TE} {t : TA}
theorem run_fn {pins : List (Addr × Obj)} {σ : St} {H : Hp} {s : Shared} {Q : VK} {us : List Value} {vs : List V} (F : FnOk X.prog X.w X.K X.mg X.base CX k f fd ps sp) (hr : Room k X.A) (hb : Binds X.K fd ps ds) (hd : Vals dvs ds) (hx : nw CX X E)
    (I : Inv X pins σ H s) (r : Vals vs us) (h : sp (vs ++ dvs) H Q E) : wpAny (model X.prog X.w) X.A (call (.ref f) us) (EP X pins σ Q) X.xe s := by
  have r2 : Vals (vs ++ dvs) (us ++ ds) := r.append hd;have hl : (us ++ ds).length = ps.length := by rw [<- r2.length]; exact F.len _ _ _ _ h
  refine wpAny_call (codeAny_mono (F.run X.A X.stack s H ⟨us, []⟩ (us ++ ds) (vs ++ dvs) Q E hr I.env0 (hb s us I.kIn hl) r2 h) fun r s' hq => ?_)
  cases r with
  | error e => exact hx pins σ H s e s' I hq
  | ok fl =>
    cases fl with
    | ret u => exact I.after hq
    | next => exact False.elim hq
    | brk => exact False.elim hq
    | cont => exact False.elim hq
theorem cw (F : FnOk X.prog X.w X.K X.mg X.base CX k f fd ps sp) (hr : Room k X.A) (hg : Gl X x) (hm : X.mg x = some (.ref f)) (hk : PySem.W.keepIn X.K (.ref f) = true) (hb : Binds X.K fd ps ds) (hd : Vals dvs ds) (hx : nw CX X E)
    (ha : PA X (e :: es) t) (hdb : (x == ("__debug__" : Str)) = false := by decide) (he : starEach (e :: es) X.env = (false, eval e X.env) :: starEach es X.env := by rfl) (hpl : (backTo pos (starEach es X.env)).any (·.1) = false := by rfl) :
    PE X (.Call (.Name x p) (e :: es) [] pos) (ix sp dvs E t) := by
  intro pins s σ H Q I h;refine wpAny_Call_Name_kw (om I hg hm ?_ hdb);refine PySem.W.callWith_K (h₀ := X.base) I.ok.mod.kin hk (thn (ha pos pins s σ H _ I h) fun us s1 ⟨vs, H1, I1, r, q⟩ => ⟨I1.kIn, ?_⟩) he hpl;exact run_fn F hr hb hd hx I1 r q
end
section
variable {X : Cx} {CX : CXT} {k : Nat} {f C : Addr} {fd : FuncData} {ps ks : List Str} {sp : Sp} {E : XK} {x m : Str} {p pos apos kpos : Pos} {e o : Expr} {es : List Expr} {kws : List Keyword} {te ta : TE} {t tk : TA} {nm : Option Str}
variable {g : List Value -> List Value -> List Value} {gV : List V -> List V -> List V}
end
structure z3 (N P : List Str) (sc : Scope) : Prop where
  kind : sc.kind = .function
  co : sc.isCoroutine = false
  gen : sc.isGenerator = false
  nd : N.Nodup
  pre : N.take P.length = P
  par : ∀ x ∈ P, sc.names.lookup x = some .local \/ sc.names.lookup x = some .cell
  nofree : ∀ y ∈ sc.names, y.2 ≠ .free
theorem j5 {kindOf : Str -> Option NameKind} {x : Str} : ∀ {binds : List (Str × Value)} {m : Str -> Option Value}, (∀ v, (x, v) ∉ binds) -> bindL kindOf binds m x = m x
  | [], _, _ => rfl
  | (n, v) :: r, m, h => by
    unfold bindL;rw [j5 fun w hw => h w (Zv _ hw)]
    split
    . have : x ≠ n := by rintro rfl; exact h v ZA
      simp [this]
    . rfl
theorem j7 {kindOf : Str -> Option NameKind} {x : Str} : ∀ {binds : List (Str × Value)} {m : Str -> Option Value}, (∀ v, (x, v) ∉ binds) -> bindC kindOf binds m x = m x
  | [], _, _ => rfl
  | (n, v) :: r, m, h => by
    unfold bindC;rw [j7 fun w hw => h w (Zv _ hw)]
    split
    . rfl
    . have : x ≠ n := by rintro rfl; exact h v ZA
      simp [this]
theorem jx {kindOf : Str -> Option NameKind} {x : Str} {v : Value} : ∀ {P : List Str} {vs : List Value} {i : Nat} {m : Str -> Option Value}, P.Nodup -> P[i]? = some x -> vs[i]? = some v -> kindOf x = some .local ->
    bindL kindOf (P.zip vs) m x = some v
  | [], _, _, _, _, h, _, _ => by simp at h
  | _ :: _, [], _, _, _, _, h, _ => by simp at h
  | p :: P, w :: vs, 0, m, nd, h1, h2, hk => by
    simp at h1 h2; subst h1; subst h2
    show bindL kindOf ((p, w) :: P.zip vs) m p = _
    unfold bindL;rw [j5 fun v hv => (YG.mp nd).1 (YZ hv).1, if_pos hk];simp
  | p :: P, w :: vs, i + 1, m, nd, h1, h2, hk => by
    show bindL kindOf ((p, w) :: P.zip vs) m x = _
    unfold bindL;exact jx (i := i) (YG.mp nd).2 (by simpa using h1) (by simpa using h2) hk
theorem jy {kindOf : Str -> Option NameKind} {x : Str} {v : Value} : ∀ {P : List Str} {vs : List Value} {i : Nat} {m : Str -> Option Value}, P.Nodup -> P[i]? = some x -> vs[i]? = some v -> kindOf x ≠ some .local ->
    bindC kindOf (P.zip vs) m x = some v
  | [], _, _, _, _, h, _, _ => by simp at h
  | _ :: _, [], _, _, _, _, h, _ => by simp at h
  | p :: P, w :: vs, 0, m, nd, h1, h2, hk => by
    simp at h1 h2; subst h1; subst h2
    show bindC kindOf ((p, w) :: P.zip vs) m p = _
    unfold bindC;rw [j7 fun v hv => (YG.mp nd).1 (YZ hv).1, if_neg hk];simp
  | p :: P, w :: vs, i + 1, m, nd, h1, h2, hk => by
    show bindC kindOf ((p, w) :: P.zip vs) m x = _
    unfold bindC;exact jy (i := i) (YG.mp nd).2 (by simpa using h1) (by simpa using h2) hk
def start (N : List Str) (vs : List V) : St := vs.map some ++ List.replicate (N.length - vs.length) none
def cxOf (CX : CXT) (P : Program) (w : World) (K : Fg) (mg : Str -> Option Value) (base : Heap) (N : List Str) (qual : Str) (scope : Scope) (f : Addr) (cd : Value) (A : Around) (outer : List Env) (s : Shared) (H : Hp) (E : XK) : Cx where
  prog := P
  w := w
  K := K
  mg := mg
  base := base
  A := A.deeper (envOfC qual scope s.heap.objs.size f cd)
  N := N
  s₀ := s
  H₀ := H
  env := envOfC qual scope s.heap.objs.size f cd
  outer := outer
  stack := envOfC qual scope s.heap.objs.size f cd :: outer
  ex := []
  calm := true
  fn := fun _ => true
  pn := []
  xe := fun e s' => wpAny (model P w) (A.deeper (envOfC qual scope s.heap.objs.size f cd)) (leaving (envOfC qual scope s.heap.objs.size f cd) e) (fun _ s'' => CX outer H s E e s'') (fun e' s'' => CX outer H s E e' s'') s'
theorem fw {sc : Scope} {n : Nat} {x : Str} (h : sc.names.lookup x = some .cell) : ∃ c, (cellsFrom n sc.names []).lookup x = some c := by
  have q := PySem.W.cellsFrom_some sc.names n [] (.inl h);exact ZT.mp q
theorem zab {CX : CXT} {P : Program} {w : World} {K : Fg} {mg : Str -> Option Value} {base : Heap} {N ps : List Str} {qual : Str} {scope : Scope} {f : Addr} {cd : Value} {A : Around} {outer : List Env} {s s1 : Shared} {H : Hp} {E : XK} {us : List Value} {vs : List V}
    (S : z3 N ps scope) (hd : A.handled = none) (e0 : Env0 P w K mg base A outer s H) (hl : vs.length = ps.length) (r : Vals vs us)
    (x : InCallC s s.heap.objs.size (bindL (envOfC qual scope s.heap.objs.size f cd).kindOf (ps.zip us) fun _ => none) (cellsFrom (s.heap.objs.size + 1) scope.names []) (bindC (envOfC qual scope s.heap.objs.size f cd).kindOf (ps.zip us) fun _ => none) s1) :
    Inv (cxOf CX P w K mg base N qual scope f cd A outer s H E) [] (start N vs) H s1 := by
  have hpl : ps.length <= N.length := by have := congrArg List.length S.pre; rw [Zj] at this; omega
  obtain ⟨h1, tk, rfl, hk⟩ := x.done;have noA : ∀ b : Addr, b ∉ (cxOf CX P w K mg base N qual scope f cd A outer s H E).ex := fun b z => absurd (show b ∈ ([] : List Addr) from z) (by simp)
  refine ⟨⟨e0.mod, S.kind, rfl, rfl, Zm _, fun y z c h1 h2 => ?_, fun y hy => ?_, fun y c _ h => ?_, fun _ => hd, Around.frames_deeper e0.frames, .inr ⟨rfl, rfl⟩, fun b z => absurd z (noA b), e0.bs, e0.bsz, fun b _ _ => noA b, fun b z => absurd z (noA b), e0.funs, e0.frf⟩,
    rfl, e0.bare, Un.kept hk, ⟨_, x.toInCall.ns, fun i y v h1 h2 h3 => ?_⟩, fun y c h => ⟨_, x.cell y c h⟩, e0.hok.fresh (Zm _), fun y c h => ?_, fun p hp => absurd (show p ∈ ([] : List (Addr × Obj)) from hp) (by simp), e0.hok.kept hk, ?_⟩
  . exact name_of_addr x.apart (PySem.mem_of_lookup h1) (PySem.mem_of_lookup h2)
  . have hy : scope.names.lookup y = some .cell \/ scope.names.lookup y = some .free := hy
    rcases hy with hy | hy
    . exact fw hy
    . exact absurd rfl (S.nofree _ (PySem.mem_of_lookup hy))
  . exact Nat.le_of_lt (x.above y c (PySem.mem_of_lookup h))
  . have hi : i < vs.length := by
      unfold start at h2
      by_cases hi : i < vs.length
      . exact hi
      . rw [Zf (by simpa using hi)] at h2
        rw [Yg] at h2
        split at h2 <;> cases h2
    have ha : vs[i]? = some v := by
      unfold start at h2;rw [Zg (by simpa using hi), Ze] at h2
      cases e : vs[i]? with
      | none => rw [e] at h2; cases h2
      | some a => rw [e] at h2; cases h2; rfl
    obtain ⟨u, hu, rv⟩ := r.get ha
    have hp : ps[i]? = some y := by
      rw [<- S.pre, ZU (by omega)]; exact h1
    have ndP : ps.Nodup := by rw [<- S.pre]; exact S.nd.sublist (YV _ _)
    refine ⟨u, rv, ?_⟩
    rcases S.par y (Zi hp) with k | k
    . exact .inl ⟨k, jx ndP hp hu k⟩
    . obtain ⟨c, e⟩ := fw (n := s.heap.objs.size + 1) k
      refine .inr ⟨.inl k, c, e, ?_⟩;have q := x.cell y c e;rw [jy ndP hp hu (by show scope.names.lookup y ≠ _; rw [k]; decide)] at q;exact q
  . exact e0.hok.fresh (Nat.le_of_lt (x.above y c (PySem.mem_of_lookup h)))
  . unfold start
    show _ = N.length
    rw [Zo, Za, ZI];omega
theorem fn_of {CX : CXT} {P : Program} {w : World} {K : Fg} {mg : Str -> Option Value} {base : Heap} {k : Nat} {f : Addr} {name qual : Str} {params : Arguments} {body : List Stmt} {scope : Scope} {dV kV doc pm cdv ct oc : Value} {an od : Option Addr}
    {osl : Array (Option Value)} {N ps : List Str} {sp : Sp} (lk : K.lookup f = some ⟨oc, od, .func (PySem.W.fnOf name qual params body scope dV kV doc pm an cdv ct), osl⟩) (hcd : PySem.W.codeIn K cdv qual = true) (S : z3 N ps scope)
    (len : ∀ vs H Q E, sp vs H Q E -> vs.length = ps.length)
    (hbody : ∀ (A : Around) (outer : List Env) (s : Shared) (H : Hp) (vs : List V) (Q : VK) (E : XK), Room k (A.deeper (envOfC qual scope s.heap.objs.size f cdv)) -> sp vs H Q E ->
      ∃ t, PSs (cxOf CX P w K mg base N qual scope f cdv A outer s H E) body t /\ t { nx := fun _ H' => Q .non H', rt := Q } (start N vs) H) :
    FnOk P w K mg base CX (k + 1) f (PySem.W.fnOf name qual params body scope dV kV doc pm an cdv ct) ps sp := by
  refine ⟨len, fun A outer s H args us vs Q E hr e0 hb r hsp => ?_⟩;have hl := len _ _ _ _ hsp;have KX : K.In s.heap := e0.mod.kin.keeps fun b o e => (e0.bs b o e).1
  have lim : s.heap.NoLimit := e0.mod.nolimit.keeps fun b o e => (e0.bs b o e).1
  have hkind : ∀ y ∈ ps.zip us, scope.names.lookup y.1 = some .local \/ (scope.names.lookup y.1 = some .cell /\ ((cellsFrom (s.heap.objs.size + 1) scope.names []).lookup y.1).isSome = true) := fun ⟨n, v⟩ hy => by
    rcases S.par n (YZ hy).1 with q | q
    . exact .inl q
    . exact .inr ⟨q, PySem.W.cellsFrom_some _ _ _ (.inl q)⟩
  refine codeAny_call_function hr.depth (KX _ _ lk) rfl S.co S.gen rfl (PySem.W.codeRec_of KX hcd) (hb _ _ _ _ ?_);refine wpAny_newFunctionEnv_cells S.kind hkind fun env he s1 x => ?_
  subst he;refine ⟨lim.keeps x.toInCall.keep, codeAny_func ?_⟩;obtain ⟨t, ht, hq⟩ := hbody A outer s H vs Q E (hr.deeper _) hsp;have I : Inv (cxOf CX P w K mg base N qual scope f cdv A outer s H E) [] (start N vs) H s1 := zab S hr.hd e0 hl r x;refine wpAny_mono (ht [] s1 (start N vs) H _ I hq) (fun fl s' hs => ?_) fun e s' hs => hs
  have fin : ∀ {σ' : St} {H' : Hp} {v : V} {u : Value}, Inv (cxOf CX P w K mg base N qual scope f cdv A outer s H E) [] σ' H' s' -> RelV v u -> Q v H' -> CE outer P w H s Q u s' :=
    fun {σ' H' v u} J rv q => ⟨v, H', J.os, J.bare, J.base, J.hok, rv, q⟩
  cases fl with
  | ret u =>
    obtain ⟨v, σ', H', J, rv, q⟩ := hs;exact fin J rv q
  | next =>
    obtain ⟨σ', H', J, q⟩ := hs;exact fin (v := V.non) (u := Value.none) J rfl q
  | brk =>
    obtain ⟨_, _, _, q⟩ := hs;exact False.elim q
  | cont =>
    obtain ⟨_, _, _, q⟩ := hs;exact False.elim q
end L2
namespace L2
open PySem PySem.Spec PyProof.Rows
section
variable {X : Cx} {x : Str} {p pos : Pos} {e : Expr} {es : List Expr} {t : TA} {id T : String} {r : List V -> Hp -> VK -> Prop}
def tCB (r : List V -> Hp -> VK -> Prop) (t : TA) : TE := fun σ H Q => t σ H fun vs H1 => r vs H1 Q
theorem zq (hc : CallR X (.builtin id) r) (hg : Gl X x) (hm : X.mg x = none) (hv : bootBuiltins x = some (.builtin id)) (ha : PA X (e :: es) t) (hn : x ≠ "__name__" := by decide) (hdb : (x == ("__debug__" : Str)) = false := by decide)
    (he : starEach (e :: es) X.env = (false, eval e X.env) :: starEach es X.env := by rfl) (hpl : (backTo pos (starEach es X.env)).any (·.1) = false := by rfl) : PE X (.Call (.Name x p) (e :: es) [] pos) (tCB r t) := by
  intro pins s σ H Q I h;refine wpAny_Call_Name_kw (oq I hg hm hv ?_ hn hdb);exact PyProof.Rows.callWith_builtin1 (thn (ha pos pins s σ H _ I h) fun us s1 ⟨vs, H1, I1, r1, q1⟩ => hc pins s1 σ H1 vs us Q I1 r1 q1) he hpl
theorem y8 (hc : CallR X (.type T) r) (hg : Gl X x) (hm : X.mg x = none) (hv : bootBuiltins x = some (.type T)) (ha : PA X (e :: es) t) (hn : x ≠ "__name__" := by decide) (hdb : (x == ("__debug__" : Str)) = false := by decide)
    (he : starEach (e :: es) X.env = (false, eval e X.env) :: starEach es X.env := by rfl) (hpl : (backTo pos (starEach es X.env)).any (·.1) = false := by rfl) : PE X (.Call (.Name x p) (e :: es) [] pos) (tCB r t) := by
  intro pins s σ H Q I h;refine wpAny_Call_Name_kw (oq I hg hm hv ?_ hn hdb);exact PyProof.Rows.callWith_type1 (thn (ha pos pins s σ H _ I h) fun us s1 ⟨vs, H1, I1, r1, q1⟩ => hc pins s1 σ H1 vs us Q I1 r1 q1) he hpl
end
end L2
namespace HT
open PySem PyProof.Rows
section
open PySem.SeqAt
open PySem.AutoSeq1 (wpAny_loadPart')
open PySem.MeetsSeq PySem.MeetsSeq2 PySem.MeetsSeq3
end
section
variable {prog : Program} {w : World} {A : Around} {E : Value -> Shared -> Prop} {s : Shared}
theorem cat_tup {t b : Addr} {vs ws : List Value} {Q : Value -> Shared -> Prop} (ht : IsTup s.heap t vs.toArray) (hb : IsTup s.heap b ws.toArray) (hv : vs ≠ [])
    (h1 : ws = [] -> Q (.ref t) s) (h2 : ws ≠ [] -> Q (.ref s.heap.objs.size) { s with heap := s.heap.push { cls := .type "tuple", data := .seq (vs ++ ws).toArray } })
    (hsz : vs.length + ws.length <= sizeLine) : wpAny (model prog w) A (binaryOp .Add (.ref t) (.ref b)) Q E s := by
  obtain ⟨⟨cls, dd, data, sl⟩, ho, hc, n, hd⟩ := id ht;obtain ⟨⟨cls2, dd2, data2, sl2⟩, ho2, hc2, n2, hd2⟩ := id hb;simp only at hc hd hc2 hd2;subst hc hd hc2 hd2;have e : vs.toArray ++ ws.toArray = (vs ++ ws).toArray := by simp
  by_cases hw : ws = []
  . exact concat_meets ⟨_, ho, rfl⟩ ⟨_, ho2, rfl⟩ noFill_tuple_add seq_tuple_add PySem.F.slot_tuple_add PySem.F.entry_tuple_add (PySem.F.args_tuple_add_2 _ _)
      (tuple_addW1 t b vs.toArray ws.toArray n n2 dd dd2 sl sl2 (by simpa using hv) (by simp [hw])) ⟨ho, ho2, h1 hw⟩
  . refine concat_meets ⟨_, ho, rfl⟩ ⟨_, ho2, rfl⟩ noFill_tuple_add seq_tuple_add PySem.F.slot_tuple_add PySem.F.entry_tuple_add (PySem.F.args_tuple_add_2 _ _)
      (tuple_addW2 t b vs.toArray ws.toArray n n2 dd dd2 sl sl2 (by simpa using hv) (by simpa using hw) (by rw [Zr, Zr]; exact hsz)) ⟨ho, ho2, ?_⟩
    rw [e];exact h2 hw
def sIx (n d : Nat) : Option Int -> Nat
  | none => d
  | some v => if v < 0 then (v + (n : Int)).toNat else min v.toNat n
theorem sIx_none (n d : Nat) : sIx n d none = d := rfl
theorem sIx_nat (n d k : Nat) : sIx n d (some (k : Int)) = min k n := by
  show (if (k : Int) < 0 then ((k : Int) + (n : Int)).toNat else min (k : Int).toNat n) = min k n
  rw [if_neg (by omega), Zw]
theorem sIx_le (n d : Nat) (hd : d <= n) (o : Option Int) : sIx n d o <= n := by
  cases o with
  | none => exact hd
  | some v =>
    show (if v < 0 then (v + (n : Int)).toNat else min v.toNat n) <= n
    by_cases hv : v < 0
    . rw [if_pos hv]; omega
    . rw [if_neg hv]; exact ZB _ _
theorem d8 (v : Int) (n d : Nat) : (if v < 0 then max (v + (n : Int)) 0 else min v (n : Int)) = ((sIx n d (some v) : Nat) : Int) := by
  show (if v < 0 then max (v + (n : Int)) 0 else min v (n : Int)) = (((if v < 0 then (v + (n : Int)).toNat else min v.toNat n) : Nat) : Int)
  by_cases hv : v < 0
  . simp only [if_pos hv]; omega
  . simp only [if_neg hv]; omega
theorem bo (lo hi : Option Int) (n : Nat) : Builtin.Slice.sliceAdjust lo hi 1 (n : Int) = (((sIx n 0 lo : Nat) : Int), ((sIx n n hi : Nat) : Int)) := by
  have h1 : ¬ ((1 : Int) < 0) := by omega
  unfold Builtin.Slice.sliceAdjust;simp only [h1, if_false];refine Prod.ext ?_ ?_
  . cases lo with
    | none => rfl
    | some v => exact d8 v n 0
  . cases hi with
    | none => rfl
    | some v => exact d8 v n n
theorem bu (i j : Nat) : Builtin.Slice.slicePlaces (i : Int) (j : Int) 1 = j - i := by
  unfold Builtin.Slice.slicePlaces;have h1 : (1 : Int) > 0 := by omega
  simp only [h1, if_true, Int.ediv_one]
  split <;> omega
theorem k9 {v : Value} {o : Option Int} {Q : Option Int -> Shared -> Prop} (p : IsPart v o) (h : Q o s) : wpAny (model prog w) A (Builtin.Slice.slicePartIndex v) Q E s := by
  cases p with
  | none => exact slicePart_none h
  | int i t => exact slicePart_int h
theorem qw {sl : Addr} {vl vu : Value} {lo hi : Option Int} {n : Nat} {Q : Int × Int × Nat -> Shared -> Prop} (hs : s.heap.IsSliceOf sl vl vu .none) (pl : IsPart vl lo) (pu : IsPart vu hi)
    (h : Q (((sIx n 0 lo : Nat) : Int), 1, sIx n n hi - sIx n 0 lo) s) : wpAny (model prog w) A (Builtin.Slice.sliceApplied (.ref sl) (pure (n : Int))) Q E s := by
  obtain ⟨os, hos, hcs, hds⟩ := id hs;unfold Builtin.Slice.sliceApplied Builtin.Slice.sliceFields;refine wpAny_bind (wpAny_bind (wpAny_field hos hds (x := vl) rfl (wpAny_bind (wpAny_field hos hds (x := vu) rfl (wpAny_bind (wpAny_field hos hds (x := .none) rfl (wpAny_pure ?_)))))));refine wpAny_bind (slicePart_none ?_)
  show wpAny _ _ (if ((1 : Int) == 0) = true then _ else _) _ _ s
  rw [if_neg (by decide)];refine wpAny_bind (k9 pl (wpAny_bind (k9 pu (wpAny_bind (wpAny_pure ?_)))))
  show wpAny _ _ (match Builtin.Slice.sliceAdjust lo hi 1 (n : Int) with | (lo, hi) => pure (lo, (1 : Int), Builtin.Slice.slicePlaces lo hi 1)) _ _ s
  rw [bo lo hi n]
  show wpAny _ _ (pure (((sIx n 0 lo : Nat) : Int), (1 : Int), Builtin.Slice.slicePlaces ((sIx n 0 lo : Nat) : Int) ((sIx n n hi : Nat) : Int) 1)) _ _ s
  rw [bu];exact wpAny_pure h
theorem zbp (xs : Array Value) (i k : Nat) : ((List.range k).filterMap fun (m : Nat) => xs[((i : Int) + (m : Int) * 1).toNat]?).toArray = ((xs.toList.drop i).take k).toArray := by
  have e : (fun (m : Nat) => xs[((i : Int) + (m : Int) * 1).toNat]?) = fun m => xs[i + m]? := by
    funext m
    have : ((i : Int) + (m : Int) * 1).toNat = i + m := by omega
    rw [this]
  rw [e];have := pick_run xs i k;rw [List.filterMap_map] at this;have e2 : ((fun x => xs[x]?) ∘ fun x => i + x) = fun m => xs[i + m]? := rfl
  rw [e2] at this;rw [this]
theorem getItem_tuple_cut {t sl : Addr} {items : Array Value} {vl vu : Value} {lo hi : Option Int} {Q : Value -> Shared -> Prop} (ht : IsTup s.heap t items) (hs : s.heap.IsSliceOf sl vl vu .none) (pl : IsPart vl lo) (pu : IsPart vu hi)
    (hw : ¬ (sIx items.size 0 lo = 0 /\ sIx items.size items.size hi = items.size))
    (h : Q (.ref s.heap.objs.size) { s with heap := s.heap.push { cls := .type "tuple", data := .seq ((items.toList.drop (sIx items.size 0 lo)).take (sIx items.size items.size hi - sIx items.size 0 lo)).toArray } })
    (hsz : items.size <= sizeLine) : wpAny (model prog w) A (getItem (.ref t) (.ref sl)) Q E s := by
  have htake : sizeOk (.seq ((items.toList.drop (sIx items.size 0 lo)).take (sIx items.size items.size hi - sIx items.size 0 lo)).toArray) := by
    show ((items.toList.drop (sIx items.size 0 lo)).take (sIx items.size items.size hi - sIx items.size 0 lo)).toArray.size <= sizeLine
    rw [Zr, Zj, ZO, ZW];omega
  have hj : sIx items.size items.size hi <= items.size := sIx_le _ _ (Zm _) hi;obtain ⟨os, hos, hcs, hds⟩ := id hs;have hTs : s.TypeIs (.ref sl) "slice" := ⟨os, hos, hcs⟩;unfold getItem
  try with_reducible refine wpAny_holding ?_
  first | refine wpAny_bind (wpAny_pure ?_) | skip
  refine wpAny_bind (wpAny_sequenceKey ht.typeIs (by decide) ?_)
  refine wpAny_bind (wpAny_callSpecial?_slot (name := Str.ofString "__getitem__") ht.typeIs PyProof.Rows.slot_tuple_getitem
    (wpAny_call_entry PyProof.Rows.slot_tuple_getitem ht.typeIs entry_tuple_getitem ?_ (args_tuple_getitem _ _)))
  show wpAny _ _ (Builtin.Tuple.tupleItemsOf (.ref t) >>= _) _ _ s
  refine wpAny_bind (tupleItemsOf_ ht ?_);refine wpAny_bind (wpAny_typeOf hTs ?_);rw [if_pos (by decide)];refine wpAny_bind (qw hs pl pu ?_)
  have hno : ¬ ((((sIx items.size 0 lo : Nat) : Int) == 0 && (1 : Int) == 1 && (sIx items.size items.size hi - sIx items.size 0 lo) == items.size) = true) := by
    intro q;rw [Bool.and_eq_true, Bool.and_eq_true] at q;have q1 : ((sIx items.size 0 lo : Nat) : Int) = 0 := eq_of_beq q.1.1;have q2 : sIx items.size items.size hi - sIx items.size 0 lo = items.size := eq_of_beq q.2;exact hw ⟨by omega, by omega⟩
  show wpAny _ _ (if (((sIx items.size 0 lo : Nat) : Int) == 0 && (1 : Int) == 1 && (sIx items.size items.size hi - sIx items.size 0 lo) == items.size) = true then _ else _) _ _ s
  rw [if_neg hno, zbp]
  first
    | exact wpAny_bind (m := Builtin.Tuple.tupleExact _) (wpAny_newObj_type (wpAny_pure ⟨_, rfl, wpAny_pure h⟩) htake)
    | exact wpAny_bind (m := Builtin.Tuple.tupleExact _) (wpAny_newObj_type (wpAny_bind (wpAny_pure (wpAny_pure ⟨_, rfl, wpAny_pure h⟩))) htake)
    | exact wpAny_bind (wpAny_bind (m := Builtin.Tuple.tupleExact _) (wpAny_newObj_type (wpAny_pure (wpAny_pure ⟨_, rfl, wpAny_pure h⟩)) htake))
    | exact wpAny_bind (wpAny_bind (m := Builtin.Tuple.tupleExact _) (wpAny_newObj_type (wpAny_pure ⟨_, rfl, wpAny_pure h⟩) htake))
end
end HT
namespace L2
open PySem PySem.Spec PyProof.Rows
abbrev TO := St -> Hp -> (Option Int -> Hp -> Prop) -> Prop
def PO (X : Cx) (e : Option Expr) (t : TO) : Prop :=
  ∀ (pins : List (Addr × Obj)) (s : Shared) (σ : St) (H : Hp) (Q : Option Int -> Hp -> Prop), Inv X pins σ H s -> t σ H Q ->
    wpAny (model X.prog X.w) X.A (evalPart e X.env) (fun u s' => ∃ o H', Inv X pins σ H' s' /\ IsPart u o /\ Q o H') X.xe s
def cr : TO := fun _ H Q => Q none H
def tPart (t : TE) : TO := fun σ H Q => t σ H fun x H1 => ∃ i, x = .int i /\ Q (some i) H1
theorem au {ns : List Int} : ∀ {us : List Value}, Vals (ns.map V.int) us -> IntsAre us ns := by
  induction ns with
  | nil => intro us r; rw [List.map_nil] at r; cases r; exact .nil
  | cons n ns ih =>
    intro us r;rw [ZM] at r
    cases r with
    | cons r1 r2 =>
      obtain ⟨t, e⟩ := r1;subst e;exact .cons n t (ih r2)
section
variable {X : Cx} {e : Expr} {te : TE} {lo hi : Option Expr} {tl th : TO} {pos p2 : Pos}
theorem xa : PO X none cr := by
  intro pins s σ H Q I h;rw [evalPart_none];exact wpAny_pure ⟨none, H, I, .none, h⟩
theorem yw (h : PE X e te) : PO X (some e) (tPart te) := by
  intro pins s σ H Q I hw;rw [evalPart_some];refine thn (h pins s σ H _ I hw) fun u s1 ⟨x, H1, I1, r1, q1⟩ => ?_
  obtain ⟨i, rfl, q⟩ := q1;obtain ⟨t, rfl⟩ := r1;exact ⟨some i, H1, I1, .int i t, q⟩
def SlR (X : Cx) (r : V -> Option Int -> Option Int -> Hp -> VK -> Prop) : Prop :=
  ∀ (pins : List (Addr × Obj)) (s : Shared) (σ : St) (H : Hp) (x : V) (v vl vu : Value) (lo hi : Option Int) (sl : Addr) (Q : VK), Inv X pins σ H s -> RelV x v -> s.heap.IsSliceOf sl vl vu .none -> IsPart vl lo -> IsPart vu hi -> r x lo hi H Q ->
    ∃ T id, typeLookup (.type T) "__getitem__" = pure (some (.builtin id)) /\ s.TypeIs v T /\ wpAny (model X.prog X.w) X.A (getItem v (.ref sl)) (EP X pins σ Q) X.xe s
theorem SlR.or {r r' : V -> Option Int -> Option Int -> Hp -> VK -> Prop} (h : SlR X r) (h' : SlR X r') : SlR X (fun x lo hi H Q => r x lo hi H Q \/ r' x lo hi H Q) := by
  intro pins s σ H x v vl vu lo hi sl Q I rx hs pl pu q
  rcases q with q | q
  . exact h pins s σ H x v vl vu lo hi sl Q I rx hs pl pu q
  . exact h' pins s σ H x v vl vu lo hi sl Q I rx hs pl pu q
def tSl (r : V -> Option Int -> Option Int -> Hp -> VK -> Prop) (te : TE) (tl th : TO) : TE := fun σ H Q => te σ H fun x H1 => tl σ H1 fun l H2 => th σ H2 fun u H3 => r x l u H3 Q
theorem yu {r : V -> Option Int -> Option Int -> Hp -> VK -> Prop} (hr : SlR X r) (he : PE X e te) (hl : PO X lo tl) (hu : PO X hi th) : PE X (.Subscript e (.Slice lo hi none p2) pos) (tSl r te tl th) := by
  intro pins s σ H Q I h;refine Subscript_ (thn (he pins s σ H _ I h) fun v s1 ⟨x, H1, I1, r1, q1⟩ => ?_);refine wpAny_Slice (thn (hl pins s1 σ H1 _ I1 q1) fun vl s2 ⟨l, H2, I2, pl, q2⟩ => thn (hu pins s2 σ H2 _ I2 q2) fun vu s3 ⟨u, H3, I3, pu, q3⟩ => ?_);rw [evalPart_none];refine wpAny_pure ?_;have I4 : Inv X pins σ H3 { s3 with heap := s3.heap.push { cls := .type "slice", data := .fields #[vl, vu, .none] } } := I3.kept (t' := s3.toks) fun b ob q => Heap.get?_push_of_some _ q
  obtain ⟨T, id, hT, ht, hg⟩ := hr pins { s3 with heap := s3.heap.push { cls := .type "slice", data := .fields #[vl, vu, .none] } } σ H3 x v vl vu l u s3.heap.objs.size Q I4 r1 (Heap.IsSliceOf.new ..) pl pu q3
  show wpAny (model X.prog X.w) X.A (subscriptTail e (.Slice lo hi none p2) v (.ref s3.heap.objs.size)) (EP X pins σ Q) X.xe { s3 with heap := s3.heap.push { cls := .type "slice", data := .fields #[vl, vu, .none] } }
  exact tail_any (ops := [.ref s3.heap.objs.size, v]) ht hT hg (by with_unfolding_all rfl)
def cutV (xs : List V) (lo hi : Option Int) : List V := (xs.drop (HT.sIx xs.length 0 lo)).take (HT.sIx xs.length xs.length hi - HT.sIx xs.length 0 lo)
theorem la (xs : List V) (lo hi : Option Int) : (cutV xs lo hi).length <= xs.length := by
  unfold cutV;rw [Zj, ZO];omega
def rSlT (K : Fg) : V -> Option Int -> Option Int -> Hp -> VK -> Prop := fun x lo hi H Q => ∃ a xs, x = .ref a /\ SqT K H a xs /\
  ¬ (HT.sIx xs.length 0 lo = 0 /\ HT.sIx xs.length xs.length hi = xs.length) /\ ∀ p, H p = none -> Q (.ref p) (upd H p (.tup (cutV xs lo hi)))
theorem sl_tup : SlR X (rSlT X.K) := by
  intro pins s σ H x v vl vu lo hi sl Q I rx hs pl pu h;obtain ⟨a, xs, rfl, hx, hw, q⟩ := h;cases rx;obtain ⟨its, r, ht, hz⟩ := I.tuple hx;have hlen : its.toArray.size = xs.length := by rw [Zr]; exact r.length.symm
  refine ⟨"tuple", _, PyProof.Rows.slot_tuple_getitem.lookup, ht.typeIs, ?_⟩;refine HT.getItem_tuple_cut ht hs pl pu (by rw [hlen]; exact hw) ?_ (by rw [hlen]; exact hz);rw [hlen];refine ⟨.ref s.heap.objs.size, _, I.laid (t' := s.toks) (o := .tup (cutV xs lo hi)) (fun b ob q => Heap.get?_push_of_some _ q) (Zm _) ?_, rfl, q _ (I.hok.fresh (Zm _))⟩;exact ⟨Zd (la xs lo hi) hz, _, (r.drop (HT.sIx xs.length 0 lo)).take (HT.sIx xs.length xs.length hi - HT.sIx xs.length 0 lo), IsTupD.new _ _⟩
def rCatT (K : Fg) : R2 := fun x y H Q => ∃ a b xs ys, x = .ref a /\ y = .ref b /\ SqT K H a xs /\ SqT K H b ys /\ xs ≠ [] /\ xs.length + ys.length <= sizeLine /\
  (ys = [] -> Q (.ref a) H) /\ (ys ≠ [] -> ∀ p, H p = none -> Q (.ref p) (upd H p (.tup (xs ++ ys))))
theorem Vals.nil_iff {xs : List V} {us : List Value} (r : Vals xs us) : us = [] ↔ xs = [] := by
  cases r with
  | nil => simp
  | cons _ _ => simp
theorem zdj : OpR X (binaryOp .Add) (rCatT X.K) := by
  intro pins s σ H x y v u Q I rx ry h;obtain ⟨a, b, xs, ys, rfl, rfl, ha, hb, hx, hz, q1, q2⟩ := h;cases rx;cases ry;obtain ⟨its, r1, p1, _⟩ := I.tuple ha;obtain ⟨its2, r2, p2, _⟩ := I.tuple hb;refine HT.cat_tup p1 p2 (fun z => hx (r1.nil_iff.mp z)) (fun z => ⟨.ref a, H, I, rfl, q1 (r2.nil_iff.mp z)⟩) (fun z => ?_) (by rw [<- r1.length, <- r2.length]; exact hz);refine ⟨.ref s.heap.objs.size, _, I.laid (t' := s.toks) (o := .tup (xs ++ ys)) (fun b ob q => Heap.get?_push_of_some _ q) (Zm _) ?_, rfl, q2 (fun w => z (r2.nil_iff.mpr w)) _ (I.hok.fresh (Zm _))⟩;exact ⟨by rw [Zo]; exact hz, _, r1.append r2, IsTupD.new _ _⟩
end
end L2
namespace L2
open PySem PySem.Spec PyProof.Rows
def ixN (n : Nat) (i : Int) : Option Nat := if 0 <= i then (if i < n then some i.toNat else none) else if -(n : Int) <= i then some (i + n).toNat else none
def atI {α : Type} (xs : List α) (i : Int) : Option α := (ixN xs.length i).bind fun j => xs[j]?
theorem dz {n : Nat} {i : Int} {j : Nat} (h : ixN n i = some j) : seqIndex? i n = some j /\ j < n /\ -(n : Int) <= i /\ i < n := by
  unfold ixN at h
  by_cases h0 : 0 <= i
  . rw [if_pos h0] at h
    by_cases h1 : i < n
    . rw [if_pos h1] at h
      have e : i.toNat = j := Option.some.inj h;exact ⟨by rw [seqIndex_of h0 h1, e], by omega, by omega, h1⟩
    . rw [if_neg h1] at h; cases h
  . rw [if_neg h0] at h
    by_cases h1 : -(n : Int) <= i
    . rw [if_pos h1] at h
      have e : (i + n).toNat = j := Option.some.inj h;exact ⟨by rw [seqIndex_neg (by omega) h1, e], by omega, h1, by omega⟩
    . rw [if_neg h1] at h; cases h
theorem jw {α : Type} {xs : List α} {i : Int} {v : α} (h : atI xs i = some v) : ∃ j, seqIndex? i xs.length = some j /\ xs[j]? = some v /\ j < xs.length /\ -(xs.length : Int) <= i /\ i < xs.length := by
  unfold atI at h
  cases e : ixN xs.length i with
  | none => rw [e] at h; cases h
  | some j =>
    rw [e] at h;obtain ⟨h1, h2, h3, h4⟩ := dz e;exact ⟨j, h1, h, h2, h3, h4⟩
theorem zn {α : Type} {xs : List α} {j : Nat} {v : α} (h : xs[j]? = some v) : atI xs (j : Int) = some v := by
  have hj : j < xs.length := (Zc.mp h).1
  have e : ixN xs.length (j : Int) = some j := by
    unfold ixN;rw [if_pos (by omega), if_pos (by omega)]; simp
  unfold atI; rw [e]; exact h
def zc4 (b : Expr) : Prop := ∀ o i, subscripted b false o i = operate [o, i] (getItem o i)
def IxR (X : Cx) (r : R2) : Prop :=
  ∀ (value slice : Expr) (pins : List (Addr × Obj)) (s : Shared) (σ : St) (H : Hp) (x y : V) (v u : Value) (Q : VK), Inv X pins σ H s -> RelV x v -> RelV y u -> r x y H Q ->
    subscripted slice false v u = operate [v, u] (getItem v u) -> wpAny (model X.prog X.w) X.A (subscriptTail value slice v u) (EP X pins σ Q) X.xe s
def MtR (X : Cx) (id : String) (r : V -> List V -> Hp -> VK -> Prop) : Prop :=
  ∀ (pins : List (Addr × Obj)) (s : Shared) (σ : St) (H : Hp) (x : V) (xs : List V) (v : Value) (us : List Value) (Q : VK), Inv X pins σ H s -> RelV x v -> Vals xs us -> r x xs H Q ->
    wpAny (model X.prog X.w) X.A (call (.builtin id) (v :: us)) (EP X pins σ Q) X.xe s
section
variable {X : Cx} {a b : Expr} {ta tb : TE} {pos : Pos}
theorem IxR.or {r r' : R2} (h : IxR X r) (h' : IxR X r') : IxR X (fun x y H Q => r x y H Q \/ r' x y H Q) := by
  intro value slice pins s σ H x y v u Q I rx ry q hs
  rcases q with q | q
  . exact h value slice pins s σ H x y v u Q I rx ry q hs
  . exact h' value slice pins s σ H x y v u Q I rx ry q hs
theorem MtR.or {id : String} {r r' : V -> List V -> Hp -> VK -> Prop} (h : MtR X id r) (h' : MtR X id r') : MtR X id (fun x xs H Q => r x xs H Q \/ r' x xs H Q) := by
  intro pins s σ H x xs v us Q I rx rs q
  rcases q with q | q
  . exact h pins s σ H x xs v us Q I rx rs q
  . exact h' pins s σ H x xs v us Q I rx rs q
theorem zr {r : R2} (hr : IxR X r) (ha : PE X a ta) (hb : PE X b tb) (hs : zc4 b) : PE X (.Subscript a b pos) (tOp r ta tb) := by
  intro pins s σ H Q I h;exact Subscript_ (binT ha hb I h fun v u s2 x y H2 I2 rx ry q => hr a b pins s2 σ H2 x y v u Q I2 rx ry q (hs _ _))
def rIxL (K : Fg) : R2 := fun x y H Q => ∃ p xs i v, x = .ref p /\ y = .int i /\ SqL K H p xs /\ atI xs i = some v /\ Q v H
def rIxT (K : Fg) : R2 := fun x y H Q => ∃ p xs i v, x = .ref p /\ y = .int i /\ SqT K H p xs /\ atI xs i = some v /\ Q v H
def rIxS : R2 := fun x y H Q => ∃ z i c, x = .str z /\ y = .int i /\ z.length <= sizeLine /\ atI z.cps.toList i = some c /\ Q (.str ⟨#[c]⟩) H
theorem z4 : IxR X (rIxL X.K) := by
  intro value slice pins s σ H x y v u Q I rx ry h hs;obtain ⟨p, xs, i, z, rfl, rfl, hq, he, q⟩ := h;cases rx;obtain ⟨t, rfl⟩ := ry;obtain ⟨its, r, pl, hz⟩ := I.list hq;obtain ⟨j, h1, h2, h3, h4, h5⟩ := jw he;obtain ⟨w, ew, rw'⟩ := r.get h2;have hl := r.length;have hn := qi;have fin : EP X pins σ Q w s := ⟨z, H, I, rw', q⟩
  by_cases h0 : 0 <= i
  . have hj : i.toNat = j := by
      rw [seqIndex_of h0 h5] at h1;exact Option.some.inj h1
    exact item_listR pl.isList h0 (by omega) (by rw [hj]; simpa using ew) fin hs
  . have hj : (i + (its.toArray.size : Int)).toNat = j := by
      rw [seqIndex_neg (by omega) h4] at h1;rw [Zr, <- hl];exact Option.some.inj h1
    exact subscriptTail_builtinR (x := w) pl.isList.typeIs slot_list_getitem.lookup
      (wpAny_getItem_list_neg (Q := fun r s' => r = w /\ EP X pins σ Q r s') pl.isList (by omega) (by rw [Zr] <;> omega) (by omega) (by rw [hj]; simpa using ew) ⟨rfl, fin⟩) hs
theorem z9 : IxR X (rIxT X.K) := by
  intro value slice pins s σ H x y v u Q I rx ry h hs;obtain ⟨p, xs, i, z, rfl, rfl, hq, he, q⟩ := h;cases rx;obtain ⟨t, rfl⟩ := ry;obtain ⟨its, r, pl, hz⟩ := I.tuple hq;obtain ⟨j, h1, h2, h3, h4, h5⟩ := jw he;obtain ⟨w, ew, rw'⟩ := r.get h2;have hl := r.length;have hn := qi;have fin : EP X pins σ Q w s := ⟨z, H, I, rw', q⟩
  exact subscriptTail_builtinR (x := w) pl.typeIs slot_tuple_getitem.lookup
    (getItem_tuple (j := j) (Q := fun r s' => r = w /\ EP X pins σ Q r s') pl (by omega) (by omega) (by rw [Zr, <- hl]; exact h1) (by simpa using ew) ⟨rfl, fin⟩) hs
theorem eo : IxR X rIxS := by
  intro value slice pins s σ H x y v u Q I rx ry h hs;obtain ⟨z, i, c, rfl, rfl, hz, he, q⟩ := h;obtain ⟨t, rfl⟩ := rx;obtain ⟨t', rfl⟩ := ry;obtain ⟨j, h1, h2, h3, h4, h5⟩ := jw he;have hl : z.cps.toList.length = z.length := by simp [Str.length]
  rw [hl] at h1 h4 h5;have hn := qi
  exact tail_any (typeIs_str s z t) slot_str_getitem.lookup (getItem_str (c := c) (by
    have e1 : decide (i < -(2 ^ 63 : Int)) = false := decide_eq_false (by omega);have e2 : decide (i ≥ 2 ^ 63) = false := decide_eq_false (by omega)
    rw [e1, e2, Bool.or_false]) (by rw [h1]; simpa using h2) ⟨.str ⟨#[c]⟩, H, I.tok _, ⟨_, rfl⟩, q⟩) hs
theorem bt (its : List Value) (n j : Nat) (u : Value) : Obj.mapSeq (·.setIfInBounds j u) { cls := .type "list", data := .seq its.toArray n } = { cls := .type "list", data := .seq (its.set j u).toArray n } := by
  simp [Obj.mapSeq]
theorem Inv.lst {pins : List (Addr × Obj)} {σ : St} {H : Hp} {s : Shared} {p : Addr} {xs : List V} (I : Inv X pins σ H s) (h : H p = some (.lst xs)) :
    ∃ (its : List Value) (n : Nat), Vals xs its /\ s.heap.get? p = some { cls := .type "list", data := .seq its.toArray n } /\ xs.length <= sizeLine := by
  obtain ⟨z, its, n, r, e⟩ := I.hok p _ h;exact ⟨its, n, r, e, z⟩
theorem Inv.lstUpd {pins : List (Addr × Obj)} {σ : St} {H : Hp} {s : Shared} {p : Addr} {xs ys : List V} {its its' : List Value} {n n' : Nat} {f : Obj -> Obj} (I : Inv X pins σ H s) (h : H p = some (.lst xs))
    (ho : s.heap.get? p = some { cls := .type "list", data := .seq its.toArray n }) (hf : f { cls := .type "list", data := .seq its.toArray n } = { cls := .type "list", data := .seq its'.toArray n' }) (r : Vals ys its') (hz : ys.length <= sizeLine) (t : Nat) :
    Inv X pins σ (upd H p (.lst ys)) { s with heap := s.heap.update p f, toks := t } := by
  have e : (s.heap.update p f).get? p = some { cls := .type "list", data := .seq its'.toArray n' } := by
    rw [Heap.get?_update_self f ho (by rw [hf] <;> rfl), hf]
  refine I.write (x := p) (e := p) (by rw [h]; trivial) (.inl rfl) (fun b u hb q => (Heap.get?_update_other _ _ (Ne.symm hb)).trans q) ⟨_, e⟩ ?_;exact ⟨hz, its', n', r, e⟩
def rSetL : V -> V -> V -> Hp -> (Hp -> Prop) -> Prop := fun o i v H Q => ∃ p xs k j, o = .ref p /\ i = .int k /\ H p = some (.lst xs) /\ ixN xs.length k = some j /\ Q (upd H p (.lst (xs.set j v)))
theorem fz : PSet X rSetL := by
  intro pins s σ H o i v ov iv u Q I ro ri rv h;obtain ⟨p, xs, k, j, rfl, rfl, hp, hj, q⟩ := h;cases ro;obtain ⟨t, rfl⟩ := ri;obtain ⟨its, n, r, ho, hz⟩ := I.lst hp;obtain ⟨h1, h2, h3, h4⟩ := dz hj;have hl := r.length;have hn := qi
  have I' : Inv X pins σ (upd H p (.lst (xs.set j v))) { s with heap := s.heap.update p (Obj.mapSeq (·.setIfInBounds j u)) } :=
    I.lstUpd hp ho (bt its n j u) (r.set rv j) (by rw [Xa]; exact hz) s.toks
  by_cases h0 : 0 <= k
  . have hk : k.toNat = j := by
      rw [seqIndex_of h0 h4] at h1;exact Option.some.inj h1
    exact PySem.W.ki_setAt ho h0 (by omega) (by rw [Zr, <- hl]; exact h4) (by rw [hk]; exact ⟨_, I', q⟩)
  . have hk : (k + (its.toArray.size : Int)).toNat = j := by
      rw [seqIndex_neg (by omega) h3] at h1;rw [Zr, <- hl];exact Option.some.inj h1
    exact PySem.W.ki_setBack ho (by omega) (by rw [Zr, <- hl]; exact h3) (by omega) (by rw [hk]; exact ⟨_, I', q⟩)
theorem gd (lo hi : Option Int) (n : Nat) : (sliceBounds lo hi none n).1 = ((HT.sIx n 0 lo : Nat) : Int) /\ (sliceBounds lo hi none n).2.1 = ((HT.sIx n n hi : Nat) : Int) /\ (sliceBounds lo hi none n).2.2 = 1 := by
  refine ⟨?_, ?_, rfl⟩
  . cases lo with
    | none => simp [sliceBounds, HT.sIx]
    | some i =>
      simp only [sliceBounds, HT.sIx, Option.getD_none, show (1 : Int) > 0 by decide, if_true]
      by_cases h : i < 0
      . simp only [h, if_true] <;> omega
      . simp only [h, if_false] <;> omega
  . cases hi with
    | none => simp [sliceBounds, HT.sIx]
    | some i =>
      simp only [sliceBounds, HT.sIx, Option.getD_none, show (1 : Int) > 0 by decide, if_true]
      by_cases h : i < 0
      . simp only [h, if_true] <;> omega
      . simp only [h, if_false] <;> omega
theorem ir (its : List Value) (lo hi : Option Int) : slicePick its.toArray lo hi none = ((its.drop (HT.sIx its.length 0 lo)).take (HT.sIx its.length its.length hi - HT.sIx its.length 0 lo)).toArray := by
  obtain ⟨h1, h2, h3⟩ := gd lo hi its.toArray.size;unfold slicePick;rw [h1, h2, h3];simp only [sliceRange_one, pick_run, Zr] <;> rfl
def rSlL (K : Fg) : V -> Option Int -> Option Int -> Hp -> VK -> Prop := fun x lo hi H Q => ∃ a xs, x = .ref a /\ SqL K H a xs /\ ∀ p, H p = none -> Q (.ref p) (upd H p (.lst (cutV xs lo hi)))
theorem wf : SlR X (rSlL X.K) := by
  intro pins s σ H x v vl vu lo hi sl Q I rx hs pl pu h;obtain ⟨a, xs, rfl, hx, q⟩ := h;cases rx;obtain ⟨its, r, ht, hz⟩ := I.list hx;have hlen := r.length;refine ⟨"list", _, slot_list_getitem.lookup, ht.isList.typeIs, ?_⟩;refine wpAny_getItem_list_slice ht.isList hs pl pu .none (by simp) ?_ (by rw [Zr] <;> omega);rw [ir, <- hlen];refine ⟨.ref s.heap.objs.size, _, I.laid (t' := s.toks) (o := .lst (cutV xs lo hi)) (fun b ob q => Heap.get?_push_of_some _ q) (Zm _) ?_, rfl, q _ (I.hok.fresh (Zm _))⟩;exact ⟨Zd (la xs lo hi) hz, _, 0, (r.drop (HT.sIx xs.length 0 lo)).take (HT.sIx xs.length xs.length hi - HT.sIx xs.length 0 lo), Heap.get?_push_size _ rfl⟩
def yx : V -> Bool
  | .non => true
  | .bl _ => true
  | .int _ => true
  | .str _ => true
  | _ => false
def eqV : V -> V -> Bool
  | .non, .non => true
  | .bl a, .bl b => a == b
  | .bl a, .int b => (if a then 1 else 0) == b
  | .int a, .bl b => a == (if b then 1 else 0)
  | .int a, .int b => a == b
  | .str a, .str b => a == b
  | _, _ => false
theorem zbl {A : Around} {s : Shared} {y x : V} {u v : Value} (ry : RelV y u) (rx : RelV x v) (fy : yx y = true) (fx : yx x = true) : SeqAt.EqAt A s u v (eqV y x) := by
  cases y with
  | non =>
    cases ry
    cases x with
    | non => cases rx; exact SeqAt.EqAt.same _
    | bl b => cases rx; exact SeqAt.EqAt.none_bool b
    | int b => obtain ⟨t, rfl⟩ := rx; exact SeqAt.EqAt.none_int b t
    | str b => obtain ⟨t, rfl⟩ := rx; exact SeqAt.EqAt.none_str b t
    | _ => exact absurd (show false = true from fx) Bool.false_ne_true
  | bl a =>
    cases ry
    cases x with
    | non => cases rx; exact SeqAt.EqAt.bool_none a
    | bl b => cases rx; exact SeqAt.EqAt.bool_bool a b
    | int b => obtain ⟨t, rfl⟩ := rx; exact SeqAt.EqAt.bool_int a b t
    | str b => obtain ⟨t, rfl⟩ := rx; exact SeqAt.EqAt.bool_str a b t
    | _ => exact absurd (show false = true from fx) Bool.false_ne_true
  | int a =>
    obtain ⟨t', rfl⟩ := ry
    cases x with
    | non => cases rx; exact SeqAt.EqAt.int_none a t'
    | bl b => cases rx; exact SeqAt.EqAt.int_bool a t' b
    | int b => obtain ⟨t, rfl⟩ := rx; exact SeqAt.EqAt.int_int a t' b t
    | str b => obtain ⟨t, rfl⟩ := rx; exact SeqAt.EqAt.int_str a t' b t
    | _ => exact absurd (show false = true from fx) Bool.false_ne_true
  | str a =>
    obtain ⟨t', rfl⟩ := ry
    cases x with
    | non => cases rx; exact SeqAt.EqAt.str_none a t'
    | bl b => cases rx; exact SeqAt.EqAt.str_bool a t' b
    | int b => obtain ⟨t, rfl⟩ := rx; exact SeqAt.EqAt.str_int a t' b t
    | str b => obtain ⟨t, rfl⟩ := rx; exact SeqAt.EqAt.str_str a t' b t
    | _ => exact absurd (show false = true from fx) Bool.false_ne_true
  | _ => exact absurd (show false = true from fy) Bool.false_ne_true
def eqU (x : V) (u : Value) : Bool := match u with
  | .none => eqV .non x
  | .bool b => eqV (.bl b) x
  | .int i _ => eqV (.int i) x
  | .str z _ => eqV (.str z) x
  | _ => false
theorem jd {x y : V} {u : Value} (r : RelV y u) (f : yx y = true) : eqU x u = eqV y x := by
  cases y with
  | non => cases r; rfl
  | bl b => cases r; rfl
  | int i => obtain ⟨t, rfl⟩ := r; rfl
  | str z => obtain ⟨t, rfl⟩ := r; rfl
  | _ => exact absurd (show false = true from f) Bool.false_ne_true
theorem oo {x : V} : ∀ {xs : List V} {us : List Value}, Vals xs us -> xs.all yx = true -> us.any (eqU x) = xs.any fun y => eqV y x
  | _, _, .nil, _ => rfl
  | y :: xs, u :: us, .cons r t, f => by
    rw [YA, Bool.and_eq_true] at f;rw [YB, YB, jd r f.1, oo t f.2]
theorem vv {A : Around} {s : Shared} {x : V} {v : Value} (rx : RelV x v) (fx : yx x = true) : ∀ {xs : List V} {us : List Value}, Vals xs us -> xs.all yx = true -> ∀ u ∈ us, SeqAt.EqAt A s u v (eqU x u)
  | _, _, .nil, _ => fun u hu => by cases hu
  | y :: xs, u :: us, .cons r t, f => fun u' hu => by
    rw [YA, Bool.and_eq_true] at f
    rcases ZK.mp hu with rfl | hu
    . rw [jd r f.1]; exact zbl r rx f.1 fx
    . exact vv rx fx t f.2 u' hu
def inV (x : V) (xs : List V) : Bool := xs.any fun y => eqV y x
def rIn (K : Fg) (neg : Bool) : R2 := fun x y H Q => ∃ p xs, y = .ref p /\ (SqL K H p xs \/ SqT K H p xs) /\ yx x = true /\ xs.all yx = true /\ Q (.bl (if neg then !inV x xs else inV x xs)) H
theorem sm : OpR X (compareOp .In) (rIn X.K false) := by
  intro pins s σ H x y v u Q I rx ry h;obtain ⟨p, xs, rfl, hq, fx, fs, q⟩ := h;cases ry
  rcases hq with hq | hq
  . obtain ⟨its, r, pl, hz⟩ := I.list hq
    refine SeqAt.in_listAt (eqU x) pl.isList (fun w hw => vv rx fx r fs w (by simpa using hw)) ⟨.bl _, H, I, rfl, ?_⟩;rw [show its.toArray.any (eqU x) = its.any (eqU x) by simp, oo r fs];exact q
  . obtain ⟨its, r, pl, hz⟩ := I.tuple hq
    refine SeqAt.in_tupleAt (eqU x) pl (fun w hw => vv rx fx r fs w (by simpa using hw)) ⟨.bl _, H, I, rfl, ?_⟩;rw [show its.toArray.any (eqU x) = its.any (eqU x) by simp, oo r fs];exact q
theorem wz : OpR X (compareOp .NotIn) (rIn X.K true) := by
  intro pins s σ H x y v u Q I rx ry h;obtain ⟨p, xs, rfl, hq, fx, fs, q⟩ := h;cases ry
  rcases hq with hq | hq
  . obtain ⟨its, r, pl, hz⟩ := I.list hq
    refine SeqAt.notIn_listAt (eqU x) pl.isList (fun w hw => vv rx fx r fs w (by simpa using hw)) ⟨.bl _, H, I, rfl, ?_⟩;rw [show its.toArray.any (eqU x) = its.any (eqU x) by simp, oo r fs];exact q
  . obtain ⟨its, r, pl, hz⟩ := I.tuple hq
    refine SeqAt.notIn_tupleAt (eqU x) pl (fun w hw => vv rx fx r fs w (by simpa using hw)) ⟨.bl _, H, I, rfl, ?_⟩;rw [show its.toArray.any (eqU x) = its.any (eqU x) by simp, oo r fs];exact q
theorem zv : CallR X (.builtin "len") (fun xs H Q => ∃ p ys, xs = [.ref p] /\ (SqL X.K H p ys \/ SqT X.K H p ys) /\ Q (.int ys.length) H) := by
  intro pins s σ H xs us Q I r h;obtain ⟨p, ys, rfl, hq, q⟩ := h;obtain ⟨u, rfl, rx⟩ := uz r;cases rx;have hn := qi
  rcases hq with hq | hq
  . obtain ⟨its, r', pl, hz⟩ := I.list hq
    have hlen := r'.length;exact Calls.call_len_list pl.isList (by simp only [Zr] <;> omega) ⟨.int ys.length, H, I.tok _, ⟨s.toks + 1, by rw [Zr, hlen]⟩, q⟩
  . obtain ⟨its, r', pl, hz⟩ := I.tuple hq
    have hlen := r'.length;exact len_tuple pl (by simp only [Zr] <;> omega) ⟨.int ys.length, H, I.tok _, ⟨s.toks + 1, by rw [Zr, hlen]⟩, q⟩
theorem qg : CallR X (.builtin "len") (fun xs H Q => ∃ z, xs = [.str z] /\ z.length <= sizeLine /\ Q (.int z.length) H) := by
  intro pins s σ H xs us Q I r h;obtain ⟨z, rfl, hz, q⟩ := h;obtain ⟨u, rfl, t, rfl⟩ := uz r;have hn := qi;exact len_str (by omega) ⟨.int z.length, H, I.tok _, ⟨_, rfl⟩, q⟩
theorem CallR.or {f : Value} {r r' : List V -> Hp -> VK -> Prop} (h : CallR X f r) (h' : CallR X f r') : CallR X f (fun xs H Q => r xs H Q \/ r' xs H Q) := by
  intro pins s σ H xs us Q I rs q
  rcases q with q | q
  . exact h pins s σ H xs us Q I rs q
  . exact h' pins s σ H xs us Q I rs q
theorem ij : CallR X (.type "tuple") (fun xs H Q => ∃ p ys, xs = [.ref p] /\ ((SqL X.K H p ys /\ ∀ l, H l = none -> Q (.ref l) (upd H l (.tup ys))) \/ (SqT X.K H p ys /\ Q (.ref p) H))) := by
  intro pins s σ H xs us Q I r h;obtain ⟨p, ys, rfl, h⟩ := h;obtain ⟨u, rfl, rx⟩ := uz r;cases rx
  rcases h with ⟨hq, q⟩ | ⟨hq, q⟩
  . obtain ⟨its, r', pl, hz⟩ := I.list hq
    have hlen := r'.length;refine call_tuple_list pl.isList (fun h' kp => ?_) (by simp only [Zr] <;> omega);have I1 : Inv X pins σ H { s with heap := h' } := I.kept (t' := s.toks) kp
    have I2 : Inv X pins σ (upd H h'.objs.size (.tup ys)) { s with heap := h'.push { cls := .type "tuple", data := .seq its.toArray } } :=
      I1.laid (t' := s.toks) (fun b o e => Heap.get?_push_of_some _ e) (Zm _) (show ObjOk X.prog X.w _ _ _ (.tup ys) from ⟨hz, its, r', IsTupD.new _ _⟩)
    exact ⟨.ref h'.objs.size, _, I2, rfl, q _ (I1.hok.fresh (Zm _))⟩
  . obtain ⟨its, r', pl, hz⟩ := I.tuple hq
    exact call_tuple_same pl ⟨.ref p, H, I, rfl, q⟩
def tyV (K : Fg) (T : String) (x : V) (H : Hp) : Prop := match x with
  | .str _ => T = "str"
  | .int _ => T = "int"
  | .ref p => (T = "list" /\ ∃ xs, SqL K H p xs) \/ (T = "tuple" /\ ∃ o, K.lookup p = some o /\ o.cls = .type "tuple" /\ o.dict = none) \/
      (T = "dict" /\ ((∃ kvs, H p = some (.dK kvs)) \/ ∃ kvs, H p = some (.dT kvs))) \/ (T = "set" /\ ∃ S n, H p = some (.set S n))
  | _ => False
theorem zax {pins : List (Addr × Obj)} {σ : St} {H : Hp} {s : Shared} {T : String} {x : V} {v : Value} (I : Inv X pins σ H s) (r : RelV x v) (ty : tyV X.K T x H) :
    s.TypeIs v T /\ ∀ a, v = .ref a -> ∃ ob, s.heap.get? a = some ob /\ ob.dict = none := by
  cases x with
  | str z =>
    obtain ⟨t, rfl⟩ := r;cases (show T = "str" from ty);exact ⟨typeIs_str s z t, fun _ e => nomatch e⟩
  | int i =>
    obtain ⟨t, rfl⟩ := r;cases (show T = "int" from ty);exact ⟨typeIs_int s i t, fun _ e => nomatch e⟩
  | ref p =>
    cases r
    rcases ty with ⟨rfl, xs, hq⟩ | ⟨rfl, o, hk, hc, hd⟩ | ⟨rfl, hk⟩ | ⟨rfl, S, n, hk⟩
    . obtain ⟨its, _, pl, _⟩ := I.list hq
      refine ⟨pl.isList.typeIs, fun a e => ?_⟩;cases e;obtain ⟨o, n, e, c, hd, _⟩ := pl;exact ⟨o, e, hd⟩
    . refine ⟨⟨o, I.kIn p o hk, hc⟩, fun a e => ?_⟩
      cases e;exact ⟨o, I.kIn _ o hk, hd⟩
    . have z : ∃ o, s.heap.get? p = some o /\ o.ExactDict := by
        rcases hk with ⟨kvs, hk⟩ | ⟨kvs, hk⟩
        . obtain ⟨_, _, _, _, o, _, _, e, ex, _⟩ := I.hok p _ hk
          exact ⟨o, e, ex⟩
        . obtain ⟨_, _, _, _, o, _, _, e, ex, _⟩ := I.hok p _ hk
          exact ⟨o, e, ex⟩
      obtain ⟨o, e, ex⟩ := z;refine ⟨⟨o, e, ex.1⟩, fun a e2 => ?_⟩;cases e2;exact ⟨o, e, ex.2.1⟩
    . obtain ⟨o, _, _, _, e, ex, _⟩ := I.hok p _ hk
      refine ⟨⟨o, e, ex.1⟩, fun a e2 => ?_⟩;cases e2;exact ⟨o, e, ex.2.1⟩
  | _ => exact False.elim ty
def tBM0 (K : Fg) (T : String) (r : V -> List V -> Hp -> VK -> Prop) (to : TE) : TE := fun σ H Q => to σ H fun x H1 => tyV K T x H1 /\ r x [] H1 Q
def tBM (K : Fg) (T : String) (r : V -> List V -> Hp -> VK -> Prop) (to : TE) (t : TA) : TE := fun σ H Q => to σ H fun x H1 => tyV K T x H1 /\ t σ H1 fun xs H2 => r x xs H2 Q
variable {o e : Expr} {es : List Expr} {to : TE} {t : TA} {name : Str} {apos cpos : Pos} {T id : String} {r : V -> List V -> Hp -> VK -> Prop}
theorem pe_bm0 (pa : PlainAttrs T) (slot : Slot T name id) (hty : typeOf (.builtin id) = pure (.type "method_descriptor")) (hm : MtR X id r) (ho : PE X o to)
    (hbase : attributeBase o name X.env (eval o X.env) = eval o X.env := by rfl) (hline : (apos.endLine == cpos.line) = true := by rfl) : PE X (.Call (.Attribute o name apos) [] [] cpos) (tBM0 X.K T r to) := by
  intro pins s σ H Q I h;refine wpAny_Call_method0_late hbase hline (thn (ho pins s σ H _ I h) fun v s1 ⟨x, H1, I1, r1, ty, q1⟩ => ?_);obtain ⟨h1, h2⟩ := zax I1 r1 ty;exact ⟨T, id, pa, slot, hty, h1, h2, Calls.callWith_builtin rfl (PySem.evalArgs_none (hm pins s1 σ H1 x [] v [] Q I1 r1 .nil q1))⟩
theorem x9 (pa : PlainAttrs T) (slot : Slot T name id) (hty : typeOf (.builtin id) = pure (.type "method_descriptor")) (hm : MtR X id r) (ho : PE X o to) (ha : PA X (e :: es) t)
    (hbase : attributeBase o name X.env (eval o X.env) = eval o X.env := by rfl)
    (hfew : ((backTo cpos (starEach (e :: es) X.env)).all (fun x => !x.1) && (backToKw cpos (keywordEach [] X.env)).all (fun x => x.1.isSome)
      && decide ((e :: es).length + ([] : List Keyword).length + (if ([] : List Keyword).isEmpty then 0 else 1) < 30)) = true := by rfl)
    (hline : (apos.endLine == cpos.line) = true := by rfl) (hs : starEach (e :: es) X.env = (false, eval e X.env) :: starEach es X.env := by rfl) (hplain : (backTo cpos (starEach es X.env)).any (·.1) = false := by rfl) :
    PE X (.Call (.Attribute o name apos) (e :: es) [] cpos) (tBM X.K T r to t) := by
  intro pins s σ H Q I h;refine wpAny_Call_method_late hbase hfew hline rfl (thn (ho pins s σ H _ I h) fun v s1 ⟨x, H1, I1, r1, ty, q1⟩ => ?_);obtain ⟨h1, h2⟩ := zax I1 r1 ty;refine ⟨T, id, pa, slot, hty, h1, h2, ?_⟩;have hA := ha cpos pins s1 σ H1 _ I1 q1;rw [hs] at hA ⊢;refine Calls.callWith_builtin (by show (false || (backTo cpos (starEach es X.env)).any (·.1)) = false; rw [hplain] <;> rfl) (Calls.evalArgs_plain ?_);exact thn hA fun us s2 ⟨vs, H2, I2, r2, q2⟩ => hm pins s2 σ H2 x vs v us Q I2 r1 r2 q2
end
end L2
namespace L2
open PySem PySem.Spec PyProof.Rows
def MtM (X : Cx) (id : String) (r : V -> List V -> Hp -> VK -> Prop) : Prop :=
  ∀ (pins : List (Addr × Obj)) (s : Shared) (σ : St) (H : Hp) (x : V) (xs : List V) (v : Value) (us : List Value) (Q : VK), Inv X pins σ H s -> RelV x v -> Vals xs us -> r x xs H Q ->
    wpAny (model X.prog X.w) X.A (call (.builtin id) (v :: us)) (EP X pins σ Q) X.xe s
theorem Vals.one : ∀ {x : V} {us : List Value}, Vals [x] us -> ∃ u, us = [u] /\ RelV x u
  | _, _, .cons r .nil => ⟨_, rfl, r⟩
theorem Vals.two : ∀ {x y : V} {us : List Value}, Vals [x, y] us -> ∃ u v, us = [u, v] /\ RelV x u /\ RelV y v
  | _, _, _, .cons r (.cons q .nil) => ⟨_, _, rfl, r, q⟩
theorem Vals.zero : ∀ {us : List Value}, Vals [] us -> us = []
  | _, .nil => rfl
theorem Vals.dropLast {xs : List V} {us : List Value} (h : Vals xs us) : Vals xs.dropLast us.dropLast := by
  induction h with
  | nil => exact .nil
  | cons r t ih =>
    cases t with
    | nil => exact .nil
    | cons q t' => exact .cons r ih
theorem Vals.eraseIdx : ∀ {xs : List V} {us : List Value} (i : Nat), Vals xs us -> Vals (xs.eraseIdx i) (us.eraseIdx i)
  | _, _, _, .nil => .nil
  | _, _, 0, .cons _ t => t
  | _, _, i + 1, .cons r t => .cons r (Vals.eraseIdx i t)
theorem Vals.reverse {xs : List V} {us : List Value} (h : Vals xs us) : Vals xs.reverse us.reverse := by
  induction h with
  | nil => exact .nil
  | cons r t ih => rw [List.reverse_cons, List.reverse_cons]; exact Vals.append ih (.cons r .nil)
theorem ar {α : Type} (l : List α) : l.eraseIdx (l.length - 1) = l.dropLast := by
  induction l with
  | nil => rfl
  | cons a r ih =>
    cases r with
    | nil => rfl
    | cons b r =>
      have e : (a :: b :: r).length - 1 = ((b :: r).length - 1) + 1 := by
        have h1 : (a :: b :: r).length = r.length + 2 := rfl;have h2 : (b :: r).length = r.length + 1 := rfl;omega
      rw [e, List.eraseIdx_cons_succ, ih]
      all_goals rfl
section
variable {X : Cx} {pins : List (Addr × Obj)} {σ : St} {H : Hp} {s : Shared} {l b : Addr} {xs ys zs : List V}
theorem Inv.lset {its its' : List Value} {n : Nat} {f : Array Value -> Array Value} {t' : Nat} (I : Inv X pins σ H s) (hH : H l = some (.lst xs))
    (e : s.heap.get? l = some { cls := .type "list", data := .seq its.toArray n }) (hf : f its.toArray = its'.toArray) (hv : Vals ys its') (hz : ys.length <= sizeLine) :
    Inv X pins σ (upd H l (.lst ys)) { s with heap := s.heap.update l (Obj.mapSeq f), toks := t' } := by
  have q := PySem.IsL.update e f;rw [hf] at q;refine I.write (x := l) (e := l) (by rw [hH]; exact trivial) (.inl rfl) (fun b' u hb hu => (Heap.get?_update_other s.heap (Obj.mapSeq f) (Ne.symm hb)).trans hu) ⟨_, q⟩ ?_;exact ⟨hz, its', _, hv, q⟩
theorem Inv.lnew {its : List Value} {t' : Nat} (I : Inv X pins σ H s) (hv : Vals ys its) (hz : ys.length <= sizeLine) :
    Inv X pins σ (upd H s.heap.objs.size (.lst ys)) { s with heap := s.heap.push { cls := .type "list", data := .seq its.toArray }, toks := t' } :=
  I.laid (fun _ _ q => Heap.get?_push_of_some _ q) (Zm _) ⟨hz, its, 0, hv, Heap.get?_push_size _ rfl⟩
theorem Inv.fresh (I : Inv X pins σ H s) : H s.heap.objs.size = none := I.hok.fresh (Zm _)
theorem Inv.lstM (I : Inv X pins σ H s) (hH : H l = some (.lst xs)) : xs.length <= sizeLine /\ ∃ (its : List Value) (n : Nat), Vals xs its /\ xs.length = its.length /\ s.heap.get? l = some { cls := .type "list", data := .seq its.toArray n } := by
  obtain ⟨z, its, n, r, e⟩ := I.hok l _ hH;exact ⟨z, its, n, r, r.length, e⟩
theorem zcc {n : Nat} (h : n <= sizeLine) : Builtin.List.listTooLong n = false := by
  unfold Builtin.List.listTooLong;exact decide_eq_false (by omega)
end
section
variable {X : Cx}
def cf : V -> List V -> Hp -> VK -> Prop := fun x vs H Q => ∃ l xs y, x = .ref l /\ vs = [y] /\ H l = some (.lst xs) /\ xs.length < sizeLine /\ Q .non (upd H l (.lst (xs ++ [y])))
theorem su : MtM X "list.append" cf := by
  intro pins s σ H x vs v us Q I rx rv h;obtain ⟨l, xs, y, rfl, rfl, hH, hz, q⟩ := h;cases rx;obtain ⟨u, rfl, ru⟩ := rv.one;obtain ⟨z, its, n, r, hl, e⟩ := I.lstM hH;refine call_meets F.slot_list_append ⟨_, e, rfl⟩ F.entry_list_append (F.args_list_append_2 _ _) (PySem.list_append l its.toArray n u (by rw [Zr]; omega)) ⟨e, ?_⟩;refine ⟨.non, _, I.lset (its' := its ++ [u]) hH e (by simp) (r.append (.cons ru .nil)) ?_, rfl, q⟩;rw [Zo, ZS];omega
def du : V -> List V -> Hp -> VK -> Prop := fun x vs H Q => ∃ l b xs zs, x = .ref l /\ vs = [.ref b] /\ H l = some (.lst xs) /\ H b = some (.lst zs) /\ xs.length + zs.length <= sizeLine /\ Q .non (upd H l (.lst (xs ++ zs)))
theorem zaa : MtM X "list.extend" du := by
  intro pins s σ H x vs v us Q I rx rv h;obtain ⟨l, b, xs, zs, rfl, rfl, hH, hB, hz, q⟩ := h;cases rx;obtain ⟨u, rfl, ru⟩ := rv.one;cases ru;obtain ⟨z, its, n, r, hl, e⟩ := I.lstM hH;obtain ⟨z2, its2, n2, r2, hl2, e2⟩ := I.lstM hB;have hsz : its.toArray.size + its2.toArray.size <= sizeLine := by rw [Zr, Zr]; omega
  have hlong : ¬ (!its.toArray.isEmpty && Builtin.List.listTooLong (its.toArray.size + its2.toArray.size)) = true := by
    rw [zcc hsz, Bool.and_false];exact Bool.false_ne_true
  refine call_meets F.slot_list_extend ⟨_, e, rfl⟩ F.entry_list_extend (F.args_list_extend_2 _ _)
    (AutoSeq1.list_extend_list_list_0 l its.toArray n b its2.toArray n2 hlong (by rw [Zr]; omega) (by omega)) ⟨e, e2, ?_⟩
  refine ⟨.non, _, I.lset (its' := its ++ its2) hH e (by simp) (r.append r2) ?_, rfl, q⟩;rw [Zo];omega
def rPop : V -> List V -> Hp -> VK -> Prop := fun x vs H Q => ∃ l xs y, x = .ref l /\ vs = [] /\ H l = some (.lst xs) /\ xs[xs.length - 1]? = some y /\ Q y (upd H l (.lst xs.dropLast))
theorem mt_pop : MtM X "list.pop" rPop := by
  intro pins s σ H x vs v us Q I rx rv h;obtain ⟨l, xs, y, rfl, rfl, hH, hy, q⟩ := h;cases rx;have hus := rv.zero;subst hus;obtain ⟨z, its, n, r, hl, e⟩ := I.lstM hH;obtain ⟨u, hu, ru⟩ := r.get hy
  have hy' : its.toArray[its.toArray.size - 1]? = some u := by
    show its.toArray[its.length - 1]? = some u
    rw [<- Array.getElem?_toList, <- hl];exact hu
  refine call_meets F.slot_list_pop ⟨_, e, rfl⟩ F.entry_list_pop (F.args_list_pop_1 _) (MeetsSeq.list_pop_last l its.toArray n u hy' (by rw [Zr]; omega)) ⟨e, ?_⟩;refine ⟨y, _, I.lset (its' := its.dropLast) hH e ?_ r.dropLast ?_, ru, q⟩
  . show its.toArray.eraseIdxIfInBounds (its.toArray.size - 1) = its.dropLast.toArray
    rw [Zr, List.eraseIdxIfInBounds_toArray, ar]
  . rw [YH]
    omega
def rCat : R2 := fun x y H Q => ∃ l b xs zs, x = .ref l /\ y = .ref b /\ H l = some (.lst xs) /\ H b = some (.lst zs) /\ xs.length + zs.length <= sizeLine /\ ∀ p, H p = none -> Q (.ref p) (upd H p (.lst (xs ++ zs)))
theorem xn : OpR X (binaryOp .Add) rCat := by
  intro pins s σ H x y v u Q I rx ry h;obtain ⟨l, b, xs, zs, rfl, rfl, hH, hB, hz, q⟩ := h;cases rx;cases ry;obtain ⟨z, its, n, r, hl, e⟩ := I.lstM hH;obtain ⟨z2, its2, n2, r2, hl2, e2⟩ := I.lstM hB;refine PySem.P.add_list e e2 ?_ (by rw [Zr, Zr]; omega);have ea : its.toArray ++ its2.toArray = (its ++ its2).toArray := by simp
  rw [ea];exact ⟨.ref _, _, I.lnew (t' := s.toks) (r.append r2) (by rw [Zo]; omega), rfl, q _ I.fresh⟩
def rRep : R2 := fun x y H Q => ∃ l k xs, x = .ref l /\ y = .int k /\ H l = some (.lst xs) /\ -(2 ^ 63) <= k /\ k < 2 ^ 63 /\ xs.length * k.toNat <= sizeLine /\
  ∀ p, H p = none -> Q (.ref p) (upd H p (.lst (List.replicate k.toNat xs).flatten))
end
section
variable {prog : Program} {w : World} {A : Around} {E : Value -> Shared -> Prop} {s : Shared}
set_option maxRecDepth 100000 in
end
section
variable {X : Cx}
end
end L2
namespace Att
open PySem PySem.W PySem.Calls PyProof.Rows
theorem kc {P : Params} {h : Heap} : ∀ (ns : List Int) (vs : List Value), WellAll P h vs (ns.map WData.int) -> IntsAre vs ns := by
  intro ns
  induction ns with
  | nil =>
    intro vs w;rw [List.map_nil] at w;cases w;exact .nil
  | cons n ns ih =>
    intro vs w;rw [ZM] at w
    cases w with
    | cons a b =>
      cases a;exact .cons _ _ (ih _ b)
theorem za5 {l : OpenLaw} {n : Nat} (hn : l.most = some n) {P : Params} {h : Heap} {args : List WData} {vals : List Value}
    (hpre : l.row.toRowW.claim.pre args = true) (hwl : WellAll P h vals args) :
    ∃ a vs ns, vals = [Value.ref a] /\ args = [WData.list (ns.map WData.int)] /\ h.get? a = some { cls := .type "list", data := .seq vs.toArray } /\ IntsAre vs ns /\ ns.length <= n := by
  have hsh : WShape.hasAll [] args [.list .int] = true := (pre_splitW hpre).1;have hc : l.pre.holds [] { args := args } = true := (pre_splitW hpre).2;obtain ⟨d, r, rfl, h1, h2⟩ := hasAllW_cons hsh;obtain rfl := hasAllW_nil h2;obtain ⟨xs, rfl, h3⟩ := hasW_list h1;obtain ⟨ns, rfl⟩ := items_int h3
  have hlen : ns.length <= n := by
    unfold OpenLaw.pre at hc
    have h4 : (WTm.not (.lt (.lit (.int (n : Int))) (.len (.arg 0)))).holds [] { args := [.list (ns.map .int)] } = true := by
      have h4 := (holds_andW hc).1;rw [hn] at h4;exact h4
    have h5 := condW_of h4 (w_not (w_lt w_lit (w_len_list (w_arg rfl))));rw [Za] at h5;refine Nat.le_of_not_lt fun q => ?_
    have q' : (n : Int) < ((ns.length : Nat) : Int) := by omega
    first
      | (rw [decide_eq_true q'] at h5; exact absurd h5 (by decide))
      | (simp at h5; omega)
  cases hwl with
  | cons w1 w2 =>
    cases w2
    cases w1 with
    | list ho hall => exact ⟨_, _, ns, rfl, rfl, ho, kc ns _ hall, hlen⟩
theorem zan (l : OpenLaw) (args : List WData) : l.row.toRowW.claim.post args (.bool true) args = true :=
  postW_of (r := l.row.toRowW) (X := (true == true))
    (show WShape.has [] (.bool true) .bool = true by first | rfl | decide | simp [WShape.has, WShape.arms, WShape.armsAll])
    (show (WTm.eq .res (.lit (.bool true))).value [] { args := args, res := some (.bool true), after := args } = some (.bool (true == true)) from w_eq_bool (w_res rfl) w_lit) rfl
theorem dg {l : OpenLaw} {n : Nat} {q : Program} {loose : List Str} {XP : (Str -> Option Value) -> Heap -> Prop} {YP : World -> Heap -> Prop} {d : DefRec}
    (hn : l.most = some n) (hdf : d.params.defaults = [])
    (call : ∀ (w : World) (s₀ s₁ : Shared) (mg mb : Str -> Option Value) (fa : Addr) (o : Obj) (pm cd doc : Value) (a : Addr) (vs : List Value) (ns : List Int),
      Ground q loose [] XP w s₀ mg mb s₁.heap -> YP w s₁.heap ->
      s₁.heap.get? fa = some o -> o.data = .func (docDef d.name d.params d.body d.scope pm cd doc) -> s₁.heap.CodeRec cd d.name -> mg d.name = some (.ref fa) ->
      s₁.heap.get? a = some { cls := .type "list", data := .seq vs.toArray } -> IntsAre vs ns -> ns.length <= n -> s₁.gens = #[] ->
      codeAny (model l.prog w) callerA (.call (.ref fa) ⟨[.ref a], []⟩) (fun r s' => r = .ok (.ret (.bool true)) /\ OldK s₁.heap s'.heap /\ s'.os = s₁.os /\ AllBare s'.gens) s₁) :
    WalkO q loose XP YP l.row.toRowW d [] (fun f vs => PySem.call f vs) := by
  intro w s₀ s₁ mg mb G Y fa o pm cd doc dV kV ho hd hcd hD hmg hg args vals as hpre hlay hrd hwl hlo;obtain rfl : dV = .none := Dflts.none hD hdf;obtain rfl : kV = .none := Dflts.noKw hD;obtain ⟨a, vs, ns, rfl, rfl, hobj, hints, hlen⟩ := za5 hn hpre hwl;refine enter_call (codeAny_mono (call w s₀ s₁ mg mb fa o pm cd doc a vs ns G Y ho (fd_plain hd) hcd hmg hobj hints hlen hg) fun r s' hq => ?_);obtain ⟨rfl, h2, h3, h4⟩ := hq;exact ⟨.inl ⟨.bool true, .bool true, [], rfl, fun _ => rfl, .bool true, zan l _, fun _ => ⟨List.Pairwise.nil, fun _ hm => (nomatch hm)⟩⟩, h2, h3, h4⟩
section
variable {prog : Program} {w : World} {A : Around} {E : Value -> Shared -> Prop} {s : Shared} {K : Frag}
def ledger (h : Heap) (L d : Addr) : List (Addr × Obj) := (List.range h.objs.size).filterMap fun a => if a = L \/ a = d then none else (h.get? a).map fun o => (a, o)
end
end Att
namespace L2
open PySem PySem.Spec PyProof.Rows
theorem ic : ∀ {vs : List Value} {ns : List Int}, IntsAre vs ns -> Vals (ns.map V.int) vs
  | _, _, .nil => .nil
  | _, _, .cons n t h => .cons ⟨t, rfl⟩ (ic h)
def Only (H : Hp) : Prop := ∀ b, H b = none \/ ∃ o xs, H b = some (.frz o (.lst xs))
theorem zb4 {P : Program} {w : World} {K : Fg} {mg mb : Str -> Option Value} {CX : CXT} {k : Nat} {fa a : Addr} {fd : FuncData} {x : Str} {sp : Sp} {s₁ : Shared} {vs : List Value} {ns : List Int}
    (KX : K.In s₁.heap) (hns : s₁.heap.Ns mainGlobals mg) (hb : s₁.heap.Ns builtinsNs mb) (hbb : ∀ x : Str, x ≠ "__name__" -> mb x = bootBuiltins x) (hlim : s₁.heap.NoLimit) (hg : s₁.gens = #[])
    (ha : s₁.heap.get? a = some { cls := .type "list", data := .seq vs.toArray }) (hi : IntsAre vs ns) (hl : ns.length <= sizeLine) (hr : Room k callerA)
    (F : ∀ base : Heap, K.In base -> base.Ns mainGlobals mg -> FnOk P w K mg base CX k fa fd [x] sp) (hbind : ∀ (s : Shared) (u : Value), BindsTo s fd ⟨[u], []⟩ [(x, u)])
    (hsp : ∀ H : Hp, Only H -> SqL K H a (ns.map V.int) -> sp [.ref a] H (fun v _ => v = .bl true) fun _ _ _ => False)
    (hCX : ∀ H e s', CX [] H s₁ (fun _ _ _ => False) e s' -> False) :
    codeAny (model P w) callerA (.call (.ref fa) ⟨[.ref a], []⟩) (fun r s' => r = .ok (.ret (.bool true)) /\ OldK s₁.heap s'.heap /\ s'.os = s₁.os /\ AllBare s'.gens) s₁ := by
  have rv := ic hi;have lenV := hi.length
  -- from an abstract heap in which nothing but the script may be tracked
  have core : ∀ H : Hp, Only H -> SqL K H a (ns.map V.int) -> HOk P w H s₁.heap -> (∀ b, H b ≠ none -> b = a) -> (H a ≠ none -> K.lookup a = none) ->
      codeAny (model P w) callerA (.call (.ref fa) ⟨[.ref a], []⟩) (fun r s' => r = .ok (.ret (.bool true)) /\ OldK s₁.heap s'.heap /\ s'.os = s₁.os /\ AllBare s'.gens) s₁ := by
    intro H hO hS hok hA hK;have base_of : ∀ {b : Addr} {o : Obj}, s₁.heap.get? b = some o -> H b = none -> (hidT s₁.heap H).get? b = some o := fun e n => zcl e n
    have noA : ∀ {b : Addr} {o : Obj} {es : Array DictEntry} {ep : Nat}, s₁.heap.get? b = some o -> o.data = .dict es ep -> H b = none := fun {b o es ep} e d => by
      cases q : H b with
      | none => rfl
      | some u =>
        have e' : b = a := hA b (by rw [q]; simp);subst e';rw [ha] at e; cases e;have d' : Data.seq vs.toArray _ = Data.dict es ep := d;cases d'
    have nsK : ∀ {b : Addr} {m : Str -> Option Value}, s₁.heap.Ns b m -> (hidT s₁.heap H).Ns b m := fun {b m} ⟨o, es, ep, e, d, r⟩ => ⟨o, es, ep, base_of e (noA e d), d, r⟩
    have hKb : K.In (hidT s₁.heap H) := fun b o e => base_of (KX b o e) (by
      cases q : H b with
      | none => rfl
      | some u =>
        have e' : b = a := hA b (by rw [q]; simp);subst e'
        rw [hK (by rw [q]; simp)] at e; cases e)
    have hM : Mod K mg (hidT s₁.heap H) := ⟨hKb, nsK hns, ⟨mb, nsK hb, hbb⟩, let ⟨mc, h1, h2⟩ := hlim; ⟨mc, nsK h1, h2⟩⟩;have e0 : Env0 P w K mg (hidT s₁.heap H) callerA [] s₁ H := ⟨rfl, hM, fun b o e => zc1 e, YW (za6 _ _), trivial, fun b hb => absurd (show b ∈ ([] : List Addr) from hb) (by simp), hok, .of_eq hg⟩;refine codeAny_mono ((F _ hKb (nsK hns)).run callerA [] s₁ H ⟨[.ref a], []⟩ [.ref a] [.ref a] _ _ hr e0 (hbind s₁ (.ref a)) (.cons rfl .nil) (hsp H hO hS)) fun r s' h => ?_
    cases r with
    | error e => exact (hCX H e s' h).elim
    | ok fl =>
      cases fl with
      | next => exact False.elim h
      | brk => exact False.elim h
      | cont => exact False.elim h
      | ret u =>
        obtain ⟨v, H', os, bare, un, hok', r', q⟩ := h;have q' : v = .bl true := q;subst q';obtain rfl : u = Value.bool true := r';refine ⟨rfl, OldK.of_keep fun b o e => ?_, os, bare⟩
        cases q : H b with
        | none => exact un.keep b o e q (by intro z; exact absurd (show b ∈ ([] : List Addr) from z) (by simp)) (by simp)
        | some u =>
          rcases hO b with z | ⟨ob, xs, z⟩
          . rw [q] at z; cases z
          . have z2 := un.frzs b ob _ z
            obtain ⟨e1, _⟩ := hok b _ z;obtain ⟨e2, _⟩ := hok' b _ z2;rw [e] at e1; cases e1;exact e2
  cases hk : K.lookup a with
  | some o =>
    -- the script is one of the module's own objects
    have e := KX a o hk;rw [ha] at e;cases e;refine core (fun _ => none) (fun _ => .inl rfl) (.inr ⟨_, vs.toArray, _, hk, rfl, rfl, rfl, by rw [Zr, lenV]; exact hl, by simpa using rv⟩) (fun b u z => by have z' : (none : Option HO) = some u := z; cases z') (fun b z => absurd rfl z) fun z => absurd rfl z
  | none =>
    refine core (fun b => if b = a then some (.frz { cls := .type "list", data := .seq vs.toArray } (.lst (ns.map V.int))) else none) (fun b => ?_) (.inl (.inr ⟨{ cls := .type "list", data := .seq vs.toArray }, if_pos rfl⟩)) (fun b u z => ?_) (fun b z => ?_) fun _ => hk
    . by_cases hb : b = a
      . exact .inr ⟨_, _, if_pos hb⟩
      . exact .inl (if_neg hb)
    . by_cases hb : b = a
      . have z' := (if_pos hb).symm.trans z
        cases z';subst hb;exact ⟨ha, by rw [Za]; exact hl, vs, _, rv, ha⟩
      . have z' := (if_neg hb).symm.trans z
        cases z'
    . by_cases hb : b = a
      . exact hb
      . exact absurd (if_neg hb) z
end L2
namespace L2
open PySem PySem.Spec PyProof.Rows
abbrev KOf {K : Fg} {h : Heap} (_ : K.In h) : Fg := K
theorem zcu {l : PySem.W.OpenLaw} {n k : Nat} {q : Program} {loose : List Str} {XP : (Str -> Option Value) -> Heap -> Prop} {YP : World -> Heap -> Prop} {d : DefRec} {K : Params -> Fg} {CX : World -> CXT} {sp : World -> Sp} {x : Str}
    (hn : l.most = some n) (hn2 : n <= sizeLine) (hdf : d.params.defaults = []) (hr : Room k callerA)
    (hY : ∀ (w : World) (h : Heap), YP w h -> (K w.params).In h)
    (F : ∀ (w : World) (mg : Str -> Option Value) (fa : Addr) (h : Heap), (K w.params).In h -> h.Ns mainGlobals mg -> mg d.name = some (.ref fa) ->
      ∃ fd : FuncData, (∀ (s : Shared) (u : Value), BindsTo s fd ⟨[u], []⟩ [(x, u)]) /\
        ∀ base : Heap, (K w.params).In base -> base.Ns mainGlobals mg -> FnOk l.prog w (K w.params) mg base (CX w) k fa fd [x] (sp w))
    (hsp : ∀ (w : World) (H : Hp) (a : Addr) (ns : List Int), ns.length <= n -> Only H -> SqL (K w.params) H a (ns.map V.int) -> sp w [.ref a] H (fun v _ => v = .bl true) fun _ _ _ => False)
    (hCX : ∀ (w : World) (H : Hp) (s : Shared) (e : Value) (s' : Shared), CX w [] H s (fun _ _ _ => False) e s' -> False) :
    PySem.W.WalkO q loose XP YP l.row.toRowW d [] (fun f vs => PySem.call f vs) := by
  refine Att.dg hn hdf fun w s₀ s₁ mg mb fa o pm cd doc a vs ns G Y ho hd hcd hmg hobj hints hlen hg => ?_
  have KX := hY w _ Y;obtain ⟨fd, hb, hF⟩ := F w mg fa _ KX G.T.g hmg;exact zb4 KX G.T.g G.T.b G.T.builtins G.T.nolimit hg hobj hints (Zd hlen hn2) hr hF hb (fun H hO hS => hsp w H a ns hlen hO hS) fun H e s' => hCX w H s₁ e s'
theorem zbt {l : PySem.W.OpenLaw} {n k : Nat} {q : Program} {loose : List Str} {XP : (Str -> Option Value) -> Heap -> Prop} {YP : World -> Heap -> Prop} {d : DefRec} {K : Params -> Fg} {CX : CXT} {sp : Fg -> Sp} {x : Str}
    (hn : l.most = some n) (hn2 : n <= sizeLine) (hdf : d.params.defaults = []) (hr : Room k callerA)
    (hY : ∀ (w : World) (h : Heap), YP w h -> (K w.params).In h)
    (F : ∀ (w : World) (mg : Str -> Option Value) (fa : Addr) (h : Heap), (K w.params).In h -> h.Ns mainGlobals mg -> mg d.name = some (.ref fa) ->
      ∃ fd : FuncData, (∀ (s : Shared) (u : Value), BindsTo s fd ⟨[u], []⟩ [(x, u)]) /\
        ∀ base : Heap, (K w.params).In base -> base.Ns mainGlobals mg -> FnOk l.prog w (K w.params) mg base CX k fa fd [x] (sp (K w.params)))
    (hsp : ∀ (K : Fg) (H : Hp) (a : Addr) (ns : List Int), ns.length <= n -> Only H -> SqL K H a (ns.map V.int) -> sp K [.ref a] H (fun v _ => v = .bl true) fun _ _ _ => False)
    (hCX : ∀ (H : Hp) (s : Shared) (e : Value) (s' : Shared), CX [] H s (fun _ _ _ => False) e s' -> False) :
    PySem.W.WalkO q loose XP YP l.row.toRowW d [] (fun f vs => PySem.call f vs) :=
  zcu (K := K) (CX := fun _ => CX) (sp := fun w => sp (K w.params)) hn hn2 hdf hr hY F (fun w H a ns h1 h2 h3 => hsp (K w.params) H a ns h1 h2 h3) fun _ H s e s' => hCX H s e s'
end L2
namespace L2
open PySem PySem.Spec PyProof.Rows
def vz (s : Stmt) : Arguments := match s with
  | .FunctionDef _ a _ _ _ _ _ _ _ _ => a
  | _ => { posonlyargs := [], args := [], vararg := none, kwonlyargs := [], kw_defaults := [], kwarg := none, defaults := [] }
def zx (s : Stmt) : List Stmt := match s with
  | .FunctionDef _ _ b _ _ _ _ _ _ _ => b
  | _ => []
def zf (s : Stmt) : Scope := match s with
  | .FunctionDef _ _ _ _ _ _ sc _ _ _ => sc
  | _ => { kind := .function, names := [], isGenerator := false, isCoroutine := false }
abbrev CX0 : CXT := fun _ _ _ _ _ _ => False
abbrev E0 : XK := fun _ _ _ => False
theorem pass0 {X : Cx} : nw CX0 X E0 := fun _ _ _ _ _ _ _ h => h.elim
structure Fun (K : Fg) (x qual : Str) (st : Stmt) (f : Addr) (fd : FuncData) : Prop where
  ex : ∃ (oc : Value) (od : Option Addr) (kV doc pm : Value) (an : Option Addr) (cdv ct : Value) (osl : Array (Option Value)),
    fd = PySem.W.fnOf x qual (vz st) (zx st) (zf st) .none kV doc pm an cdv ct /\ K.lookup f = some ⟨oc, od, .func fd, osl⟩ /\ PySem.W.codeIn K cdv qual = true
  kp : PySem.W.keepIn K (.ref f) = true
section
variable {P : Program} {w : World} {K : Fg} {mg : Str -> Option Value} {base : Heap}
theorem Fun.ok {x qual : Str} {st : Stmt} {f : Addr} {fd : FuncData} {N ps : List Str} {k : Nat} {sp : Sp} (F : Fun K x qual st f fd) (S : z3 N ps (zf st)) (len : ∀ vs H Q E, sp vs H Q E -> vs.length = ps.length)
    (hbody : ∀ (cdv : Value) (A : Around) (outer : List Env) (s : Shared) (H : Hp) (vs : List V) (Q : VK) (E : XK), Room k (A.deeper (envOfC qual (zf st) s.heap.objs.size f cdv)) -> sp vs H Q E ->
      ∃ t, PSs (cxOf CX0 P w K mg base N qual (zf st) f cdv A outer s H E).nox (zx st) t /\ t { nx := fun _ H' => Q .non H', rt := Q } (start N vs) H) : FnOk P w K mg base CX0 (k + 1) f fd ps sp := by
  obtain ⟨oc, od, kV, doc, pm, an, cdv, ct, osl, rfl, lk, hcd⟩ := F.ex;refine fn_of lk hcd S len fun A outer s H vs Q E hr hsp => ?_
  obtain ⟨t, h, q⟩ := hbody cdv A outer s H vs Q E hr hsp;exact ⟨t, h.nox, q⟩
theorem Fun.binds {x qual : Str} {st : Stmt} {f : Addr} {fd : FuncData} {ps : List Str} (F : Fun K x qual st f fd)
    (h : ∀ (kV doc pm : Value) (an : Option Addr) (cdv ct : Value) (us : List Value), us.length = ps.length -> bindArgs (PySem.W.fnOf x qual (vz st) (zx st) (zf st) .none kV doc pm an cdv ct) ⟨us, []⟩ = pure (ps.zip us)) : Binds K fd ps [] := by
  obtain ⟨oc, od, kV, doc, pm, an, cdv, ct, osl, rfl, lk, hcd⟩ := F.ex;exact .all (h kV doc pm an cdv ct)
theorem zag {x qual : Str} {st : Stmt} {f : Addr} {oc : Value} {od an : Option Addr} {osl : Array (Option Value)} {kV doc pm cdv ct : Value} (l : K.lookup f = some ⟨oc, od, .func (PySem.W.fnOf x qual (vz st) (zx st) (zf st) .none kV doc pm an cdv ct), osl⟩)
    (c : PySem.W.codeIn K cdv qual = true) (k : PySem.W.keepIn K (.ref f) = true) : Fun K x qual st f (PySem.W.fnOf x qual (vz st) (zx st) (zf st) .none kV doc pm an cdv ct) := ⟨⟨oc, od, kV, doc, pm, an, cdv, ct, osl, rfl, l, c⟩, k⟩
end
theorem hu_of {A : Around} {k : Nat} (hr : Room k A) : A.units + 1 < cLine := Ys (Nat.add_le_add_left (by decide : 1 <= 64) _) hr.units
section
variable {X : Cx}
theorem pv (i : Nat) {x : Str} {pos : Pos} (hN : X.N[i]? = some x := by rfl) (hv : Vis X.env.scope x := by first | exact Or.inl rfl | exact Or.inr (Or.inl rfl) | exact Or.inr (Or.inr rfl)) (hd : (x == ("__debug__" : Str)) = false := by decide)
    (hcd : (x == ("__classdict__" : Str)) = false := by decide) : PE X (.Name x pos) (tVar i) := pe_var hN hv hd hcd
end
theorem iteF {A B : Prop} (h : B) : if false = true then A else B := by
  rw [if_neg Bool.false_ne_true];exact h
theorem iteT {A B : Prop} (h : A) : if true = true then A else B := by
  rw [if_pos rfl];exact h
theorem ite2 {c A B : Prop} [Decidable c] (h1 : c -> A) (h2 : ¬ c -> B) : if c then A else B := by
  by_cases h : c
  . rw [if_pos h]
    exact h1 h
  . rw [if_neg h]
    exact h2 h
theorem bq {c A B : Prop} [Decidable c] (hc : c) (h : B) : if (!decide c) = true then A else B := by
  rw [decide_eq_true hc];exact iteF h
def Same (H H' : Hp) : Prop := ∀ b o, H b = some o -> H' b = some o
theorem Same.refl (H : Hp) : Same H H := fun _ _ h => h
theorem Same.trans {H H1 H2 : Hp} (a : Same H H1) (b : Same H1 H2) : Same H H2 := fun c o h => b c o (a c o h)
theorem Same.free {H H' : Hp} (e : Same H H') {l : Addr} (h : H' l = Option.none) : H l = Option.none := by
  cases q : H l with
  | none => rfl
  | some o =>
    rw [e l o q] at h;cases h
theorem Same.seq {K : Fg} {H H' : Hp} {a : Addr} {xs : List V} (e : Same H H') (h : SqL K H a xs) : SqL K H' a xs := by
  rcases h with (h | ⟨o, h⟩) | h
  . exact .inl (.inl (e _ _ h))
  . exact .inl (.inr ⟨o, e _ _ h⟩)
  . exact .inr h
end L2
namespace L2
open PySem PySem.Spec PyProof.Rows
section
variable {κ : Type} [DecidableEq κ]
def valV (kvs : List (κ × V)) (k : κ) : Option V := (kvs.find? fun kv => decide (kv.1 = k)).map (·.2)
def putK (kvs : List (κ × V)) (k : κ) (v : V) : List (κ × V) :=
  if (kvs.any fun kv => decide (kv.1 = k)) = true then kvs.map (fun kv => if kv.1 = k then (kv.1, v) else kv) else kvs ++ [(k, v)]
def i3 (kvs : List (κ × V)) (k : κ) : List (κ × V) := kvs.filter fun kv => decide (kv.1 ≠ k)
theorem lp {p : κ × V} {r : List (κ × V)} {k : κ} (e : p.1 = k) : valV (p :: r) k = some p.2 := by simp [valV, Yi, e]
theorem lu {p : κ × V} {r : List (κ × V)} {k : κ} (e : ¬ p.1 = k) : valV (p :: r) k = valV r k := by simp [valV, Yi, e]
theorem g6 (k : κ) : ∀ kvs : List (κ × V), (kvs.any fun kv => decide (kv.1 = k)) = (valV kvs k).isSome
  | [] => rfl
  | p :: r => by
    rw [YB]
    by_cases e : p.1 = k
    . simp only [lp e, decide_eq_true e, Bool.true_or, Option.isSome_some]
    . rw [lu e, decide_eq_false e, Bool.false_or]; exact g6 k r
theorem RelO.isSome_eq {o : Option V} {u : Option Value} (r : RelO o u) : o.isSome = u.isSome := by
  cases o with
  | none => cases u with
    | none => rfl
    | some _ => exact (show False from r).elim
  | some _ => cases u with
    | none => exact (show False from r).elim
    | some _ => rfl
theorem RelO.getD {o : Option V} {u : Option Value} {d : V} {d' : Value} (r : RelO o u) (rd : RelV d d') : RelV (o.getD d) (u.getD d') := by
  cases o with
  | none => cases u with
    | none => exact rd
    | some _ => exact (show False from r).elim
  | some _ => cases u with
    | none => exact (show False from r).elim
    | some _ => exact r
theorem KV.val {kvs : List (κ × V)} {vs : List (κ × Value)} (r : KV kvs vs) (k : κ) : RelO (valV kvs k) (valueAt vs k) := by
  unfold KV at r
  induction r with
  | nil => exact True.intro
  | @cons p q ps qs h t ih =>
    obtain ⟨h1, h2⟩ := h
    by_cases e : p.1 = k
    . have e' : q.1 = k := h1.symm.trans e
      have b : valueAt (q :: qs) k = some q.2 := by simp [valueAt, Yi, e']
      rw [lp e, b]; exact h2
    . have e' : ¬ q.1 = k := fun z => e (h1.trans z)
      have b : valueAt (q :: qs) k = valueAt qs k := by simp [valueAt, Yi, e']
      rw [lu e, b]; exact ih
theorem KV.any {kvs : List (κ × V)} {vs : List (κ × Value)} (r : KV kvs vs) (k : κ) : (kvs.any fun kv => decide (kv.1 = k)) = vs.any fun kv => decide (kv.1 = k) := by
  unfold KV at r
  induction r with
  | nil => rfl
  | cons h t ih => rw [YB, YB, ih, h.1]
theorem KV.repl {kvs : List (κ × V)} {vs : List (κ × Value)} (r : KV kvs vs) (k : κ) {y : V} {u : Value} (ry : RelV y u) :
    KV (kvs.map fun kv => if kv.1 = k then (kv.1, y) else kv) (vs.map fun kv => if kv.1 = k then (kv.1, u) else kv) := by
  unfold KV at r ⊢
  induction r with
  | nil => exact .nil
  | @cons p q ps qs h t ih =>
    rw [ZM, ZM];refine .cons ?_ ih;obtain ⟨h1, h2⟩ := h
    by_cases e : p.1 = k
    . rw [if_pos e, if_pos (h1.symm.trans e)]; exact ⟨h1, ry⟩
    . rw [if_neg e, if_neg (fun z => e (h1.trans z))]; exact ⟨h1, h2⟩
theorem KV.put {kvs : List (κ × V)} {vs : List (κ × Value)} (r : KV kvs vs) (k : κ) {y : V} {u : Value} (ry : RelV y u) : KV (putK kvs k y) (stored vs k u) := by
  unfold putK stored;rw [r.any k]
  by_cases e : (vs.any fun kv => decide (kv.1 = k)) = true
  . rw [if_pos e, if_pos e]; exact r.repl k ry
  . rw [if_neg e, if_neg e]; exact Paired.snoc r ⟨rfl, ry⟩
theorem KV.drop {kvs : List (κ × V)} {vs : List (κ × Value)} (r : KV kvs vs) (k : κ) : KV (i3 kvs k) (without vs k) := by
  unfold KV at r ⊢;unfold i3 without
  induction r with
  | nil => exact .nil
  | @cons p q ps qs h t ih =>
    obtain ⟨h1, h2⟩ := h;rw [List.filter_cons, List.filter_cons]
    by_cases e : p.1 = k
    . have a : ¬ decide (p.1 ≠ k) = true := by simp [e]
      have b : ¬ decide (q.1 ≠ k) = true := by simp [h1.symm.trans e]
      rw [if_neg a, if_neg b]; exact ih
    . have e' : ¬ q.1 = k := fun z => e (h1.trans z)
      have a : decide (p.1 ≠ k) = true := by simp [e]
      have b : decide (q.1 ≠ k) = true := by simp [e']
      rw [if_pos a, if_pos b]; exact .cons ⟨h1, h2⟩ ih
theorem KV.keys {kvs : List (κ × V)} {vs : List (κ × Value)} (r : KV kvs vs) : kvs.map (·.1) = vs.map (·.1) := by
  unfold KV at r
  induction r with
  | nil => rfl
  | cons h t ih => rw [ZM, ZM, ih, h.1]
theorem KV.length {kvs : List (κ × V)} {vs : List (κ × Value)} (r : KV kvs vs) : kvs.length = vs.length := Paired.length r
end
abbrev KT (H : Hp) : List (List Key × V) -> List (List Key × Addr × Value) -> Prop := Paired fun p q => p.1 = q.1 /\ H q.2.1 = some (.tup (p.1.map kV)) /\ RelV p.2 q.2.2
theorem KT.val {H : Hp} {kvs : List (List Key × V)} {xs : List (List Key × Addr × Value)} (r : KT H kvs xs) (k : List Key) : RelO (valV kvs k) ((atKey xs k).map (·.2)) := by
  induction r with
  | nil => exact True.intro
  | @cons p q ps qs h t ih =>
    obtain ⟨h1, _, h2⟩ := h
    by_cases e : p.1 = k
    . have e' : q.1 = k := h1.symm.trans e
      have b : atKey (q :: qs) k = some q.2 := by simp [atKey, Yi, e']
      rw [lp e, b]; exact h2
    . have e' : ¬ q.1 = k := fun z => e (h1.trans z)
      have b : atKey (q :: qs) k = atKey qs k := by simp [atKey, Yi, e']
      rw [lu e, b]; exact ih
theorem KT.repl {H : Hp} {kvs : List (List Key × V)} {xs : List (List Key × Addr × Value)} (r : KT H kvs xs) (k : List Key) {y : V} {u : Value} (ry : RelV y u) :
    KT H (kvs.map fun kv => if kv.1 = k then (kv.1, y) else kv) (xs.map (putAt k u)) := by
  induction r with
  | nil => exact .nil
  | @cons p q ps qs h t ih =>
    rw [ZM, ZM];refine .cons ?_ ih;obtain ⟨h1, h2, h3⟩ := h;unfold putAt
    by_cases e : p.1 = k
    . rw [if_pos e, if_pos (h1.symm.trans e)]; exact ⟨h1, h2, ry⟩
    . rw [if_neg e, if_neg (fun z => e (h1.trans z))]; exact ⟨h1, h2, h3⟩
theorem KT.put {H : Hp} {kvs : List (List Key × V)} {xs : List (List Key × Addr × Value)} (r : KT H kvs xs) (k : List Key) {b : Addr} {y : V} {u : Value} (hb : H b = some (.tup (k.map kV))) (ry : RelV y u) :
    KT H (putK kvs k y) (storedH xs k b u) := by
  have e : (kvs.any fun kv => decide (kv.1 = k)) = (atKey xs k).isSome := by
    rw [g6, (r.val k).isSome_eq, Option.isSome_map]
  unfold putK storedH;rw [e]
  by_cases q : (atKey xs k).isSome = true
  . rw [if_pos q, if_pos q]; exact r.repl k ry
  . rw [if_neg q, if_neg q]; exact Paired.snoc r ⟨rfl, hb, ry⟩
theorem KT.keeps {H H' : Hp} {kvs : List (List Key × V)} {xs : List (List Key × Addr × Value)} (r : KT H kvs xs) (ht : ∀ b ys, H b = some (.tup ys) -> H' b = some (.tup ys)) : KT H' kvs xs :=
  Paired.mapP r fun _ _ z => ⟨z.1, ht _ _ z.2.1, z.2.2⟩
section
variable {P : Program} {w : World} {H : Hp} {h : Heap} {a : Addr}
end
def DGet (H : Hp) (a : Addr) (y : V) (r : Option V) : Prop :=
  (∃ kvs k, Rd H a (.dK kvs) /\ y = kV k /\ r = valV kvs k) \/ ∃ kvs k b, Rd H a (.dT kvs) /\ y = .ref b /\ H b = some (.tup (k.map kV)) /\ r = valV kvs k
def DPut (H : Hp) (a : Addr) (y v : V) (H' : Hp) : Prop :=
  (∃ kvs k, H a = some (.dK kvs) /\ y = kV k /\ kvs.length < sizeLine /\ H' = upd H a (.dK (putK kvs k v))) \/
  ∃ kvs k b, H a = some (.dT kvs) /\ y = .ref b /\ H b = some (.tup (k.map kV)) /\ kvs.length < sizeLine /\ H' = upd H a (.dT (putK kvs k v))
theorem DGet.k {H : Hp} {a : Addr} {kvs : List (Key × V)} {k : Key} (e : H a = some (.dK kvs)) : DGet H a (kV k) (valV kvs k) := .inl ⟨kvs, k, .inl e, rfl, rfl⟩
theorem DGet.t {H : Hp} {a b : Addr} {kvs : List (List Key × V)} {k : List Key} (e : H a = some (.dT kvs)) (eb : H b = some (.tup (k.map kV))) : DGet H a (.ref b) (valV kvs k) := .inr ⟨kvs, k, b, .inl e, rfl, eb, rfl⟩
theorem DPut.k {H : Hp} {a : Addr} {kvs : List (Key × V)} {k : Key} {v : V} (e : H a = some (.dK kvs)) (hl : kvs.length < sizeLine) : DPut H a (kV k) v (upd H a (.dK (putK kvs k v))) := .inl ⟨kvs, k, e, rfl, hl, rfl⟩
theorem DPut.t {H : Hp} {a b : Addr} {kvs : List (List Key × V)} {k : List Key} {v : V} (e : H a = some (.dT kvs)) (eb : H b = some (.tup (k.map kV))) (hl : kvs.length < sizeLine) :
    DPut H a (.ref b) v (upd H a (.dT (putK kvs k v))) := .inr ⟨kvs, k, b, e, rfl, eb, hl, rfl⟩
section
variable {X : Cx} {pins : List (Addr × Obj)} {σ : St} {H : Hp} {s : Shared} {a : Addr} {y v : V} {u r : Value} {o : Option V} {A : Around} {E : Value -> Shared -> Prop}
theorem Inv.big (I : Inv X pins σ H s) : sysModules < s.heap.objs.size := by
  have h : mainGlobals < s.heap.objs.size := (I.mod.glob.keeps I.bk).lt;exact Nat.lt_trans (by decide) h
end
section
variable {X : Cx} {pins : List (Addr × Obj)} {σ : St} {H : Hp} {s : Shared} {a : Addr} {kvs : List (Key × V)} {k : Key} {u : Value} {A : Around} {E : Value -> Shared -> Prop}
end
def tDGet (td ty : TE) : TE := fun σ H Q => td σ H fun x H1 => ty σ H1 fun y H2 => ∃ a v, x = .ref a /\ DGet H2 a y (some v) /\ Q v H2
section
variable {X : Cx} {o i e value : Expr} {pos pos' tpos : Pos} {td ty tv : TE}
end
theorem zb8 {P : Program} {w : World} {H : Hp} (h : Heap) (hb : sysModules < h.objs.size) : ObjOk P w H (h.push { cls := .type "dict", data := .dict #[] }) h.objs.size (.dK []) :=
  ⟨ZE _, beq_eq_false_iff_ne.mpr (Ne.symm (Zs hb)), [], .nil, Heap.DictOf.new h⟩
def gu : TE := fun _ H Q => ∀ p, H p = none -> Q (.ref p) (upd H p (.dK []))
def tDNewT : TE := fun _ H Q => ∀ p, H p = none -> Q (.ref p) (upd H p (.dT []))
section
variable {X : Cx} {pos : Pos}
theorem zco : PE X (.Dict [] [] pos) gu := fun pins s σ H Q I h =>
  wpAny_Dict_empty ⟨.ref s.heap.objs.size, _, I.laid (a := s.heap.objs.size) (o := .dK []) (t' := s.toks) (fun _ _ q => Heap.get?_push_of_some _ q) (Zm _) (zb8 s.heap I.big), rfl, h _ (I.hok.fresh (Zm _))⟩
end
section
variable {X : Cx} {pins : List (Addr × Obj)} {σ : St} {H : Hp} {s : Shared} {a : Addr} {y d : V} {u r : Value} {o : Option V} {A : Around} {E : Value -> Shared -> Prop}
end
section
variable {X : Cx} {o e f : Expr} {apos cpos : Pos} {td ty tx : TE}
end
section
variable {X : Cx} {pins : List (Addr × Obj)} {σ : St} {H : Hp} {s : Shared} {a : Addr} {kvs : List (Key × V)} {A : Around} {E : Value -> Shared -> Prop}
end
section
variable {X : Cx} {pins : List (Addr × Obj)} {σ : St} {H : Hp} {s : Shared} {a : Addr} {y : V} {u : Value} {A : Around} {E : Value -> Shared -> Prop}
end
end L2
namespace L2
open PySem PySem.Spec PyProof.Rows
section
variable {X : Cx}
end
section
variable {κ : Type} [DecidableEq κ]
end
end L2
namespace L2
open PySem PySem.Spec PyProof.Rows
def je (ns : List (Str × NameKind)) (y n : Str) : Bool := match ns.lookup y with
  | some .free => y == n
  | some .local => false
  | some .cell => false
  | _ => true
def wv (ns : List (Str × NameKind)) : List Str -> List Str -> Bool
  | [], [] => true
  | y :: ys, n :: ms => je ns y n && wv ns ys ms
  | _, _ => false
def sd (ns : List (Str × NameKind)) (env : Env) : Bool := ns.all fun y => !(y.2 == .free) || (env.kindOf y.1 == some .cell || env.kindOf y.1 == some .free)
def rm (ns : List (Str × NameKind)) : Bool := ns.all fun y => !(y.2 == .cell) && (!(y.2 == .local) || ns.lookup y.1 == some .local)
theorem l9 {ns : List (Str × NameKind)} : ∀ {N2 N : List Str} {i : Nat} {y : Str}, wv ns N2 N = true -> N2[i]? = some y -> je ns y y = true /\ (ns.lookup y = some .free -> N[i]? = some y)
  | [], [], _, _, _, e => by simp at e
  | y' :: ys, n :: ms, 0, y, h, e => by
    simp at e; subst e;unfold wv at h;rw [Bool.and_eq_true] at h;refine ⟨?_, fun hf => ?_⟩
    . have h1 := h.1
      unfold je at h1 ⊢
      split at h1 <;> first | rfl | (exact absurd h1 Bool.false_ne_true) | (exact beq_self_eq_true _)
    . have h1 := h.1
      unfold je at h1;rw [hf] at h1;have e : y' = n := eq_of_beq h1;simp [e]
  | y' :: ys, n :: ms, i + 1, y, h, e => by
    unfold wv at h;rw [Bool.and_eq_true] at h;obtain ⟨h1, h2⟩ := l9 (i := i) (y := y) h.2 (by simpa using e);exact ⟨h1, fun hf => by simpa using h2 hf⟩
  | [], _ :: _, _, _, h, _ => by cases h
  | _ :: _, [], _, _, h, _ => by cases h
theorem rz {ns : List (Str × NameKind)} {env : Env} (h : sd ns env = true) {y : Str × NameKind} (hy : y ∈ ns) (hf : y.2 = .free) : env.kindOf y.1 = some .cell \/ env.kindOf y.1 = some .free := by
  have q := ZQ.mp h y hy;rw [hf] at q
  simpa using q
theorem ow {ns : List (Str × NameKind)} (h : rm ns = true) : ∀ y ∈ ns, y.2 ≠ .cell := fun y hy e => by
  have q := ZQ.mp h y hy;rw [e] at q;simp at q
theorem pw {ns : List (Str × NameKind)} (h : rm ns = true) : ∀ y ∈ ns, y.2 = .local -> ns.lookup y.1 = some .local := fun y hy e => by
  have q := ZQ.mp h y hy;rw [e] at q
  simpa using q
theorem uw {env : Env} {x : Str} : ∀ {ns : List (Str × NameKind)}, (ns.map fun (n, k) => if (k == NameKind.free && env.scope.kind == .function && env.kindOf n == some .cell) then (n, NameKind.cell) else (n, k)).lookup x =
    (ns.lookup x).map fun k => if (k == NameKind.free && env.scope.kind == .function && env.kindOf x == some .cell) then NameKind.cell else k
  | [] => rfl
  | (n, k) :: r => by
    have ih := @uw env x r
    show List.lookup x ((if (k == NameKind.free && env.scope.kind == .function && env.kindOf n == some .cell) = true then (n, NameKind.cell) else (n, k)) :: _) = _
    cases hx : x == n with
    | true =>
      have e : x = n := eq_of_beq hx;subst e;simp only [ZF, beq_self_eq_true]
      by_cases hc : (k == NameKind.free && env.scope.kind == .function && env.kindOf x == some .cell) = true
      . rw [if_pos hc]; simp only [ZF, beq_self_eq_true, YI]; rw [if_pos hc]
      . rw [if_neg hc]; simp only [ZF, beq_self_eq_true, YI]; rw [if_neg hc]
    | false =>
      simp only [ZF, hx]
      by_cases hc : (k == NameKind.free && env.scope.kind == .function && env.kindOf n == some .cell) = true
      . rw [if_pos hc]; simp only [ZF, hx]; exact ih
      . rw [if_neg hc]; simp only [ZF, hx]; exact ih
theorem nh {scope : Scope} {env : Env} (h : ∀ y ∈ scope.names, y.2 = .free -> ∃ c, env.cells.lookup y.1 = some c) :
    ∃ cl, closureFor scope env = pure cl /\ (∀ x c, cl.lookup x = some c -> env.cells.lookup x = some c) /\ (∀ y ∈ scope.names, y.2 = .free -> ∃ c, cl.lookup y.1 = some c) := by
  have all : ∀ (ns : List (Str × NameKind)) (cs : List (Str × Addr)), (∀ y ∈ ns, y.2 = .free -> ∃ c, env.cells.lookup y.1 = some c) -> (∀ x c, cs.lookup x = some c -> env.cells.lookup x = some c) ->
      ∃ cl, (forIn ns cs fun x r => (if (x.2 == NameKind.free) = true then do let a <- cellOf env x.1; pure (ForInStep.yield ((x.1, a) :: r)) else pure (ForInStep.yield r) : Sem (ForInStep (List (Str × Addr))))) = pure cl /\
        (∀ x c, cl.lookup x = some c -> env.cells.lookup x = some c) /\ (∀ x, (cs.lookup x).isSome = true -> (cl.lookup x).isSome = true) /\ (∀ y ∈ ns, y.2 = .free -> ∃ c, cl.lookup y.1 = some c) := by
    intro ns
    induction ns with
    | nil => intro cs _ hc; exact ⟨cs, rfl, hc, fun _ z => z, fun _ z => nomatch z⟩
    | cons y r ih =>
      intro cs hh hc;have hr : ∀ z ∈ r, z.2 = .free -> ∃ c, env.cells.lookup z.1 = some c := fun z hz => hh z (Zv _ hz)
      by_cases hf : y.2 = .free
      . obtain ⟨c, ec⟩ := hh y ZA hf
        have hc' : ∀ x d, ((y.1, c) :: cs).lookup x = some d -> env.cells.lookup x = some d := fun x d e => by
          rw [ZF] at e
          cases hx : x == y.1 with
          | true =>
            rw [hx] at e;have e2 : x = y.1 := eq_of_beq hx;cases e;rw [e2]; exact ec
          | false =>
            rw [hx] at e;exact hc x d e
        obtain ⟨cl, e1, e2, e3, e4⟩ := ih ((y.1, c) :: cs) hr hc';refine ⟨cl, ?_, e2, fun x hx => e3 x ?_, fun z hz hzf => ?_⟩
        . rw [List.forIn_cons]
          have ek : (y.2 == NameKind.free) = true := by rw [hf]; rfl
          simp only [ek, if_true, cellOf, ec, pure_bind];exact e1
        . rw [ZF]; split <;> first | rfl | exact hx
        . rcases ZK.mp hz with rfl | hz
          . have := e3 z.1 (by rw [ZF, beq_self_eq_true]; rfl)
            exact ZT.mp this
          . exact e4 z hz hzf
      . obtain ⟨cl, e1, e2, e3, e4⟩ := ih cs hr hc
        refine ⟨cl, ?_, e2, e3, fun z hz hzf => ?_⟩
        . rw [List.forIn_cons]
          have ek : (y.2 == NameKind.free) = false := by simpa using hf
          simp only [ek, Bool.false_eq_true, if_false, pure_bind];exact e1
        . rcases ZK.mp hz with rfl | hz
          . exact absurd hzf hf
          . exact e4 z hz hzf
  obtain ⟨cl, e1, e2, _, e4⟩ := all scope.names [] h (fun _ _ z => by cases z);refine ⟨cl, ?_, e2, e4⟩;unfold closureFor
  first
    | (rw [show (forIn scope.names ([] : List (Str × Addr)) _ : Sem (List (Str × Addr))) = pure cl from e1]; rfl)
    | (simp only [bind_pure]; exact e1)
    | (show (forIn scope.names [] _ >>= _) = _; exact (congrArg (fun t => t >>= fun cs => pure cs) e1))
structure Dyn where
  cl : List (Str × Addr)
  C : Addr
  s₀ : Shared
  H₀ : Hp
  fp : List Addr
abbrev z8 (X : Cx) (scope : Scope) (N' : List Str) (d : Dyn) : Cx where
  prog := X.prog
  w := X.w
  K := X.K
  mg := X.mg
  base := X.base
  A := X.A
  N := N'
  s₀ := d.s₀
  H₀ := d.H₀
  env := compEnvC scope d.cl d.C X.env
  outer := X.stack
  stack := X.stack
  ex := d.fp
  fn := fun _ => false
  calm := true
  pn := []
  xe := fun _ _ => False
theorem e6 {prog : Program} {w : World} {A : Around} {R : Result -> Shared -> Prop} {s : Shared} {elt target iter : Expr} {ifs : List Expr} {scope : Scope} {pos : Pos} {it acc : Value} {env : Env} (I : Nat -> Shared -> Prop)
    (turn : ∀ n s, I n s -> wpAny (model prog w) A (pyNext it) (fun r s₁ => match r with
      | none => R (.ok .next) s₁
      | some v => wpAny (model prog w) A (letOwnedTupleGo target it v) (fun _ s₁' => wpAny (model prog w) A (assign target env v) (fun _ s₂ =>
          wpAny (model prog w) A (forIn ifs true fun c r => if r = true then do let ok <- isTrue c env (eval c env); pure (ForInStep.yield ok) else pure (ForInStep.yield r)) (fun ok s₃ =>
            if ok = true then wpAny (model prog w) A (eval elt env) (fun x s₄ =>
              wpAny (model prog w) A (call (.builtin "list.append") [acc, x]) (fun _ s₅ => ∃ m, m < n /\ I m s₅) (fun _ _ => False) s₄) (fun _ _ => False) s₃
            else ∃ m, m < n /\ I m s₃) (fun _ _ => False) s₂) (fun _ _ => False) s₁') (fun _ _ => False) s₁) (fun _ _ => False) s)
    (n : Nat) (h : I n s) :
    codeAny (model prog w) A (.compLoop (.ListComp elt [⟨target, iter, ifs, 0⟩] scope pos) 0 it acc env) R s := by
  refine codeAny_loop rfl I (fun n s hI => ?_) n h
  show wpAny _ A ((compTurn (.ListComp elt [⟨target, iter, ifs, 0⟩] scope pos) 0 it acc env).onRaise (fun x => do noteFrame x env; theTreesLotGoes x)) _ _ s
  refine wpAny_noted ?_;rw [compTurn_list];refine wpAny_bind (wpAny_standAt (wpAny_bind (wpAny_mono (turn n s hI) (fun r s₁ h₁ => ?_) fun _ _ f => f.elim)))
  cases r with
  | none => exact wpAny_pure h₁
  | some v =>
    refine wpAny_bind (wpAny_mono h₁ (fun _ s₁' h₁' => ?_) fun _ _ f => f.elim);refine wpAny_bind (wpAny_mono h₁' (fun _ s₂ h₂ => wpAny_bind (wpAny_mono h₂ (fun ok s₃ h₃ => ?_) fun _ _ f => f.elim)) fun _ _ f => f.elim)
    cases ok with
    | false => exact wpAny_pure ⟨rfl, h₃⟩
    | true =>
      exact wpAny_bind (wpAny_bind (wpAny_mono h₃ (fun x s₄ h₄ => wpAny_bind (wpAny_mono h₄ (fun _ s₅ h₅ => wpAny_pure (wpAny_pure ⟨rfl, h₅⟩)) fun _ _ f => f.elim)) fun _ _ f => f.elim))
def PTs (X : Cx) (ifs : List Expr) (t : TT) : Prop :=
  ∀ (pins : List (Addr × Obj)) (s : Shared) (σ : St) (H : Hp) (Q : Bool -> Hp -> Prop), Inv X pins σ H s -> t σ H Q ->
    wpAny (model X.prog X.w) X.A (forIn ifs true fun c r => if r = true then do let ok <- isTrue c X.env (eval c X.env); pure (ForInStep.yield ok) else pure (ForInStep.yield r)) (TP X pins σ Q) X.xe s
def tAll : TT := fun _ H Q => Q true H
theorem ym {X : Cx} : PTs X [] tAll := fun _ _ _ H _ I h => wpAny_tests_nil ⟨H, I, h⟩
theorem cu {X : Cx} {c : Expr} {t : TT} (h : PT X c t) : PTs X [c] t := fun pins s σ H Q I q => wpAny_tests_one (h pins s σ H Q I q)
def pk (J : It) (σ : St) (k : Nat) (g : TG) (tt : TT) (te : TE) (H1 : Hp) (Fin : List V -> Hp -> Prop) : Prop :=
  ∃ W : Nat -> Nat -> List V -> Hp -> Prop, (∃ m, W 0 m [] H1) /\ ∀ i m ys H, W i m ys H -> ys.length <= sizeLine /\
    ((J.stop i H /\ Fin ys H) \/ (J.go i H /\ ∃ N : List V -> Hp -> Prop, (∀ ys' H', N ys' H' -> ∃ m', m' < m /\ W (i + 1) m' ys' H') /\ ∀ x H', J.yld i H x H' -> g x (List.replicate k none ++ σ) H' fun σ2 H2 => σ2.drop k = σ /\
      tt σ2 H2 fun b H3 => if b = true then te σ2 H3 fun v H4 => N (ys ++ [v]) H4 else N ys H3))
abbrev lobj (its : List Value) : Obj := { cls := .type "list", data := .seq its.toArray its.length }
section
variable {X : Cx} {pins : List (Addr × Obj)} {σ : St} {H2 : Hp} {s₂ : Shared} {scope : Scope} {ts N2 : List Str} {cl : List (Str × Addr)} {C D : Addr} {fp : List Addr}
theorem zc9 (I2 : Inv X pins σ H2 s₂) (hc : X.calm = true) (f2 : ∀ b ∈ fp, FpOk X pins H2 b /\ b < s₂.heap.objs.size) (hkind : scope.kind = .function) (hown : rm scope.names = true) (hfree : sd scope.names X.env = true)
    (hcl1 : ∀ x c, cl.lookup x = some c -> X.env.cells.lookup x = some c) (hcl2 : ∀ y ∈ scope.names, y.2 = .free -> ∃ c, cl.lookup y.1 = some c) (hC : s₂.heap.objs.size <= C) :
    (z8 X scope (ts ++ N2) ⟨cl, C, s₂, H2, fp⟩).Ok := by
  refine ⟨I2.ok.mod, hkind, I2.ok.glob, I2.ok.blt, hC, fun x y c e1 e2 => I2.ok.inj x y c (hcl1 _ _ e1) (hcl1 _ _ e2), fun x hx => ?_, fun x c z _ => absurd (show false = true from z) Bool.false_ne_true, fun _ => I2.ok.hd hc, I2.ok.frames, .inl rfl, fun b hb => ?_, I2.bs, Zd I2.ok.bsz I2.sz, fun b o e hb => ?_, fun b hb hfs => ?_, I2.stack, I2.stkFree⟩
  . have hx' : (relabel scope X.env).names.lookup x = some .cell \/ (relabel scope X.env).names.lookup x = some .free := hx
    have e0 : (relabel scope X.env).names.lookup x = _ := uw (env := X.env) (x := x) (ns := scope.names);rw [e0] at hx'
    cases q : scope.names.lookup x with
    | none => rw [q] at hx'; simp at hx'
    | some k =>
      rw [q] at hx';simp only [YI, Option.some.injEq] at hx';have hm : (x, k) ∈ scope.names := PySem.mem_of_lookup q
      have hk : k = .free := by
        have nc := ow hown _ hm
        split at hx'
        . rename_i hcond
          simp only [Bool.and_eq_true] at hcond;exact eq_of_beq hcond.1.1
        . rcases hx' with z | z
          . exact absurd z nc
          . exact z
      exact hcl2 _ hm hk
  . obtain ⟨⟨f0, f1, f3, f4, f5, f6⟩, hlt⟩ := f2 b hb
    exact ⟨Zs (Zh hlt hC), fun x c e => f5 x c (hcl1 x c e)⟩
  . obtain ⟨⟨f0, f1, f3, f4, f5, f6⟩, hlt⟩ := f2 b hb
    rcases f4 with z | z
    . exact I2.ok.noex b o e z
    . exact absurd (Zh (Heap.lt_size e) (Zd I2.ok.bsz z)) (ZJ _)
  . obtain ⟨⟨f0, f1, f3, f4, f5, f6⟩, hlt⟩ := f2 b hb
    rcases ZK.mp (I2.stkSub b hfs) with z | z
    . exact f1 z
    . exact f3 z
theorem ko (I2 : Inv X pins σ H2 s₂) (hc : X.calm = true) (f2 : ∀ b ∈ fp, FpOk X pins H2 b /\ b < s₂.heap.objs.size) (hkind : scope.kind = .function) (hown : rm scope.names = true) (hfree : sd scope.names X.env = true) (hout : wv scope.names N2 X.N = true)
    (hcl1 : ∀ x c, cl.lookup x = some c -> X.env.cells.lookup x = some c) (hcl2 : ∀ y ∈ scope.names, y.2 = .free -> ∃ c, cl.lookup y.1 = some c) (hC : s₂.heap.objs.size <= C) (hDC : D ≠ C) (hD : s₂.heap.objs.size <= D)
    {h₁ : Heap} {tk : Nat} {m : Str -> Option Value} (hn : h₁.Ns C m) (old : ∀ b o, s₂.heap.get? b = some o -> h₁.get? b = some o) (hacc : h₁.get? D = some (lobj [])) :
    Inv (z8 X scope (ts ++ N2) ⟨cl, C, s₂, H2, fp⟩) [(D, lobj [])] (List.replicate ts.length none ++ σ) H2 { s₂ with heap := h₁, toks := tk } := by
  have ok := zc9 (ts := ts) (N2 := N2) I2 hc f2 hkind hown hfree hcl1 hcl2 hC
  have hlN : ∀ {a b : List Str}, wv scope.names a b = true -> a.length = b.length := by
    intro a
    induction a with
    | nil => intro b h; cases b with | nil => rfl | cons _ _ => cases h
    | cons y ys ih =>
      intro b h
      cases b with
      | nil => cases h
      | cons n ms =>
        unfold wv at h;rw [Bool.and_eq_true] at h;rw [ZL, ZL, ih h.2]
  refine ⟨ok, rfl, I2.bare, Un.kept old, ⟨m, hn, fun i x v e1 e2 e3 => ?_⟩, fun x c e => ?_, ?_, fun x c e => I2.freeC x c (hcl1 x c e), fun p hp => ?_, I2.hok.kept old, ?_⟩
  . by_cases hi : i < ts.length
    . rw [Zg (by simpa using hi), Yg] at e2
      split at e2 <;> cases e2
    . have hi' : ts.length <= i := ZD.mp hi
      rw [Zf (by simpa using hi')] at e2;rw [ZI] at e2;have e1' : (ts ++ N2)[i]? = some x := e1;rw [Zf hi'] at e1';obtain ⟨k1, k2⟩ := l9 hout e1';have e0 : (relabel scope X.env).names.lookup x = _ := uw (env := X.env) (x := x) (ns := scope.names);have e3' : (relabel scope X.env).names.lookup x = some .local \/ (relabel scope X.env).names.lookup x = some .cell \/ (relabel scope X.env).names.lookup x = some .free := e3;rw [e0] at e3'
      cases q : scope.names.lookup x with
      | none => rw [q] at e3'; simp at e3'
      | some k =>
        have hm : (x, k) ∈ scope.names := PySem.mem_of_lookup q
        have hk : k = .free := by
          unfold je at k1;rw [q] at k1 e3'
          cases k with
          | free => rfl
          | «local» => cases k1
          | cell => cases k1
          | _ => exfalso; revert e3'; simp
        subst hk;obtain ⟨mo, hmo, hl⟩ := I2.loc;have hkv := rz hfree hm rfl;have vis : Vis X.env.scope x := hkv.elim (fun z => .inr (.inl z)) fun z => .inr (.inr z)
        obtain ⟨u, r, l⟩ := hl _ x v (k2 q) e2 vis;refine ⟨u, r, .inr ⟨?_, ?_⟩⟩
        . show (relabel scope X.env).names.lookup x = some .cell \/ (relabel scope X.env).names.lookup x = some .free
          rw [e0, q];simp only [YI, Option.some.injEq]
          split
          . exact .inl rfl
          . exact .inr rfl
        . rcases l with ⟨kl, _⟩ | ⟨_, c, ec, z⟩
          . exfalso
            rcases hkv with z | z <;> (rw [kl] at z; cases z)
          . obtain ⟨c', ec'⟩ := hcl2 _ hm rfl
            have := hcl1 _ _ ec';rw [ec] at this;cases this;obtain ⟨o, ho, hd⟩ := z;exact ⟨c, ec', o, old _ _ ho, hd⟩
  . obtain ⟨v, o, ho, hd⟩ := I2.cell x c (hcl1 x c e)
    exact ⟨v, o, old _ _ ho, hd⟩
  . exact I2.hok.fresh hC
  . have e : p = (D, lobj []) := by simpa using hp
    subst e;refine ⟨hacc, I2.hok.fresh hD, hDC, fun z => ?_, fun v z => by cases z⟩
    rcases ZK.mp (I2.stkSub D z) with z | z
    . exact absurd (Zh I2.lt (by rw [<- z]; exact hD)) (ZJ _)
    . exact I2.nofs hD z
  . show (List.replicate ts.length none ++ σ).length = (ts ++ N2).length
    rw [Zo, Zo, ZI, I2.len, hlN hout]
theorem fe (I2 : Inv X pins σ H2 s₂) (f2 : ∀ b ∈ fp, FpOk X pins H2 b) (hD : s₂.heap.objs.size <= D) {σ' : St} {H' : Hp} {s' : Shared} {its : List Value} {ys : List V} {pl : List (Addr × Obj)}
    (J : Inv (z8 X scope (ts ++ N2) ⟨cl, C, s₂, H2, fp⟩) pl σ' H' s') (hp : s'.heap.get? D = some (lobj its)) (hn : H' D = none) (hv : Vals ys its) (hz : ys.length <= sizeLine) : Inv X pins σ (upd H' D (.lst ys)) s' := by
  have neD : ∀ b o, s₂.heap.get? b = some o -> b ≠ D := fun b o e => Zs (Zh (Heap.lt_size e) hD)
  have neH : ∀ b o, H2 b = some o -> b ≠ D := fun b o e => Zs (Zh (I2.hok.lt e) hD)
  have u := J.base
  have un : Un (frs X.stack) fp H2 (upd H' D (.lst ys)) s₂.heap s'.heap :=
    ⟨u.keep, u.slot, fun b o e n hx => by rw [zy (neD b o e)]; exact u.free b o e n hx, u.there, fun b xs e => by rw [zy (neH b _ e)]; exact u.tups b xs e, fun b o v e => by rw [zy (neH b _ e)]; exact u.frzs b o v e,
      fun b ps e => by rw [zy (neH b _ e)]; exact u.tbls b ps e⟩
  have hok : HOk X.prog X.w (upd H' D (.lst ys)) s'.heap := fun b o e => by
    by_cases hb : b = D
    . subst hb
      rw [zc] at e;cases e;exact ⟨hz, its, its.length, hv, hp⟩
    . rw [zy hb] at e
      exact (J.hok b o e).stay (fun c v _ q => q) (fun c q => by rw [zy (xf q hn)]; exact q) fun c xs q => by rw [zy (xf q hn)]; exact q
  exact I2.call' (ch := fp) J.os un hok J.bare fun b hb => by
    obtain ⟨f0, f1, f3, f4, f5, f6⟩ := f2 b hb;exact ⟨f4, f1, f5, f6⟩
theorem k8 {E : Value -> Shared -> Prop} {tg elt iter : Expr} {ifs : List Expr} {pos : Pos} {it : Addr} {tn : Nat -> Heap -> Prop} {J : It} {g : Dyn -> TG} {tt : Dyn -> TT} {te : Dyn -> TE} {RR : Value -> Addr -> Result -> Shared -> Prop} {Fin : List V -> Hp -> Prop}
    (I2 : Inv X pins σ H2 s₂) (hc : X.calm = true) (T : Turn X.prog X.w X.K tg J fp it tn) (st : tn 0 s₂.heap) (f2 : ∀ b ∈ fp, FpOk X pins H2 b) (hkind : scope.kind = .function) (hown : rm scope.names = true) (hfree : sd scope.names X.env = true) (hout : wv scope.names N2 X.N = true)
    (hcl1 : ∀ x c, cl.lookup x = some c -> X.env.cells.lookup x = some c) (hcl2 : ∀ y ∈ scope.names, y.2 = .free -> ∃ c, cl.lookup y.1 = some c)
    (hg : ∀ d, PG (z8 X scope (ts ++ N2) d) tg (g d)) (ht : ∀ d, PTs (z8 X scope (ts ++ N2) d) ifs (tt d)) (he : ∀ d, PE (z8 X scope (ts ++ N2) d) elt (te d))
    (hW : ∀ d, pk J σ ts.length (g d) (tt d) (te d) H2 Fin)
    (hRR : ∀ D C s' H' ys, s₂.heap.objs.size <= C -> C ≠ D -> Inv X pins σ (upd H' D (.lst ys)) s' -> H' D = none -> H' C = none -> (∃ m, s'.heap.Ns C m) -> ys.length <= sizeLine -> Fin ys H' -> RR (.ref D) C (.ok .next) s') :
    wpAny (model X.prog X.w) X.A (newList []) (fun acc s₃ => wpAny (model X.prog X.w) X.A (newFunctionEnv scope X.env.globals cl [] X.env.qual none .none (some X.env)) (fun cenv s₄ =>
      codeAny (model X.prog X.w) X.A (.compStart (.ListComp elt [⟨tg, iter, ifs, 0⟩] scope pos) 0 (.ref it) acc { cenv with scope := relabel scope X.env }) (RR acc cenv.locals) s₄) E s₃) E s₂ := by
  refine wpAny_newObj_type (wpAny_newFunctionEnv (ow hown) (by intro y hy; simp at hy) (fun h₁ hns₁ hsb₁ => ?_) hkind);dsimp only at hns₁ hsb₁ ⊢;generalize hH2 : s₂.heap.push { cls := .type "list", dict := none, data := .seq ([] : List Value).toArray } = HP at hns₁ hsb₁ ⊢;have hC : HP.objs.size = s₂.heap.objs.size + 1 := by rw [<- hH2, Heap.size_push]
  have hDC : s₂.heap.objs.size ≠ HP.objs.size := by rw [hC]; exact Zs (YD _)
  have hCle : s₂.heap.objs.size <= HP.objs.size := by rw [hC]; exact Xc _
  have below : ∀ b, b < s₂.heap.objs.size -> b ≠ HP.objs.size /\ b ≠ s₂.heap.objs.size := fun b hb => ⟨by rw [hC]; exact Zs (Yy hb), Zs hb⟩
  have old : ∀ b o, s₂.heap.get? b = some o -> h₁.get? b = some o := fun b o e => hsb₁.extBut b o (below b (Heap.lt_size e)).1 (Heap.get?_push_of_some _ (hH2 ▸ Heap.get?_push_of_some _ e))
  have hacc : h₁.get? s₂.heap.objs.size = some (lobj []) := hsb₁.extBut _ _ hDC (Heap.get?_push_of_some _ (hH2 ▸ Heap.get?_push_size _ rfl))
  have flt : ∀ b ∈ fp, b < s₂.heap.objs.size := fun b hb => by
    obtain ⟨o, e, _⟩ := T.obj _ _ st b hb;exact Heap.lt_size e
  generalize hDD : s₂.heap.objs.size = D at *;generalize hCC : HP.objs.size = C at *;have hDle : s₂.heap.objs.size <= D := YW hDD;have I4 := fun (tk : Nat) => ko (ts := ts) (D := D) (C := C) (tk := tk) I2 hc (fun b hb => ⟨f2 b hb, by rw [hDD]; exact flt b hb⟩) hkind hown hfree hout hcl1 hcl2 (by rw [hDD]; exact hCle) hDC hDle hns₁ old hacc
  generalize hd : (⟨cl, C, s₂, H2, fp⟩ : Dyn) = d at *;obtain ⟨W, ⟨m0, w0⟩, turn⟩ := hW d
  have Xs : ∀ {pl : List (Addr × Obj)} {H' : Hp}, (∀ b ∈ fp, H' b = none) -> (∀ p ∈ pl, p.1 = D) -> ∀ b ∈ fp, FpOk (z8 X scope (ts ++ N2) d) pl H' b := fun {pl H'} hn hp b hb => by
    subst hd;obtain ⟨f0, f1, f3, f4, f5, f6⟩ := f2 b hb;refine ⟨hn b hb, (below b (flt b hb)).1, fun z => ?_, .inl hb, fun x c e => f5 x c (hcl1 x c e), fun p hp' => ?_⟩
    . rcases ZK.mp (I2.stkSub b z) with z | z
      . exact f1 z
      . exact f3 z
    . rw [hp p (by simpa using hp')]
      exact Ne.symm (below b (flt b hb)).2
  have loop : ∀ s₃ : Shared, s₃ = { s₂ with heap := h₁, toks := s₂.toks + ([] : List (Str × Value)).length } ->
      codeAny (model X.prog X.w) X.A (.compLoop (.ListComp elt [⟨tg, iter, ifs, 0⟩] scope pos) 0 (.ref it) (.ref D) (compEnvC scope cl C X.env)) (RR (.ref D) C) s₃ := by
    rintro s₃ rfl
    refine e6 (fun n s' => ∃ i ys H' its, Inv (z8 X scope (ts ++ N2) d) [(D, lobj its)] (List.replicate ts.length none ++ σ) H' s' /\ tn i s'.heap /\ (∀ b ∈ fp, H' b = none) /\ Vals ys its /\ W i n ys H') ?_ m0
      ⟨0, [], H2, [], I4 _, T.keep _ _ _ st fun b _ o e => old b o e, fun b hb => (f2 b hb).1, .nil, w0⟩
    rintro n s3 ⟨i, ys, H3, its, I3, st3, fr3, hv3, w3⟩
    obtain ⟨hlen, tr⟩ := turn i n ys H3 w3
    have one : ∀ p ∈ [(D, lobj its)], p.1 = D := fun p hp => by
      have e : p = (D, lobj its) := by simpa using hp
      rw [e]
    have eenv : (z8 X scope (ts ++ N2) d).env = compEnvC scope cl C X.env := by subst hd; rfl
    rcases tr with ⟨stop, fin⟩ | ⟨go, N, hN, step⟩
    . refine thn (T.done (z8 X scope (ts ++ N2) d) rfl rfl rfl rfl i _ s3 _ H3 (fun _ _ => False) I3 (Xs fr3 one) st3 stop) fun r s4 ⟨hr, J4⟩ => ?_
      subst hr
      show RR (.ref D) C (.ok .next) s4
      obtain ⟨pe, pn, _⟩ := J4.pin (D, lobj its) (by simp);have fC : H3 C = none := by have := J4.free; rw [eenv] at this; exact this
      have nC : ∃ m, s4.heap.Ns C m := by
        obtain ⟨m, z, _⟩ := J4.loc;rw [eenv] at z;exact ⟨m, z⟩
      subst hd;exact hRR D C s4 H3 ys hCle (Ne.symm hDC) (fe I2 f2 hDle J4 pe pn hv3 hlen) pn fC nC hlen fin
    . refine thn (T.item (z8 X scope (ts ++ N2) d) rfl rfl rfl rfl i _ s3 _ H3 (fun _ _ => False) I3 (Xs fr3 one) st3 go) fun r s4 ⟨u, hr, h4⟩ => ?_
      subst hr;refine thn h4 fun _ s5 ⟨x, H5, I5, r5, y5, st5, fr5⟩ => ?_
      have I5' := I5.pinned (Xs fr5 one) (T.obj _ _ st5);rw [<- eenv];refine thn (hg d _ s5 _ H5 x u _ I5' r5 (step x H5 y5)) fun _ s6 ⟨σ6, H6, I6, hdrop, q6⟩ => ?_
      have back : ∀ {ys' : List V} {its' : List Value} {H' : Hp} {s' : Shared} {pl : List (Addr × Obj)}, Inv (z8 X scope (ts ++ N2) d) ([(D, lobj its')] ++ pl) σ6 H' s' -> Inv (z8 X scope (ts ++ N2) d) [(D, lobj its')] (List.replicate ts.length none ++ σ) H' s' := fun {ys' its' H' s' pl} I' => by
        have hl : σ6.length = (ts ++ N2).length := I'.len;refine (I'.pins_of (pins' := [(D, lobj its')]) fun p hp => I'.pin p (Zu _ (ZR _ hp))).weak ?_ ?_
        . rw [hl]; exact I3.len
        . intro j v e
          by_cases hj : j < ts.length
          . rw [Zg (by simpa using hj), Yg] at e
            split at e <;> cases e
          . have hj' : ts.length <= j := ZD.mp hj
            rw [Zf (by simpa using hj'), ZI, <- hdrop, Yt] at e;rw [show ts.length + (j - ts.length) = j by omega] at e;exact e
      refine thn (ht d _ s6 σ6 H6 _ I6 q6) fun b s7 ⟨H7, I7, q7⟩ => ?_
      have pinsOf : ∀ {its' : List Value} {H' : Hp} {s' : Shared}, Inv (z8 X scope (ts ++ N2) d) ([(D, lobj its')] ++ p9 fp s5.heap) σ6 H' s' -> (∀ b ∈ fp, ∀ o, s5.heap.get? b = some o -> s'.heap.get? b = some o) /\ ∀ b ∈ fp, H' b = none := fun {its' H' s'} I' => by
        refine ⟨fun b hb o e => (I'.pin (b, o) (Zu _ (Zu _ (w6 hb e)))).1, fun b hb => ?_⟩;obtain ⟨o, e, _⟩ := T.obj _ _ st5 b hb;exact (I'.pin (b, o) (Zu _ (Zu _ (w6 hb e)))).2.1
      cases b with
      | false =>
        have q7' : N ys H7 := by simpa using q7
        obtain ⟨m', hm, w7⟩ := hN _ _ q7';obtain ⟨k1, k2⟩ := pinsOf I7
        show ∃ m, m < n /\ _
        exact ⟨m', hm, i + 1, ys, H7, its, back (ys' := ys) I7, T.keep _ _ _ st5 k1, k2, hv3, w7⟩
      | true =>
        have q7' : te d σ6 H7 fun v H4 => N (ys ++ [v]) H4 := by simpa using q7
        show wpAny _ _ _ _ _ _
        refine thn (he d _ s7 σ6 H7 _ I7 q7') fun y s8 ⟨v, H8, I8, r8, n8⟩ => ?_
        obtain ⟨m', hm, w8⟩ := hN _ _ n8;obtain ⟨k1, k2⟩ := pinsOf I8;obtain ⟨pe, pn, pC, pf, pd⟩ := I8.pin (D, lobj its) (by simp);have hsz : its.toArray.size <= sizeLine := by rw [Zr, <- hv3.length]; exact hlen
        refine append_at (hsz := hsz) pe fun h9 sb9 e9 => ?_
        have J8 : Inv (z8 X scope (ts ++ N2) d) [] σ6 H8 s8 := I8.pins_of fun p hp => nomatch hp
        have hDs : (z8 X scope (ts ++ N2) d).s₀.heap.objs.size <= D := by subst hd; exact hDle
        have J9 : Inv (z8 X scope (ts ++ N2) d) [] σ6 H8 { s8 with heap := h9 } := J8.turned (t' := s8.toks) (it := D) (fun b o hb e => sb9.extBut b o hb e) pn pC (.inr hDs)
          (fun x c e => by
            obtain ⟨v', z⟩ := I3.cell x c e;subst hd;obtain ⟨v2, z2⟩ := I2.cell x c (hcl1 x c e)
            exact Zs (Zh z2.lt hDle)) (fun p hp => nomatch hp)
        have e9' : h9.get? D = some (lobj (its ++ [y])) := by
          rw [e9]
          show some ({ cls := .type "list", data := .seq (its.toArray.push y) (its.length + 1) } : Obj) = some { cls := .type "list", data := .seq (its ++ [y]).toArray (its ++ [y]).length }
          rw [Zo, ZS, List.push_toArray]
        have J9' : Inv (z8 X scope (ts ++ N2) d) ([(D, lobj (its ++ [y]))] ++ []) σ6 H8 { s8 with heap := h9 } := J9.pins_of fun p hp => by
          have e : p = (D, lobj (its ++ [y])) := by simpa using hp
          subst e;exact ⟨e9', pn, pC, pf, fun v z => by cases z⟩
        refine ⟨m', hm, i + 1, ys ++ [v], H8, its ++ [y], back (ys' := ys) J9', ?_, k2, hv3.append (.cons r8 .nil), w8⟩;exact T.keep _ _ _ st5 fun b hb o e => sb9.extBut b o (below b (flt b hb)).2 (k1 b hb o e)
  exact codeAny_compStart_list (loop _ rfl) (T.self _ 0 _ _ _ (T.keep _ _ _ st fun b _ o e => old b o e) (loop _ rfl))
end
def i0 (k : Nat) (wi : TI) (g : Dyn -> TG) (tt : Dyn -> TT) (te : Dyn -> TE) : TE := fun σ H Q => wi σ H fun J H1 => ∀ d : Dyn, pk J σ k (g d) (tt d) (te d) H1 fun ys H' => ∀ l, H' l = none -> Q (.ref l) (upd H' l (.lst ys))
theorem yr {X : Cx} {tg elt iter : Expr} {ifs : List Expr} {scope : Scope} {pos : Pos} (ts N2 : List Str) {wi : TI} {g : Dyn -> TG} {tt : Dyn -> TT} {te : Dyn -> TE} (hc : X.calm = true) (hi : PI X tg iter wi)
    (hg : ∀ d, PG (z8 X scope (ts ++ N2) d) tg (g d)) (ht : ∀ d, PTs (z8 X scope (ts ++ N2) d) ifs (tt d)) (he : ∀ d, PE (z8 X scope (ts ++ N2) d) elt (te d))
    (hkind : scope.kind = .function) (hown : rm scope.names = true) (hfree : sd scope.names X.env = true) (hout : wv scope.names N2 X.N = true)
    (hs : ∀ x, foldedSetIterable iter X.env x = pure x := by intro _; rfl) : PE X (.ListComp elt [⟨tg, iter, ifs, 0⟩] scope pos) (i0 ts.length wi g tt te) := by
  intro pins s σ H Q I h;obtain ⟨cl, hclos, hcl1, hcl2⟩ := nh (scope := scope) (env := X.env) fun y hy hf => I.ok.has y.1 (rz hfree hy hf)
  rw [eval_ListComp];refine wpAny_comprehension_free (use := none) rfl hs hclos hkind (pw hown) (thn (hi pins s σ H _ I h) fun v s1 h1 => thn h1 fun itv s2 h2 => ?_);obtain ⟨it, fp, tn, J, H2, e, I2, T, st2, f2, hW⟩ := h2;subst e;refine k8 (RR := fun acc C => compPost (model X.prog X.w) X.A X.xe none (EP X pins σ Q) acc C) I2 hc T st2 f2 hkind hown hfree hout hcl1 hcl2 hg ht he hW ?_;intro D C s' H' ys hC hCD I' hD hCn hNs hl fin;obtain ⟨m, hm⟩ := hNs;refine ⟨m, hm, fun h' sb => ?_⟩
  have I'' : Inv X pins σ (upd H' D (.lst ys)) { s' with heap := h' } := by
    refine I'.turned (t' := s'.toks) (it := C) (fun b o hb e => sb.extBut b o hb e) (by rw [zy hCD]; exact hCn) (Yr (Zh I2.lt hC)) (.inr (Zd I2.sz hC)) (fun x c e => ?_) fun p hp => ?_
    . obtain ⟨v, q⟩ := I2.cell x c e
      exact Zs (Zh q.lt hC)
    . exact Zs (Zh (Heap.lt_size (I2.pin p hp).1) hC)
  exact ⟨.ref D, _, I'', rfl, fin D hD⟩
def bf (i : Nat) (te : TE) : TS := fun D σ H => te σ H fun x H1 => D.nx (σ.set i (some x)) H1
theorem jj {X : Cx} {tg elt iter : Expr} {ifs : List Expr} {scope : Scope} {pos spos py : Pos} {i : Nat} {y : Str} (ts N2 : List Str) {wi : TI} {g : Dyn -> TG} {tt : Dyn -> TT} {te : Dyn -> TE} (hN : X.N.Nodup) (hi' : X.N[i]? = some y) (hy : X.env.scope.names.lookup y = some .local) (hc : X.calm = true) (hi : PI X tg iter wi)
    (hg : ∀ d, PG (z8 X scope (ts ++ N2) d) tg (g d)) (ht : ∀ d, PTs (z8 X scope (ts ++ N2) d) ifs (tt d)) (he : ∀ d, PE (z8 X scope (ts ++ N2) d) elt (te d))
    (hkind : scope.kind = .function) (hown : rm scope.names = true) (hfree : sd scope.names X.env = true) (hout : wv scope.names N2 X.N = true)
    (hsw : swapsWith (.ListComp elt [⟨tg, iter, ifs, 0⟩] scope pos) (some (.Name y py)) spos.line X.env = pure true)
    (hs : ∀ x, foldedSetIterable iter X.env x = pure x := by intro _; rfl) : PS X (.Assign [.Name y py] (.ListComp elt [⟨tg, iter, ifs, 0⟩] scope pos) spos) (bf i (i0 ts.length wi g tt te)) := by
  intro pins s σ H D0 I h;obtain ⟨cl, hclos, hcl1, hcl2⟩ := nh (scope := scope) (env := X.env) fun z hz hf => I.ok.has z.1 (rz hfree hz hf)
  rw [exec_Assign_Name_used _ _ _ _ hsw];refine wpAny_bind (wpAny_standAt (wpAny_bind ?_))
  show wpAny _ X.A (do let _ <- comprehension (.ListComp elt [⟨tg, iter, ifs, 0⟩] scope pos) scope X.env _ (newList []) false (eval iter X.env) (some (assign (.Name y py) X.env))) _ _ s
  refine wpAny_bind (wpAny_mono (wpAny_comprehension_free (use := some (assign (.Name y py) X.env)) (Q := fun _ s' => SP X pins D0 .next s') rfl hs hclos hkind (pw hown)
    (thn (hi pins s σ H _ I h) fun v s1 h1 => thn h1 fun itv s2 h2 => ?_)) (fun _ s' hq => wpAny_pure (wpAny_pure hq)) fun _ _ e => e)
  obtain ⟨it, fp, tn, J, H2, e, I2, T, st2, f2, hW⟩ := h2;subst e;refine k8 (RR := fun acc C => compPost (model X.prog X.w) X.A X.xe (some (assign (.Name y py) X.env)) (fun _ s' => SP X pins D0 .next s') acc C) I2 hc T st2 f2 hkind hown hfree hout hcl1 hcl2 hg ht he hW ?_;intro D C s' H' ys hC hCD I' hD hCn hNs hl fin;obtain ⟨m, hm⟩ := hNs
  show wpAny _ _ _ _ _ _
  have hcl : C ≠ X.env.locals := Yr (Zh I2.lt hC)
  have hcc : ∀ x c, X.env.cells.lookup x = some c -> c ≠ C := fun x c e => by
    obtain ⟨v, q⟩ := I2.cell x c e;exact Zs (Zh q.lt hC)
  refine wpAny_assign_Name (mi I' hN hi' (.inl hy) (v := .ref D) (u := .ref D) rfl (fun s'' I'' ⟨a, sb, ha⟩ => ?_) (.inr hy))
  have haC : C ≠ a := by
    rcases ha with z | z
    . rw [z]; exact hcl
    . exact Ne.symm (hcc y a z)
  refine ⟨m, hm.sameBut sb haC, fun h' sb' => ?_⟩
  have I3 : Inv X pins (σ.set i (some (.ref D))) (upd H' D (.lst ys)) { s'' with heap := h' } := by
    refine I''.turned (t' := s''.toks) (it := C) (fun b o hb e => sb'.extBut b o hb e) (by rw [zy hCD]; exact hCn) hcl (.inr (Zd I2.sz hC)) hcc fun p hp => ?_
    exact Zs (Zh (Heap.lt_size (I2.pin p hp).1) hC)
  exact ⟨_, _, I3, fin D hD⟩
section
variable {σ : St} {k : Nat} {g : TG} {tt : TT} {te : TE} {H1 : Hp} {Fin : List V -> Hp -> Prop}
theorem ky {lo : Int} {n : Nat} (Pv : Nat -> List V -> Hp -> Prop) (h0 : Pv 0 [] H1) (hz : ∀ i ys H, i <= n -> Pv i ys H -> ys.length <= sizeLine)
    (hs : ∀ i ys H, i < n -> Pv i ys H -> g (.int (lo + i)) (List.replicate k none ++ σ) H fun σ2 H2 => σ2.drop k = σ /\ tt σ2 H2 fun b H3 => if b = true then te σ2 H3 fun v H4 => Pv (i + 1) (ys ++ [v]) H4 else Pv (i + 1) ys H3)
    (hd : ∀ ys H, Pv n ys H -> Fin ys H) : pk (Itr lo n) σ k g tt te H1 Fin := by
  refine ⟨fun i m ys H => m = n - i /\ i <= n /\ Pv i ys H, ⟨n, by simp, ZE _, h0⟩, ?_⟩
  rintro i m ys H ⟨rfl, hi, p⟩
  refine ⟨hz i ys H hi p, ?_⟩
  by_cases hlt : i < n
  . refine .inr ⟨hlt, Pv (i + 1), fun ys' H' p' => ⟨n - (i + 1), by omega, rfl, hlt, p'⟩, fun x H' y => ?_⟩
    obtain ⟨e, y⟩ := y;subst e y;exact hs i ys _ hlt p
  . have e : i = n := by omega
    subst e;exact .inl ⟨Zm _, hd ys H p⟩
theorem ye {K : Fg} {a : Addr} {xs : List V} (Pv : Nat -> List V -> Hp -> Prop) (h0 : Pv 0 [] H1) (hz : ∀ i ys H, i <= xs.length -> Pv i ys H -> ys.length <= sizeLine /\ SqL K H a xs)
    (hs : ∀ i x ys H, xs[i]? = some x -> Pv i ys H -> g x (List.replicate k none ++ σ) H fun σ2 H2 => σ2.drop k = σ /\ tt σ2 H2 fun b H3 => if b = true then te σ2 H3 fun v H4 => Pv (i + 1) (ys ++ [v]) H4 else Pv (i + 1) ys H3)
    (hd : ∀ ys H, Pv xs.length ys H -> Fin ys H) : pk (Itl K a) σ k g tt te H1 Fin := by
  refine ⟨fun i m ys H => m = xs.length - i /\ i <= xs.length /\ Pv i ys H, ⟨xs.length, by simp, ZE _, h0⟩, ?_⟩
  rintro i m ys H ⟨rfl, hi, p⟩
  have q := (hz i ys H hi p).2;refine ⟨(hz i ys H hi p).1, ?_⟩
  by_cases hlt : i < xs.length
  . refine .inr ⟨⟨xs, xs[i], q, by simp [hlt]⟩, Pv (i + 1), fun ys' H' p' => ⟨xs.length - (i + 1), by omega, rfl, hlt, p'⟩, fun x H' y => ?_⟩
    obtain ⟨e, y⟩ := y;subst e;exact hs i x ys _ (y xs q) p
  . have e : i = xs.length := by omega
    subst e;exact .inl ⟨⟨xs, q, Zm _⟩, hd ys H p⟩
end
end L2
namespace L2
open PySem PySem.Spec PyProof.Rows
theorem fk {xs : List V} {us : List Value} (r : Vals xs us) {j : Nat} (h : j < us.length) : ∃ x, xs[j]? = some x /\ RelV x us[j] := by
  have hl := r.length;have hj : j < xs.length := by omega
  obtain ⟨u, hu, rx⟩ := r.get (i := j) (x := xs[j]) (by simp [hj]);refine ⟨xs[j], by simp [hj], ?_⟩;have : us[j]? = some us[j] := by simp [h]
  rw [this] at hu;cases hu;exact rx
section
variable {X : Cx} {pins : List (Addr × Obj)} {σ : St} {H : Hp} {s : Shared} {A : Around} {a b : Addr}
end
def GridL (K : Fg) (H : Hp) (a : Addr) (as : List Addr) (rows : List (List Int)) : Prop := SqL K H a (as.map V.ref) /\ as.length = rows.length /\ ∀ (i : Nat) (r : Addr) (ns : List Int), as[i]? = some r -> rows[i]? = some ns -> SqL K H r (ns.map V.int)
section
variable {X : Cx} {pins : List (Addr × Obj)} {σ : St} {H : Hp} {s : Shared} {A : Around} {a b : Addr}
end
def kit0 (T1 T2 : String) : Option Bool := if (Value.type T1 == Value.type T2) = true then some true else if PySem.W.kitMeta T2 = true then (fastBuiltinMro T1).map (·.contains (Value.type T2)) else none
theorem zb9 (K : Fg) (T1 T2 : String) : PySem.W.kitOne K (.type T1) (.type T2) = kit0 T1 T2 := rfl
section
variable {X : Cx}
theorem xc : CallR X (.builtin "isinstance") (fun xs H Q => ∃ x T T1 b, xs = [x, .ty T] /\ TyOf X.K H x (.type T1) /\ kit0 T1 T = some b /\ Q (.bl b) H) := by
  intro pins s σ H xs us Q I r h;obtain ⟨x, T, T1, b, rfl, ty, e, q⟩ := h;obtain ⟨u, v, rfl, rx, ry⟩ := Vals.two r;cases ry;exact zbe I rx ty ((zb9 X.K T1 T).trans e) fun tk => ⟨.bl b, H, I.tok _, rfl, q⟩
theorem ur {x : Str} {T : String} {pos : Pos} (hg : Gl X x) (hm : X.mg x = none) (hv : bootBuiltins x = some (.type T)) (hn : x ≠ "__name__" := by decide) (hd : (x == ("__debug__" : Str)) = false := by decide) : PE X (.Name x pos) (tC (.ty T)) :=
  zdr hg hm hv rfl hn hd
end
theorem yc : bootBuiltins "len" = some (.builtin "len") := by decide +kernel
theorem yj : bootBuiltins "isinstance" = some (.builtin "isinstance") := by decide +kernel
theorem bt_max : bootBuiltins "max" = some (.builtin "max") := by decide +kernel
theorem n0 : bootBuiltins "all" = some (.builtin "all") := by decide +kernel
theorem bt_abs : bootBuiltins "abs" = some (.builtin "abs") := by decide +kernel
theorem gf : bootBuiltins "int" = some (.type "int") := by decide +kernel
theorem zc3 : bootBuiltins "bool" = some (.type "bool") := by decide +kernel
theorem mr : bootBuiltins "list" = some (.type "list") := by decide +kernel
theorem xv : bootBuiltins "tuple" = some (.type "tuple") := by decide +kernel
theorem me : bootBuiltins "str" = some (.type "str") := by decide +kernel
theorem bt_set : bootBuiltins "set" = some (.type "set") := by decide +kernel
structure zl (K : Fg) (mg : Str -> Option Value) (name : Str) (st : Stmt) (ps : List Str) : Prop where
  ex : ∃ f fd, mg name = some (.ref f) /\ Fun K name name st f fd /\ Binds K fd ps []
structure FnAt (P : Program) (w : World) (K : Fg) (mg : Str -> Option Value) (base : Heap) (name : Str) (k : Nat) (ps : List Str) (sp : Sp) : Prop where
  ex : ∃ f fd, mg name = some (.ref f) /\ PySem.W.keepIn K (.ref f) = true /\ Binds K fd ps [] /\ FnOk P w K mg base CX0 k f fd ps sp
theorem FnAt.of {P : Program} {w : World} {K : Fg} {mg : Str -> Option Value} {base : Heap} {name : Str} {st : Stmt} {N ps : List Str} {k : Nat} {sp : Sp} (D : zl K mg name st ps) (S : z3 N ps (zf st)) (len : ∀ vs H Q E, sp vs H Q E -> vs.length = ps.length)
    (hbody : ∀ (f : Addr) (cdv : Value) (A : Around) (outer : List Env) (s : Shared) (H : Hp) (vs : List V) (Q : VK) (E : XK), Room k (A.deeper (envOfC name (zf st) s.heap.objs.size f cdv)) -> sp vs H Q E ->
      ∃ t, PSs (cxOf CX0 P w K mg base N name (zf st) f cdv A outer s H E).nox (zx st) t /\ t { nx := fun _ H' => Q .non H', rt := Q } (start N vs) H) : FnAt P w K mg base name (k + 1) ps sp := by
  obtain ⟨f, fd, hm, F, hb⟩ := D.ex;exact ⟨f, fd, hm, F.kp, hb, F.ok S len (hbody f)⟩
theorem def_mk {K : Fg} {h : Heap} {mg : Str -> Option Value} (X : K.In h) (G : h.Ns mainGlobals mg) {name : Str} {st : Stmt} {f : Addr} {oc : Value} {od an : Option Addr} {osl : Array (Option Value)} {kV doc pm cdv ct : Value} {ps : List Str}
    (a : PySem.W.nsIn K mainGlobals name = some (some (.ref f))) (l : K.lookup f = some ⟨oc, od, .func (PySem.W.fnOf name name (vz st) (zx st) (zf st) .none kV doc pm an cdv ct), osl⟩)
    (c : PySem.W.codeIn K cdv name = true) (k : PySem.W.keepIn K (.ref f) = true)
    (hb : ∀ (kV doc pm : Value) (an : Option Addr) (cdv ct : Value) (us : List Value), us.length = ps.length -> bindArgs (PySem.W.fnOf name name (vz st) (zx st) (zf st) .none kV doc pm an cdv ct) ⟨us, []⟩ = pure (ps.zip us)) : zl K mg name st ps :=
  ⟨f, _, PySem.W.mg_of X G a, zag l c k, (zag (st := st) l c k).binds hb⟩
section
variable {X : Cx} {x : Str} {k : Nat} {ps : List Str} {sp : Sp} {p pos : Pos} {e : Expr} {es : List Expr} {t : TA}
theorem zo (F : FnAt X.prog X.w X.K X.mg X.base x k ps sp) (hr : Room k X.A) (hg : Gl X x) (ha : PA X (e :: es) t) (hdb : (x == ("__debug__" : Str)) = false := by decide) (he : starEach (e :: es) X.env = (false, eval e X.env) :: starEach es X.env := by rfl)
    (hpl : (backTo pos (starEach es X.env)).any (·.1) = false := by rfl) : PE X (.Call (.Name x p) (e :: es) [] pos) (ix sp [] E0 t) := by
  obtain ⟨f, fd, hm, hk, hb, G⟩ := F.ex;exact cw G hr hg hm hk hb .nil pass0 ha hdb he hpl
end
theorem cxK {CX : CXT} {P : Program} {w : World} {K : Fg} {mg : Str -> Option Value} {base : Heap} {N : List Str} {qual : Str} {scope : Scope} {f : Addr} {cd : Value} {A : Around} {outer : List Env} {s : Shared} {H : Hp} {E : XK} : (cxOf CX P w K mg base N qual scope f cd A outer s H E).K = K := rfl
section
variable {D : Ends} {σ : St} {H : Hp} {Q : VK} {QT : Bool -> Hp -> Prop} {QA : List V -> Hp -> Prop} {QS : St -> Hp -> Prop} {R : It -> Hp -> Prop} {a b c : TE} {s t : TS} {tt uu : TT} {ta tr : TA} {g : TG} {i : Nat} {v x y z : V} {r r' : R2} {wi : TI}
theorem e_var : tVar i σ H Q = ∃ v, σ[i]? = some (some v) /\ Q v H := rfl
theorem e_C : tC v σ H Q = Q v H := rfl
theorem e_op : tOp r a b σ H Q = a σ H fun x H1 => b σ H1 fun y H2 => r x y H2 Q := rfl
theorem e_un {u : V -> Hp -> VK -> Prop} : tUn u a σ H Q = a σ H fun x H1 => u x H1 Q := rfl
theorem e_rI {C : Int -> Int -> Prop} {f : Int -> Int -> V} : rI C f x y H Q = ∃ i j, x = .int i /\ y = .int j /\ C i j /\ Q (f i j) H := rfl
theorem e_rI0 {f : Int -> Int -> V} : rI0 f x y H Q = ∃ i j, x = .int i /\ y = .int j /\ Q (f i j) H := rfl
theorem e_rU {f : Int -> V} : rU f x H Q = ∃ i, x = .int i /\ Q (f i) H := rfl
theorem e_rEq : rEq x y H Q = (scal x y = true /\ Q (.bl (decide (x = y))) H) := rfl
theorem e_rNe : rNe x y H Q = (scal x y = true /\ Q (.bl (!decide (x = y))) H) := rfl
theorem e_ixL {K : Fg} : rIxL K x y H Q = ∃ p xs i v, x = .ref p /\ y = .int i /\ SqL K H p xs /\ atI xs i = some v /\ Q v H := rfl
theorem e_ixT {K : Fg} : rIxT K x y H Q = ∃ p xs i v, x = .ref p /\ y = .int i /\ SqT K H p xs /\ atI xs i = some v /\ Q v H := rfl
theorem e_set {o i v : V} {Q : Hp -> Prop} : rSetL o i v H Q = ∃ p xs k j, o = .ref p /\ i = .int k /\ H p = some (.lst xs) /\ ixN xs.length k = some j /\ Q (upd H p (.lst (xs.set j v))) := rfl
theorem e_cat : rCat x y H Q = ∃ l b xs zs, x = .ref l /\ y = .ref b /\ H l = some (.lst xs) /\ H b = some (.lst zs) /\ xs.length + zs.length <= sizeLine /\ ∀ p, H p = none -> Q (.ref p) (upd H p (.lst (xs ++ zs))) := rfl
theorem e_test : mt a σ H QT = a σ H fun x H' => ∃ k, x = .bl k /\ QT k H' := rfl
theorem e_B : tB a σ H QT = a σ H fun x H1 => ∃ c, x = .bl c /\ QT c H1 := rfl
theorem e_and : tAnd tt uu σ H QT = tt σ H fun c H1 => if c = true then uu σ H1 QT else QT false H1 := rfl
theorem e_or : tOr tt uu σ H QT = tt σ H fun c H1 => if c = true then QT true H1 else uu σ H1 QT := rfl
theorem e_not : tNot tt σ H QT = tt σ H fun c H1 => QT (!c) H1 := rfl
theorem e_andV : tAndV a b σ H Q = a σ H fun x H1 => ∃ c, x = .bl c /\ if c = true then b σ H1 Q else Q (.bl false) H1 := rfl
theorem e_orV : tOrV a b σ H Q = a σ H fun x H1 => ∃ c, x = .bl c /\ if c = true then Q (.bl true) H1 else b σ H1 Q := rfl
theorem e_notV : tNotV a σ H Q = a σ H fun x H1 => ∃ c, x = .bl c /\ Q (.bl (!c)) H1 := rfl
theorem e_ifE : tIf tt a b σ H Q = tt σ H fun c H1 => if c = true then a σ H1 Q else b σ H1 Q := rfl
theorem e_all : tAll σ H QT = QT true H := rfl
theorem e_next : ku D σ H = D.nx σ H := rfl
theorem e_seq : tSeq s t D σ H = s { D with nx := t D } σ H := rfl
theorem e_brk : tBreak D σ H = D.bk σ H := rfl
theorem e_cnt : tCont D σ H = D.ct σ H := rfl
theorem e_drop : tDrop a D σ H = a σ H fun _ H1 => D.nx σ H1 := rfl
theorem e_ret : tRet a D σ H = a σ H D.rt := rfl
theorem e_retN : tRetN D σ H = D.rt .non H := rfl
theorem e_ifS : tIfS tt s t D σ H = tt σ H fun b H1 => if b = true then s D σ H1 else t D σ H1 := rfl
theorem e_asg : tAsg a g D σ H = a σ H fun x H1 => g x σ H1 D.nx := rfl
theorem e_gName : ao i v σ H QS = QS (σ.set i (some v)) H := rfl
theorem e_setC : bf i a D σ H = a σ H fun x H1 => D.nx (σ.set i (some x)) H1 := rfl
theorem e_augS {tget : V -> V -> Hp -> VK -> Prop} {tip : TIp} {tset : TSet} : tAugS a b c tget tip tset D σ H = a σ H fun o H1 => b σ H1 fun i H2 => tget o i H2 fun x H3 => c σ H3 fun y H4 => tip x y H4 fun z H5 => tset o i z H5 fun H6 => D.nx σ H6 := rfl
theorem e_ipI {f : Int -> Int -> Int} : ipI f x y H Q = ∃ i j, x = .int i /\ y = .int j /\ Q (.int (f i j)) H := rfl
theorem e_nil : tNil σ H QA = QA [] H := rfl
theorem e_cons : tCons a ta σ H QA = a σ H fun x H1 => ta σ H1 fun xs H2 => QA (x :: xs) H2 := rfl
theorem e_tup : tTup ta σ H Q = ta σ H fun xs H1 => xs.length <= sizeLine /\ ∀ p, H1 p = none -> Q (.ref p) (upd H1 p (.tup xs)) := rfl
theorem e_lst : tLst ta σ H Q = ta σ H fun xs H1 => xs.length <= sizeLine /\ ∀ p, H1 p = none -> Q (.ref p) (upd H1 p (.lst xs)) := rfl
theorem e_call {sp : Sp} {E : XK} : ix sp [] E ta σ H Q = ta σ H fun vs H1 => sp (vs ++ []) H1 Q E := rfl
theorem e_CB {u : List V -> Hp -> VK -> Prop} : tCB u ta σ H Q = ta σ H fun vs H1 => u vs H1 Q := rfl
theorem e_BM {K : Fg} {T : String} {u : V -> List V -> Hp -> VK -> Prop} : tBM K T u a ta σ H Q = a σ H fun x H1 => tyV K T x H1 /\ ta σ H1 fun xs H2 => u x xs H2 Q := rfl
theorem e_app {vs : List V} : cf x vs H Q = ∃ l xs y, x = .ref l /\ vs = [y] /\ H l = some (.lst xs) /\ xs.length < sizeLine /\ Q .non (upd H l (.lst (xs ++ [y]))) := rfl
theorem e_rng1 : iRng1 ta σ H R = ta σ H fun vs H1 => ∃ j : Int, vs = [.int j] /\ -(2 ^ 62) <= j /\ j < 2 ^ 62 /\ R (Itr 0 j.toNat) H1 := rfl
theorem e_rng2 : iRng2 ta σ H R = ta σ H fun vs H1 => ∃ i j : Int, vs = [.int i, .int j] /\ (-(2 ^ 62) <= i /\ i < 2 ^ 62 /\ -(2 ^ 62) <= j /\ j < 2 ^ 62) /\ R (Itr i (j - i).toNat) H1 := rfl
theorem e_iL {K : Fg} : iList K a σ H R = a σ H fun x H1 => ∃ p, x = .ref p /\ (∃ xs, SqL K H1 p xs) /\ R (Itl K p) H1 := rfl
def ForW (J : It) (g : TG) (tb : TS) (D : Ends) (σ : St) (H1 : Hp) : Prop := ∃ W : Nat -> Nat -> St -> Hp -> Prop, (∃ m, W 0 m σ H1) /\ ∀ i m σ H, W i m σ H ->
  (J.stop i H /\ D.nx σ H) \/ (J.go i H /\ ∃ N : St -> Hp -> Prop, (∀ σ' H', N σ' H' -> ∃ m', m' < m /\ W (i + 1) m' σ' H') /\ ∀ x H', J.yld i H x H' -> g x σ H' fun σ2 H2 => tb { D with nx := N, ct := N, bk := D.nx } σ2 H2)
theorem e_for : tFor wi g t D σ H = wi σ H fun J H1 => ForW J g t D σ H1 := rfl
theorem e_comp {k : Nat} {g : Dyn -> TG} {tt : Dyn -> TT} {te : Dyn -> TE} : i0 k wi g tt te σ H Q = wi σ H fun J H1 => ∀ d : Dyn, pk J σ k (g d) (tt d) (te d) H1 fun ys H' => ∀ l, H' l = none -> Q (.ref l) (upd H' l (.lst ys)) := rfl
end
end L2
namespace L2
open PySem PySem.Spec PyProof.Rows
section
variable {X : Cx}
theorem se (hc : X.calm = true) : CallR X (.builtin "all") (fun xs H Q => ∃ (p : Addr) (bs : List Bool), xs = [.ref p] /\ SqL X.K H p (bs.map V.bl) /\ Q (.bl (bs.all id)) H) := by
  intro pins s σ H xs us Q I r h;obtain ⟨p, bs, rfl, hq, q⟩ := h;obtain ⟨u, rfl, rx⟩ := Vals.one r;cases rx;obtain ⟨its, rv, pl, hz⟩ := I.list hq;have hlt : p < s.heap.objs.size := by obtain ⟨_, e, _⟩ := pl.isList; exact Heap.lt_size e
  have hlen : its.length = bs.length := by have := rv.length; rw [Za] at this; exact this.symm
  refine call_all_walk (wpAny_pyIter_list pl.isList ?_)
  refine ⟨s.heap.objs.size, [s.heap.objs.size, p], [s.heap.objs.size], its.toArray.size, _, _, fun i => (bs[i]?).getD true, rfl, Walks.list (A := X.A.in1) (I.ok.hd hc) _ p (Zs hlt) its.toArray,
    ⟨⟨_, Heap.get?_push_size _ rfl, rfl, rfl⟩, pl.isList.push _⟩, fun i v s' Q' E' hP hQ => ?_, fun h' tk hk => ?_⟩
  . have hi : its[i]? = some v := by simpa using hP
    have hil : i < bs.length := by rw [<- hlen]; exact (Zc.mp hi).1
    have e : bs[i]? = some bs[i] := by simp [hil]
    obtain ⟨u, hu, ru⟩ := rv.get (i := i) (x := V.bl bs[i]) (by rw [Ze, e]; rfl);rw [hi] at hu;cases hu;cases ru;simp only [e, YX] at hQ;exact wpAny_truthy_bool hQ
  . have e : ((List.range its.toArray.size).all fun i => (bs[i]?).getD true) = bs.all id := by
      rw [Zr, hlen];rw [Bool.eq_iff_iff, ZQ, ZQ]
      constructor
      . intro z b hb
        obtain ⟨i, hi, rfl⟩ := Zy hb;have := z i (ZY.mpr hi)
        simpa [Zb hi] using this
      . intro z i hi
        have hi' := ZY.mp hi;simp only [Zb hi', YX];exact z _ (Zl hi')
    rw [e];exact ⟨.bl (bs.all id), H, I.kept fun b x e => hk b x (fun hm => by rw [ZC.mp hm] at e; exact ZJ _ (Heap.lt_size e)) (Heap.get?_push_of_some _ e), rfl, q⟩
end
def Itz (K : Fg) (a b : Addr) : It :=
  ⟨fun i H => ∃ xs ys x y, SqL K H a xs /\ SqL K H b ys /\ xs[i]? = some x /\ ys[i]? = some y,
   fun i H v H' => ∃ T x y, v = .ref T /\ H T = none /\ H' = upd H T (.tup [x, y]) /\ ∀ xs ys, SqL K H a xs -> SqL K H b ys -> xs[i]? = some x /\ ys[i]? = some y,
   fun i H => ∃ xs ys, SqL K H a xs /\ SqL K H b ys /\ (xs.length <= i \/ ys.length <= i)⟩
def iZip (K : Fg) (ta : TA) : TI := fun σ H R => ta σ H fun vs H1 => ∃ a b, vs = [.ref a, .ref b] /\ (∃ xs, SqL K H1 a xs) /\ (∃ ys, SqL K H1 b ys) /\ R (Itz K a b) H1
theorem e_zip {K : Fg} {ta : TA} {σ : St} {H : Hp} {R : It -> Hp -> Prop} : iZip K ta σ H R = ta σ H fun vs H1 => ∃ a b, vs = [.ref a, .ref b] /\ (∃ xs, SqL K H1 a xs) /\ (∃ ys, SqL K H1 b ys) /\ R (Itz K a b) H1 := rfl
theorem e_gTup {K : Fg} {n : Nat} {t : TGs} {v : V} {σ : St} {H : Hp} {Q : St -> Hp -> Prop} : gTup K n t v σ H Q = ∃ a xs, v = .ref a /\ SqT K H a xs /\ xs.length = n /\ t xs σ H Q := rfl
theorem e_gNil {vs : List V} {σ : St} {H : Hp} {Q : St -> Hp -> Prop} : gNil vs σ H Q = (vs = [] /\ Q σ H) := rfl
theorem zdf {t : TG} {u : TGs} {vs : List V} {σ : St} {H : Hp} {Q : St -> Hp -> Prop} : gCons t u vs σ H Q = ∃ v r, vs = v :: r /\ t v σ H fun σ' H' => u r σ' H' Q := rfl
end L2
namespace L2
open PySem PySem.Spec PyProof.Rows
def eqVs : List V -> List V -> Bool
  | [], [] => true
  | x :: xs, y :: ys => eqV x y && eqVs xs ys
  | _, _ => false
theorem jb : ∀ {xs ys : List V}, xs.length = ys.length -> ((List.range xs.length).all fun j => eqV (xs.getD j .non) (ys.getD j .non)) = eqVs xs ys
  | [], [], _ => rfl
  | [], _ :: _, h => by simp at h
  | _ :: _, [], h => by simp at h
  | x :: xs, y :: ys, h => by
    have ih := @jb xs ys (by simpa using h);rw [ZL, List.range_succ_eq_map, YA, List.all_map]
    show (eqV x y && _) = (eqV x y && eqVs xs ys)
    rw [<- ih];rfl
theorem gk : ∀ {xs ys : List V}, xs.length ≠ ys.length -> eqVs xs ys = false
  | [], [], h => by simp at h
  | [], _ :: _, _ => rfl
  | _ :: _, [], _ => rfl
  | x :: xs, y :: ys, h => by
    have ih := @gk xs ys (by simpa using h);unfold eqVs;rw [ih, Bool.and_false]
theorem ml {xs : List V} (h : xs.all yx = true) {j : Nat} {x : V} (e : xs[j]? = some x) : yx x = true := ZQ.mp h x (Zi e)
theorem fc {A : Around} {s : Shared} {us vs : List Value} {xs ys : List V} (hu : Vals xs us) (hv : Vals ys vs) (fx : xs.all yx = true) (fy : ys.all yx = true) :
    ∀ j (h1 : j < us.toArray.size) (h2 : j < vs.toArray.size), SeqAt.EqAt A s us.toArray[j] vs.toArray[j] (eqV (xs.getD j .non) (ys.getD j .non)) := by
  intro j h1 h2;have h1' : j < us.length := by simpa using h1
  have h2' : j < vs.length := by simpa using h2
  obtain ⟨x, ex, rx⟩ := fk hu h1';obtain ⟨y, ey, ry⟩ := fk hv h2';rw [List.getElem_toArray, List.getElem_toArray, Zk, Zk, ex, ey];exact zbl rx ry (ml fx ex) (ml fy ey)
section
variable {X : Cx}
theorem op_eqF (hu : X.A.units < cLine) : OpR X (compareOp .Eq) (fun x y H Q => ∃ (a b : Addr) (xs ys : List V), x = .ref a /\ y = .ref b /\ SqL X.K H a xs /\ SqL X.K H b ys /\ xs.all yx = true /\ ys.all yx = true /\ Q (.bl (eqVs xs ys)) H) := by
  intro pins s σ H x y v u Q I rx ry h;obtain ⟨a, b, xs, ys, rfl, rfl, ha, hb, fx, fy, q⟩ := h;cases rx; cases ry;obtain ⟨us, r1, p1, z1⟩ := I.list ha;obtain ⟨vs, r2, p2, z2⟩ := I.list hb;have l1 := r1.length;have l2 := r2.length
  by_cases hl : xs.length = ys.length
  . refine SeqAt.eq_listAt p1.isList p2.isList (by simp; omega) hu (fc (A := X.A.in1) (s := s) r1 r2 fx fy) ?_
    rw [Zr, <- l1, jb hl];exact ⟨.bl (eqVs xs ys), H, I, rfl, q⟩
  . refine SeqAt.eq_list_lengthsAt p1.isList p2.isList (by simp; omega) hu ?_
    rw [gk hl] at q;exact ⟨.bl false, H, I, rfl, q⟩
end
section
variable {X : Cx}
end
theorem e_gSub {to ti : TE} {t : TSet} {v : V} {σ : St} {H : Hp} {Q : St -> Hp -> Prop} : gSub to ti t v σ H Q = to σ H fun o H1 => ti σ H1 fun i H2 => t o i v H2 fun H3 => Q σ H3 := rfl
theorem e_rep {x y : V} {H : Hp} {Q : VK} : rRep x y H Q = ∃ l k xs, x = .ref l /\ y = .int k /\ H l = some (.lst xs) /\ -(2 ^ 63) <= k /\ k < 2 ^ 63 /\ xs.length * k.toNat <= sizeLine /\ ∀ p, H p = none -> Q (.ref p) (upd H p (.lst (List.replicate k.toNat xs).flatten)) := rfl
end L2
namespace L2
open PySem PySem.Spec PyProof.Rows
section
variable {σ : St} {k : Nat} {g : TG} {tt : TT} {te : TE} {H1 : Hp} {Fin : List V -> Hp -> Prop}
end
theorem e_slL {K : Fg} {x : V} {lo hi : Option Int} {H : Hp} {Q : VK} : rSlL K x lo hi H Q = ∃ a xs, x = .ref a /\ SqL K H a xs /\ ∀ p, H p = none -> Q (.ref p) (upd H p (.lst (cutV xs lo hi))) := rfl
theorem e_tSl {r : V -> Option Int -> Option Int -> Hp -> VK -> Prop} {te : TE} {tl th : TO} {σ : St} {H : Hp} {Q : VK} : tSl r te tl th σ H Q = te σ H fun x H1 => tl σ H1 fun l H2 => th σ H2 fun u H3 => r x l u H3 Q := rfl
theorem zb0 {σ : St} {H : Hp} {Q : Option Int -> Hp -> Prop} : cr σ H Q = Q none H := rfl
theorem e_part {t : TE} {σ : St} {H : Hp} {Q : Option Int -> Hp -> Prop} : tPart t σ H Q = t σ H fun x H1 => ∃ i, x = .int i /\ Q (some i) H1 := rfl
end L2
namespace L2
open PySem PySem.Spec PyProof.Rows
section
variable {σ : St} {H : Hp} {Q : VK} {a b c : TE} {x : V} {vs : List V} {r r' : R2}
theorem e_pop : rPop x vs H Q = ∃ l xs y, x = .ref l /\ vs = [] /\ H l = some (.lst xs) /\ xs[xs.length - 1]? = some y /\ Q y (upd H l (.lst xs.dropLast)) := rfl
theorem e_BM0 {K : Fg} {T : String} {u : V -> List V -> Hp -> VK -> Prop} : tBM0 K T u a σ H Q = a σ H fun x H1 => tyV K T x H1 /\ u x [] H1 Q := rfl
theorem zde : fh r r' a b c σ H Q = a σ H fun x H1 => b σ H1 fun y H2 => r x y H2 fun z H3 => ∃ k, z = .bl k /\ (if k = true then c σ H3 fun w' H4 => r' y w' H4 Q else Q (.bl false) H3) := rfl
theorem zdl : gu σ H Q = ∀ p, H p = none -> Q (.ref p) (upd H p (.dK [])) := rfl
theorem zb6 {X : Cx} {pos : Pos} : PE X (.Dict [] [] pos) gu := zco
theorem e_in {K : Fg} {neg : Bool} {y : V} : rIn K neg x y H Q = ∃ p xs, y = .ref p /\ (SqL K H p xs \/ SqT K H p xs) /\ yx x = true /\ xs.all yx = true /\ Q (.bl (if neg then !inV x xs else inV x xs)) H := rfl
end
theorem vy {X : Cx} {x : Str} {i : Int} {pos : Pos} (hg : Gl X x) (hm : ∃ t, X.mg x = some (Value.int i t)) (hd : (x == ("__debug__" : Str)) = false := by decide) : PE X (.Name x pos) (tC (.int i)) := by
  obtain ⟨t, hm⟩ := hm;exact we hg hm ⟨t, rfl⟩ hd
def Ite (K : Fg) (a : Addr) : It :=
  ⟨fun i H => ∃ xs x, SqL K H a xs /\ xs[i]? = some x,
   fun i H v H' => ∃ T x, v = .ref T /\ H T = none /\ H' = upd H T (.tup [.int i, x]) /\ ∀ xs, SqL K H a xs -> xs[i]? = some x,
   fun i H => ∃ xs, SqL K H a xs /\ xs.length <= i⟩
def iEnum (K : Fg) (ta : TA) : TI := fun σ H R => ta σ H fun vs H1 => ∃ a, vs = [.ref a] /\ (∃ xs, SqL K H1 a xs) /\ R (Ite K a) H1
theorem e_enum {K : Fg} {ta : TA} {σ : St} {H : Hp} {R : It -> Hp -> Prop} : iEnum K ta σ H R = ta σ H fun vs H1 => ∃ a, vs = [.ref a] /\ (∃ xs, SqL K H1 a xs) /\ R (Ite K a) H1 := rfl
section
variable {X : Cx}
end
section
variable {X : Cx}
end
end L2
namespace L2
open PySem PySem.Spec PyProof.Rows
section
variable {X : Cx} {pins : List (Addr × Obj)} {σ : St} {H : Hp} {k : Nat} {f : Addr} {fd : FuncData} {ps : List Str} {sp : Sp}
def tMinK (K : Fg) (sp : Sp) (ta : TA) : TE := fun σ H Q => ta σ H fun vs H1 => ∃ (l : Addr) (xs : List V) (kf : Nat -> Int), vs = [.ref l] /\ SqL K H1 l xs /\ 0 < xs.length /\
  (∀ i x, xs[i]? = some x -> sp [x] H1 (fun v H' => v = .int (kf i) /\ H' = H1) E0) /\ ∀ i x, xs[i]? = some x -> (∀ j, j < xs.length -> kf i <= kf j /\ (j < i -> kf i < kf j)) -> Q x H1
theorem e_minK {K : Fg} {ta : TA} {Q : VK} : tMinK K sp ta σ H Q = ta σ H fun vs H1 => ∃ (l : Addr) (xs : List V) (kf : Nat -> Int), vs = [.ref l] /\ SqL K H1 l xs /\ 0 < xs.length /\
  (∀ i x, xs[i]? = some x -> sp [x] H1 (fun v H' => v = .int (kf i) /\ H' = H1) E0) /\ ∀ i x, xs[i]? = some x -> (∀ j, j < xs.length -> kf i <= kf j /\ (j < i -> kf i < kf j)) -> Q x H1 := rfl
end
end L2
namespace L2
open PySem PySem.Spec PyProof.Rows
def CX1 (P : Program) (w : World) : CXT := fun outer H s E e s' => ∃ (ea C : Addr) (a0 : Value) (B : Heap) (H' : Hp), e = .ref ea /\ s'.os = s.os /\ AllBare s'.gens /\ Un (frs outer) [] H H' s.heap s'.heap /\ HOk P w H' s'.heap /\
  Heap.FlyingW B outer ea (.ref C) a0 s'.heap /\ H' ea = none /\ (∀ b o, H' b = some o -> ∃ ob, B.get? b = some ob) /\ (∀ b o, s.heap.get? b = some o -> b ∉ frs outer -> ∃ ob, B.get? b = some ob /\ (H b = none -> ob = o)) /\ E (.ref C) none H'
theorem pass1 {P : Program} {w : World} {X : Cx} : nw (CX1 P w) X E0 := fun _ _ _ _ _ _ _ h => by
  obtain ⟨_, _, _, _, _, _, _, _, _, _, _, _, _, _, z⟩ := h;exact z.elim
theorem UpToSlots.get {h h' : Heap} (u : h.UpToSlots h') {b : Addr} {o : Obj} (e : h.get? b = some o) (n : ∀ vs, o.data ≠ .fields vs) : ∃ sl, h'.get? b = some { o with slots := sl } := u b o e n
theorem HOk.flown {P : Program} {w : World} {H : Hp} {h h' B : Heap} (x : HOk P w H h) (bh : B.StaysIn h) (bh' : B.StaysIn h') (dom : ∀ b o, H b = some o -> ∃ ob, B.get? b = some ob) : HOk P w H h' := fun a o e =>
  (x a o e).stay (fun b u hb q => by
    have hB : ∃ ob, B.get? b = some ob := by
      rcases hb with rfl | hb
      . exact dom _ _ e
      . exact dom _ _ hb
    obtain ⟨ob, hob⟩ := hB;have := bh b ob hob;rw [q] at this;cases this
    exact bh' b u hob) (fun _ q => q) fun _ _ q => q
theorem le {P : Program} {w : World} {H : Hp} {h : Heap} {a : Addr} {o : HO} (x : ObjOk P w H h a o) : ∃ ob, h.get? a = some ob := by
  cases o with
  | lst xs => obtain ⟨_, _, _, _, e⟩ := x; exact ⟨_, e⟩
  | tup xs => obtain ⟨_, _, _, o, e, _⟩ := x; exact ⟨_, e⟩
  | dK kvs => obtain ⟨_, _, _, _, o, _, _, e, _⟩ := x; exact ⟨_, e⟩
  | dT kvs => obtain ⟨_, _, _, _, o, _, _, e, _⟩ := x; exact ⟨_, e⟩
  | set S n => obtain ⟨o, _, _, _, e, _⟩ := x; exact ⟨_, e⟩
  | ins C dx fs => obtain ⟨_, _, _, e, _⟩ := x; exact ⟨_, e⟩
  | own y => exact x
  | xd fs => obtain ⟨_, ⟨_, _, _, e, _⟩, _⟩ := x; exact ⟨_, e⟩
  | rng lo hi => obtain ⟨_, _, _, e⟩ := x; exact ⟨_, e⟩
  | frz ob u => obtain ⟨e, _⟩ := x; exact ⟨_, e⟩
  | tbl ps => exact ⟨_, (show h.get? a = some _ from x)⟩
  | met f y => exact ⟨_, (show h.get? a = some _ from x)⟩
  | ext φ => obtain ⟨_, e, _⟩ := x; exact e
section
variable {X : Cx} {pins : List (Addr × Obj)} {σ : St} {H : Hp} {s : Shared}
theorem lq {fs : List Addr} {H0 H1 : Hp} {h0 h1 h2 B : Heap} (u : Un fs [] H0 H1 h0 h1) (dom2 : ∀ b o, h0.get? b = some o -> b ∉ fs -> ∃ ob, B.get? b = some ob /\ (H0 b = none -> ob = o))
    (bh' : B.StaysIn h2) (sl : h1.UpToSlots h2) (hfr : ∀ b ∈ fs, ∀ o, h1.get? b = some o -> ∀ vs, o.data ≠ .fields vs) : Un fs [] H0 H1 h0 h2 where
  keep := fun b o e n hb _ => by
    obtain ⟨ob, e1, e2⟩ := dom2 b o e hb;rw [e2 n] at e1;exact bh' b o e1
  slot := fun b o e n hb hx => by
    obtain ⟨s1, e1⟩ := u.slot b o e n hb hx;obtain ⟨s2, e2⟩ := sl b _ e1 (hfr b hb _ e1);exact ⟨s2, e2⟩
  free := u.free
  there := fun b o e hx => by
    by_cases hb : b ∈ fs
    . obtain ⟨o1, e1⟩ := u.there b o e hx
      obtain ⟨s2, e2⟩ := sl b _ e1 (hfr b hb _ e1);exact ⟨_, e2⟩
    . obtain ⟨ob, e1, _⟩ := dom2 b o e hb
      exact ⟨ob, bh' b ob e1⟩
  tups := u.tups
  frzs := u.frzs
  tbls := u.tbls
theorem fv {P : Program} {w : World} {K : Fg} {mg : Str -> Option Value} {base : Heap} {N : List Str} {qual : Str} {scope : Scope} {f : Addr} {cd : Value} {A : Around} {outer : List Env} {s0 : Shared} {H0 : Hp} {E : XK} {h' : Heap} {e C : Addr} {args : List Value}
    (hX : X = cxOf (CX1 P w) P w K mg base N qual scope f cd A outer s0 H0 E) (I : Inv X pins σ H s) (hx : Heap.MadeExcOf s.heap h' e (.ref C) args) (hE : E (.ref C) none H) (tk : Nat) : X.xe (.ref e) { s with heap := h', toks := tk } := by
  subst hX
  show wpAny _ _ (leaving _ (.ref e)) _ _ _
  have hst : s.heap.FunFrames base (envOfC qual scope s0.heap.objs.size f cd :: outer) := I.stack;have hin : ∀ env ∈ (envOfC qual scope s0.heap.objs.size f cd :: outer), ∀ b, env.frame = some b -> b ∈ (envOfC qual scope s0.heap.objs.size f cd :: outer).filterMap (·.frame) := fun env he b hb => ZP.mpr ⟨env, he, hb⟩
  have getB : ∀ b o, s.heap.get? b = some o -> b ∉ (envOfC qual scope s0.heap.objs.size f cd :: outer).filterMap (·.frame) -> (PySem.W.hideAll s.heap ((envOfC qual scope s0.heap.objs.size f cd :: outer).filterMap (·.frame))).get? b = some o := fun b o q n => PySem.W.hideAll_get _ q n
  refine wpAny_leaves_madeW (s := { s with heap := h', toks := tk }) (h := s.heap) I.ok.frames rfl (fun b o q => PySem.W.of_hideAll _ q) (PySem.W.funFrames_hide hst hin) hx fun h'' t x1 x2 x3 x4 => ?_
  have dom : ∀ b o, H b = some o -> ∃ ob, (PySem.W.hideAll s.heap ((envOfC qual scope s0.heap.objs.size f cd :: outer).filterMap (·.frame))).get? b = some ob := fun b o q => by
    have hlt := I.hok.lt q
    have hnf : b ∉ (envOfC qual scope s0.heap.objs.size f cd :: outer).filterMap (·.frame) := fun z => by
      have := I.stkFree b z;rw [q] at this; cases this
    obtain ⟨ob, hob⟩ := le (I.hok b o q);exact ⟨ob, getB b ob hob hnf⟩
  have un : Un (frs outer) [] H0 H s0.heap s.heap := I.base
  have dom2 : ∀ b o, s0.heap.get? b = some o -> b ∉ frs outer -> ∃ ob, (PySem.W.hideAll s.heap ((envOfC qual scope s0.heap.objs.size f cd :: outer).filterMap (·.frame))).get? b = some ob /\ (H0 b = none -> ob = o) := fun b o q n => by
    have hnf : b ∉ (envOfC qual scope s0.heap.objs.size f cd :: outer).filterMap (·.frame) := fun z => by
      rcases ZK.mp (I.stkSub b z) with y | y
      . have h1 : s0.heap.objs.size <= b := by rw [y]; exact I.ok.above
        exact absurd (Zh (Heap.lt_size q) h1) (ZJ _)
      . exact n y
    obtain ⟨o1, e1⟩ := un.there b o q (by simp);refine ⟨o1, getB b o1 e1 hnf, fun z => ?_⟩;have := un.keep b o q z n (by simp);rw [e1] at this;exact Option.some.inj this
  have hfr : ∀ b ∈ frs outer, ∀ o, s.heap.get? b = some o -> ∀ vs, o.data ≠ .fields vs := fun b hb o q => by
    obtain ⟨_, o', e', n'⟩ := hst.mem (b := b) (by
      obtain ⟨env, he, hf⟩ := ZP.mp hb
      exact ZP.mpr ⟨env, Zv _ he, hf⟩)
    rw [q] at e'; cases e';exact n'
  have sl : s.heap.UpToSlots h'' := (Heap.UpToSlots.of_keeps hx.keeps).trans x4;refine ⟨e, C, _, _, H, rfl, I.os, I.bare, lq un dom2 x1.1 sl hfr, HOk.flown I.hok (fun b o q => PySem.W.of_hideAll _ q) x1.1 dom, x1, ?_, dom, dom2, hE⟩
  cases q : H e with
  | none => rfl
  | some o =>
    obtain ⟨ob, hob⟩ := le (I.hok e o q);rw [hx.new] at hob; cases hob
theorem passX {P : Program} {w : World} {K : Fg} {mg : Str -> Option Value} {base : Heap} {N : List Str} {qual : Str} {scope : Scope} {f : Addr} {cd : Value} {A : Around} {outer : List Env} {s0 : Shared} {H0 : Hp} {E E1 : XK}
    (hX : X = cxOf (CX1 P w) P w K mg base N qual scope f cd A outer s0 H0 E) (hE : ∀ c H', E1 c none H' -> E c none H') : nw (CX1 P w) X E1 := by
  subst hX;intro pins σ H s e s' I h;obtain ⟨ea, C, a0, B, H', rfl, os, bare, un, hok, fl, hea, dom, dom2, hE1⟩ := h
  show wpAny _ _ (leaving _ (.ref ea)) _ _ _
  have hst : s'.heap.FunFrames B (envOfC qual scope s0.heap.objs.size f cd :: outer) := fl.2.2.1;have un0 : Un (frs outer) [] H0 H s0.heap s.heap := I.base
  have sub : ∀ b ∈ frs outer, b ∈ frs (envOfC qual scope s0.heap.objs.size f cd :: outer) := fun b hb => by
    obtain ⟨env, he, hf⟩ := ZP.mp hb;exact ZP.mpr ⟨env, Zv _ he, hf⟩
  have notL : ∀ b o, s0.heap.get? b = some o -> b ∉ frs outer -> b ∉ frs (envOfC qual scope s0.heap.objs.size f cd :: outer) := fun b o q n z => by
    rcases ZK.mp (I.stkSub b z) with y | y
    . have h1 : s0.heap.objs.size <= b := by rw [y]; exact I.ok.above
      exact absurd (Zh (Heap.lt_size q) h1) (ZJ _)
    . exact n y
  refine wpAny_leaves_onW I.ok.frames rfl fl fun h'' x1 x2 => ?_
  have ut := (un0.mono sub (fun _ z => z)).trans un;have un1 : Un (frs outer) [] H0 H' s0.heap s'.heap := ⟨fun b o e n hb hx => ut.keep b o e n (notL b o e hb) hx, fun b o e n hb hx => ut.slot b o e n (sub b hb) hx, ut.free, ut.there, ut.tups, ut.frzs, ut.tbls⟩
  have dom2' : ∀ b o, s0.heap.get? b = some o -> b ∉ frs outer -> ∃ ob, B.get? b = some ob /\ (H0 b = none -> ob = o) := fun b o q n => by
    obtain ⟨o1, e1⟩ := un0.there b o q (by simp);obtain ⟨ob, k1, k2⟩ := dom2 b o1 e1 (notL b o q n);refine ⟨ob, k1, fun z => ?_⟩;have e2 := un0.keep b o q z n (by simp);rw [e1] at e2;cases e2;exact k2 (un0.free b _ q z (by simp))
  have hfr : ∀ b ∈ frs outer, ∀ o, s'.heap.get? b = some o -> ∀ vs, o.data ≠ .fields vs := fun b hb o q => by
    obtain ⟨_, o', e', n'⟩ := hst.mem (b := b) (sub b hb);rw [q] at e'; cases e';exact n'
  exact ⟨ea, C, a0, B, H', rfl, os.trans I.os, bare, lq un1 dom2' x1.1 x2 hfr, HOk.flown hok fl.1 x1.1 dom, x1, hea, dom, dom2', hE _ _ hE1⟩
theorem Inv.track {ea : Addr} {oe : Obj} {o : HO} (I : Inv X pins σ H s) (he : s.heap.get? ea = some oe) (hn : H ea = none) (new : X.s₀.heap.get? ea = none) (hL : ea ≠ X.env.locals) (hC : ∀ x c, X.env.cells.lookup x = some c -> c ≠ ea) (hp : ∀ p ∈ X.pn ++ pins, p.1 ≠ ea)
    (ok : ObjOk X.prog X.w (upd H ea o) s.heap ea o) : Inv X pins σ (upd H ea o) s := by
  have ne0 : ∀ b u, H b = some u -> b ≠ ea := fun b u q z => by rw [z, hn] at q; cases q
  have new' : ∀ b u, X.s₀.heap.get? b = some u -> b ≠ ea := fun b u q z => by rw [z, new] at q; cases q
  refine ⟨I.ok, I.os, I.bare, ⟨I.base.keep, I.base.slot, fun b u q n hx => ?_, I.base.there, fun b xs q => ?_, fun b u v q => ?_, fun b ps q => ?_⟩, I.loc, I.cell, ?_, fun x c q => ?_, fun p h => ?_, fun b u q => ?_, I.len⟩
  . rw [zy (new' b u q)]; exact I.base.free b u q n hx
  . have := I.base.tups b xs q; rw [zy (ne0 b _ this)]; exact this
  . have := I.base.frzs b u v q; rw [zy (ne0 b _ this)]; exact this
  . obtain ⟨m, this⟩ := I.base.tbls b ps q; exact ⟨m, by rw [zy (ne0 b _ this)]; exact this⟩
  . rw [zy (Ne.symm hL)]; exact I.free
  . rw [zy (hC x c q)]; exact I.freeC x c q
  . obtain ⟨h1, h2, h3⟩ := I.pin p h
    exact ⟨h1, by rw [zy (hp p h)]; exact h2, h3⟩
  . by_cases hb : b = ea
    . subst hb; rw [zc] at q; cases q; exact ok
    . rw [zy hb] at q
      exact (I.hok b u q).stay (fun _ _ _ z => z) (fun c z => by rw [zy (ne0 c _ z)]; exact z) fun c xs z => by rw [zy (ne0 c _ z)]; exact z
def ExcO (ea C : Addr) : HO := .ext fun h => ∃ o, h.get? ea = some o /\ o.cls = .ref C /\ ∃ vs, o.data = .fields vs
abbrev Cx.suite (X : Cx) (e : Value) : Cx := { X with A := X.A.mark (some e), calm := false, xe := fun _ _ => False }
theorem Inv.suite (I : Inv X pins σ H s) (e : Value) : Inv (X.suite e) pins σ H s :=
  ⟨⟨I.ok.mod, I.ok.kind, I.ok.glob, I.ok.blt, I.ok.above, I.ok.inj, I.ok.has, I.ok.cab, (fun z => by cases z), I.ok.frames, I.ok.stk, I.ok.exf, I.ok.bs, I.ok.bsz, I.ok.noex, I.ok.exfs, I.ok.funs, I.ok.frf⟩, I.os, I.bare, I.base, I.loc, I.cell, I.free, I.freeC, I.pin, I.hok, I.len⟩
theorem Inv.unsuite {e : Value} (I : Inv (X.suite e) pins σ H s) (hd : X.calm = true -> X.A.handled = none) : Inv X pins σ H s :=
  ⟨⟨I.ok.mod, I.ok.kind, I.ok.glob, I.ok.blt, I.ok.above, I.ok.inj, I.ok.has, I.ok.cab, hd, I.ok.frames, I.ok.stk, I.ok.exf, I.ok.bs, I.ok.bsz, I.ok.noex, I.ok.exfs, I.ok.funs, I.ok.frf⟩, I.os, I.bare, I.base, I.loc, I.cell, I.free, I.freeC, I.pin, I.hok, I.len⟩
end
abbrev VE : List Value := [.type "ValueError", .type "Exception", .type "BaseException", .type "object"]
structure Err (K : Fg) (C : Addr) : Prop where
  ok : PySem.W.excIn K C VE "ValueError.__new__" = true
theorem Err.obj {K : Fg} {C : Addr} {h : Heap} (c : Err K C) (X : K.In h) : ∃ bm N nm q bs hdct sn sub ab col dd k0 k1 k2 k3 k5 mN, h.get? C = some (excClassObj nm q C N bs bm hdct sn sub ab col dd k0 k1 k2 k3 k5 "ValueError.__new__") /\
    h.Ns N mN /\ mN "__init__" = none /\ OwnTail h VE bm /\ ∀ v b, PySem.W.mroIn K C v = some b -> (Value.ref C :: bm).contains v = b := by
  have q := c.ok;unfold PySem.W.excIn at q
  split at q
  case h_2 => cases q
  case h_1 dd cd sl ho =>
    split at q
    case h_2 => cases q
    case h_1 C' bm k0 k1 k2 k3 n k5 hm hs =>
      simp only [Bool.and_eq_true, beq_iff_eq, Bool.not_eq_true'] at q
      have hmro : ∀ v b, PySem.W.mroIn K C v = some b -> (Value.ref C' :: bm).contains v = b := fun v b e => by
        unfold PySem.W.mroIn PySem.W.clsIn at e;rw [ho] at e;simp only [ZN, hm, List.isEmpty_cons, Bool.false_eq_true, if_false, Option.some.injEq] at e;exact e
      obtain ⟨⟨⟨⟨⟨e1, e2⟩, hdel⟩, ht⟩, hok⟩, hni⟩ := q;subst e1;subst e2;obtain ⟨nm, bs, mro, ns, qn, hd, sn, sub, ab, col, del⟩ := cd;have hm' : mro = Value.ref C' :: bm := hm;have hdel' : del = false := hdel;subst hm';subst hdel'
      have hsl : sl = #[k0, k1, k2, k3, some (.builtin "ValueError.__new__"), k5] := by
        cases sl with
        | mk l =>
          have hs' : l = [k0, k1, k2, k3, some (.builtin "ValueError.__new__"), k5] := hs;rw [hs']
      subst hsl;exact ⟨bm, ns, nm, qn, bs, hd, sn, sub, ab, col, dd, k0, k1, k2, k3, k5, _, X _ _ ho, .of_isNs (PySem.W.isNs_of_in X hok), PySem.W.nsMap_none_of_in X hok hni, PySem.W.tail_of_in X ht, hmro⟩
section
variable {M : Model} {A : Around} {E : Value -> Shared -> Prop}
theorem jo {h : Heap} {g : Array GenState} {d : Drawn} {t : Nat} {os : OsState} {e C D : Addr} {oe : Obj} {Q : Bool -> Shared -> Prop} {b : Bool} {K : Fg} (X : K.In h) (cC : Err K C) (cD : Err K D) (he : h.get? e = some oe) (hcls : oe.cls = .ref C)
    (hsub : PySem.W.mroIn K C (.ref D) = some b) (hq : Q b ⟨h, g, d, t, os⟩) : wpAny M A (excMatches (.ref e) (.ref D)) Q E ⟨h, g, d, t, os⟩ := by
  obtain ⟨bm, N, nm, q, bs, hdct, sn, sub, ab, col, dd, k0, k1, k2, k3, k5, mN, hC, hN, hni, T, hm⟩ := cC.obj X;obtain ⟨bm', N', nm', q', bs', hdct', sn', sub', ab', col', dd', k0', k1', k2', k3', k5', mN', hD, hN', hni', T', hm'⟩ := cD.obj X;have hcB : (Value.ref D :: bm').contains (.type "BaseException") = true := by rw [YS, T'.hasType (X := "BaseException") (b := true) (by decide +kernel), Bool.or_true]
  have hcD := hm _ _ hsub;have f := tc_notTuple;unfold excMatches
  repeat (first | (with_reducible refine wpAny_loadPart_at he ?_; rw [hcls]) | with_reducible refine wpAny_loadPart_at hD ?_ | (with_reducible refine wpAny_isSubtype_exc hD ?_; rw [hcB]) | (with_reducible refine wpAny_isSubtype_exc hC ?_; rw [hcD]) | wp_step)
  cases b <;> (try wp_walk) <;> exact hq
end
end L2
namespace L2
open PySem PySem.Spec PyProof.Rows
theorem PS.nox {X : Cx} {st : Stmt} {t : TS} (h : PS X.nox st t) : PS X st t := fun pins s σ H D I hw =>
  wpAny_mono (h pins s σ H D (I.wish _) hw) (fun _ _ z => z.unwish) fun _ _ z => z.elim
def tryXe (X : Cx) (pn : List (Addr × Obj)) (J : St -> Value -> Hp -> Prop) : Value -> Shared -> Prop := fun e s' =>
  ∃ pins σ H s, Inv { X with pn := pn, xe := fun _ _ => False } pins σ H s /\ CX1 X.prog X.w X.stack H s (fun c _ H' => J σ c H') e s'
abbrev o6 (X : Cx) (pn : List (Addr × Obj)) (J : St -> Value -> Hp -> Prop) : Cx := { X with pn := pn, xe := tryXe X pn J }
def bp (X : Cx) (J : St -> Value -> Hp -> Prop) : Prop := ∀ pins σ H s e s', Inv X pins σ H s -> CX1 X.prog X.w X.stack H s (fun c _ H' => J σ c H') e s' -> X.xe e s'
theorem ib {X : Cx} {pn : List (Addr × Obj)} {J : St -> Value -> Hp -> Prop} : bp (o6 X pn J) J := fun pins σ H s e s' I h =>
  ⟨pins, σ, H, s, Inv.unwish (X := { X with pn := pn, xe := fun _ _ => False }) (E := tryXe X pn J) I, h⟩
theorem yy {X : Cx} {P : Program} {w : World} {K : Fg} {mg : Str -> Option Value} {base : Heap} {N : List Str} {qual : Str} {scope : Scope} {f : Addr} {cd : Value} {A : Around} {outer : List Env} {s0 : Shared} {H0 : Hp} {E : XK}
    (hX : X = cxOf (CX1 P w) P w K mg base N qual scope f cd A outer s0 H0 E) : bp X (fun _ c H' => E c none H') := fun pins σ H s e s' I h => by
  have q := passX (X := X) (E1 := fun c _ H' => E c none H') hX (fun _ _ z => z) pins σ H s e s' I;subst hX;exact q h
structure FnAtX (P : Program) (w : World) (K : Fg) (mg : Str -> Option Value) (base : Heap) (name : Str) (k : Nat) (ps : List Str) (sp : Sp) : Prop where
  ex : ∃ f fd, mg name = some (.ref f) /\ PySem.W.keepIn K (.ref f) = true /\ Binds K fd ps [] /\ FnOk P w K mg base (CX1 P w) k f fd ps sp
theorem FnAtX.of {P : Program} {w : World} {K : Fg} {mg : Str -> Option Value} {base : Heap} {name : Str} {st : Stmt} {N ps : List Str} {k : Nat} {sp : Sp} (D : zl K mg name st ps) (S : z3 N ps (zf st)) (len : ∀ vs H Q E, sp vs H Q E -> vs.length = ps.length)
    (hbody : ∀ (f : Addr) (cdv : Value) (A : Around) (outer : List Env) (s : Shared) (H : Hp) (vs : List V) (Q : VK) (E : XK), Room k (A.deeper (envOfC name (zf st) s.heap.objs.size f cdv)) -> sp vs H Q E ->
      ∃ t, PSs (cxOf (CX1 P w) P w K mg base N name (zf st) f cdv A outer s H E) (zx st) t /\ t { nx := fun _ H' => Q .non H', rt := Q } (start N vs) H) : FnAtX P w K mg base name (k + 1) ps sp := by
  obtain ⟨f, fd, hm, F, hb⟩ := D.ex;refine ⟨f, fd, hm, F.kp, hb, ?_⟩;obtain ⟨oc, od, kV, doc, pm, an, cdv, ct, osl, rfl, lk, hcd⟩ := F.ex;exact fn_of lk hcd S len (hbody f cdv)
section
variable {X : Cx} {x : Str} {k : Nat} {ps : List Str} {sp : Sp} {p pos : Pos} {e : Expr} {es : List Expr} {t : TA}
def zac (sp : Sp) (J : St -> Value -> Hp -> Prop) (t : TA) : TE := fun σ H Q => t σ H fun vs H1 => sp vs H1 Q fun c _ H' => J σ c H'
theorem zdw {J : St -> Value -> Hp -> Prop} {σ : St} {H : Hp} {Q : VK} : zac sp J t σ H Q = t σ H fun vs H1 => sp vs H1 Q fun c _ H' => J σ c H' := rfl
theorem y7 {J : St -> Value -> Hp -> Prop} (F : FnAtX X.prog X.w X.K X.mg X.base x k ps sp) (hr : Room k X.A) (hx : bp X J) (hg : Gl X x) (ha : PA X (e :: es) t) (hdb : (x == ("__debug__" : Str)) = false := by decide) (he : starEach (e :: es) X.env = (false, eval e X.env) :: starEach es X.env := by rfl)
    (hpl : (backTo pos (starEach es X.env)).any (·.1) = false := by rfl) : PE X (.Call (.Name x p) (e :: es) [] pos) (zac sp J t) := by
  obtain ⟨f, fd, hm, hk, hb, G⟩ := F.ex;intro pins s σ H Q I h;refine wpAny_Call_Name_kw (om I hg hm ?_ hdb);refine PySem.W.callWith_K (h₀ := X.base) I.ok.mod.kin hk (thn (ha pos pins s σ H _ I h) fun us s1 ⟨vs, H1, I1, r, q⟩ => ⟨I1.kIn, ?_⟩) he hpl;have hl : (us ++ []).length = ps.length := by rw [Yo, <- r.length]; exact G.len _ _ _ _ q
  refine wpAny_call (codeAny_mono (G.run X.A X.stack s1 H1 ⟨us, []⟩ us vs Q _ hr I1.env0 (by have := hb s1 us I1.kIn hl; rw [Yo] at this; exact this) r q) fun r' s' hq => ?_)
  cases r' with
  | error e => exact hx pins σ H1 s1 e s' I1 hq
  | ok fl =>
    cases fl with
    | ret u => exact I1.after hq
    | next => exact False.elim hq
    | brk => exact False.elim hq
    | cont => exact False.elim hq
theorem zbv (F : FnAtX X.prog X.w X.K X.mg X.base x k ps sp) (hr : Room k X.A) (hg : Gl X x) (ha : PA X (e :: es) t) (hdb : (x == ("__debug__" : Str)) = false := by decide) (he : starEach (e :: es) X.env = (false, eval e X.env) :: starEach es X.env := by rfl)
    (hpl : (backTo pos (starEach es X.env)).any (·.1) = false := by rfl) : PE X (.Call (.Name x p) (e :: es) [] pos) (ix sp [] E0 t) := by
  obtain ⟨f, fd, hm, hk, hb, G⟩ := F.ex;exact cw G hr hg hm hk hb .nil pass1 ha hdb he hpl
end
section
variable {X : Cx} {C : Addr} {x : Str} {np cpos pos : Pos}
def zai (X : Cx) (C : Addr) (R : Hp -> Prop) : Prop := ∀ pins σ H s h' e args tk, Inv X pins σ H s -> Heap.MadeExcOf s.heap h' e (.ref C) args -> R H -> X.xe (.ref e) { s with heap := h', toks := tk }
theorem y6 {P : Program} {w : World} {K : Fg} {mg : Str -> Option Value} {base : Heap} {N : List Str} {qual : Str} {scope : Scope} {f : Addr} {cd : Value} {A : Around} {outer : List Env} {s0 : Shared} {H0 : Hp} {E : XK}
    (hX : X = cxOf (CX1 P w) P w K mg base N qual scope f cd A outer s0 H0 E) : zai X C (fun H => E (.ref C) none H) := fun pins σ H s h' e args tk I hx hE => fv hX I hx hE tk
def za1 (R : Hp -> Prop) (ta : TA) : TS := fun _ σ H => ta σ H fun vs H1 => vs.length <= sizeLine /\ R H1
theorem zdc {R : Hp -> Prop} {ta : TA} {D : Ends} {σ : St} {H : Hp} : za1 R ta D σ H = ta σ H fun vs H1 => vs.length <= sizeLine /\ R H1 := rfl
theorem xm {e : Expr} {es : List Expr} {R : Hp -> Prop} {ta : TA} (hc : X.calm = true) (c : Err X.K C) (hg : Gl X x) (hm : X.mg x = some (.ref C)) (hr : zai X C R) (ha : PA X (e :: es) ta) (hdb : (x == ("__debug__" : Str)) = false := by decide)
    (he : starEach (e :: es) X.env = (false, eval e X.env) :: starEach es X.env := by rfl) (hpl : (backTo cpos (starEach es X.env)).any (·.1) = false := by rfl) :
    PS X (.Raise (some (.Call (.Name x np) (e :: es) [] cpos)) none pos) (za1 R ta) := by
  intro pins s σ H D I h;obtain ⟨bm, N, nm, q, bs, hdct, sn, sub, ab, col, dd, k0, k1, k2, k3, k5, mN, hC, hN, hni, T, _⟩ := c.obj I.ok.mod.kin
  refine wpAny_Raise_call_subU (C := C) (nm := nm) (q := q) (N := N) (bs := bs) (bm := bm) (hdct := hdct) (sn := sn) (sub := sub) (ab := ab) (col := col) (dd := dd) (k0 := k0) (k1 := k1) (k2 := k2) (k3 := k3) (k5 := k5)
    PySem.F.excBase_ValueError (by decide +kernel) PySem.F.excBase_ValueError (mN := mN) (T.hasType PySem.F.excBase_ValueError.hasBase) (I.ok.hd hc) (by rw [he]; show (false || (backTo cpos (starEach es X.env)).any (·.1)) = false; rw [hpl]; rfl) hni (om I hg hm ⟨rfl, ?_⟩ hdb)
  have hrun := ha cpos pins s σ H _ I h;rw [he] at hrun ⊢;refine Calls.evalArgs_plain (wpAny_mono hrun (fun us s1 h1 => ?_) fun _ _ z => z);obtain ⟨vs, H1, I1, r1, hz, q1⟩ := h1;exact ⟨rfl, by rw [<- r1.length]; exact hz, I1.bk _ _ hC, hN.keeps I1.bk, T.keeps I1.bk, fun h' e hx => hr pins σ H1 s1 h' e us s1.toks I1 hx q1⟩
end
section
variable {X : Cx} {pins : List (Addr × Obj)} {σ : St} {H : Hp} {s : Shared}
theorem Inv.intry (I : Inv X pins σ H s) (J : St -> Value -> Hp -> Prop) : Inv (o6 X (X.pn ++ pins) J) [] σ H s :=
  ⟨⟨I.ok.mod, I.ok.kind, I.ok.glob, I.ok.blt, I.ok.above, I.ok.inj, I.ok.has, I.ok.cab, I.ok.hd, I.ok.frames, I.ok.stk, I.ok.exf, I.ok.bs, I.ok.bsz, I.ok.noex, I.ok.exfs, I.ok.funs, I.ok.frf⟩, I.os, I.bare, I.base, I.loc, I.cell, I.free, I.freeC, fun p hp => I.pin p (by simpa using hp), I.hok, I.len⟩
theorem Inv.outtry {pl : List (Addr × Obj)} {E : Value -> Shared -> Prop} (I : Inv { X with pn := X.pn ++ pins, xe := E } pl σ H s) : Inv X pins σ H s :=
  ⟨⟨I.ok.mod, I.ok.kind, I.ok.glob, I.ok.blt, I.ok.above, I.ok.inj, I.ok.has, I.ok.cab, I.ok.hd, I.ok.frames, I.ok.stk, I.ok.exf, I.ok.bs, I.ok.bsz, I.ok.noex, I.ok.exfs, I.ok.funs, I.ok.frf⟩, I.os, I.bare, I.base, I.loc, I.cell, I.free, I.freeC, fun p hp => I.pin p (ZR _ hp), I.hok, I.len⟩
theorem SP.outtry {J : St -> Value -> Hp -> Prop} {D : Ends} {f : Flow} {s' : Shared} (h : SP (o6 X (X.pn ++ pins) J) [] D f s') : SP X pins D f s' := by
  cases f with
  | next => obtain ⟨a, b, I, q⟩ := h; exact ⟨a, b, I.outtry, q⟩
  | brk => obtain ⟨a, b, I, q⟩ := h; exact ⟨a, b, I.outtry, q⟩
  | cont => obtain ⟨a, b, I, q⟩ := h; exact ⟨a, b, I.outtry, q⟩
  | ret u => obtain ⟨v, a, b, I, r, q⟩ := h; exact ⟨v, a, b, I.outtry, r, q⟩
theorem pi {M : Model} {A : Around} {E : Value -> Shared -> Prop} {i : Nat} {n : Str} {pos : Pos} {Q : Unit -> Shared -> Prop} (I : Inv X pins σ H s) (hN : X.N.Nodup) (hi : X.N[i]? = some n) (hx : X.env.scope.names.lookup n = some .local)
    (h : ∀ s', Inv X pins (σ.set i none) H s' -> Q () s') : wpAny M A (do bindName X.env n .none; unbindBehindTheSuite X.env n pos) Q E s := by
  refine wpAny_bind (wpAny_bindName (ni I hN hi (.inl hx) (v := .non) rfl (fun s1 I1 => ?_) (.inr hx)));obtain ⟨m, hn, hl⟩ := id I1.loc;have hiσ : i < σ.length := by rw [I.len]; exact (Zc.mp hi).1
  obtain ⟨u, ru, lk⟩ := hl i n .non hi (by rw [ZZ hiσ]) (.inl hx)
  have hm : ∃ u, m n = some u := by
    rcases lk with ⟨_, e⟩ | ⟨k, _⟩
    . exact ⟨u, e⟩
    . exfalso
      have hk : X.env.kindOf n = some .local := hx
      rcases k with k | k <;> (rw [hk] at k; cases k)
  obtain ⟨u', hu'⟩ := hm;have hcls : (X.env.scope.kind == .class || (X.env.scope.kind == .module && X.env.locals != X.env.globals)) = false := by rw [I.ok.kind]; rfl
  unfold unbindBehindTheSuite;refine wpAny_onRaise (wpAny_unbindName_local hx hn hu' hcls fun h' u2 hn' sb => ?_);obtain ⟨oL, _, _, hoL, _⟩ := id hn;have J : Inv X pins (σ.set i (some .non)) H s1 := I1;refine h _ ⟨J.ok, J.os, J.bare, ⟨fun b o e z hb hx' => ?_, fun b o e z hb hx' => ?_, J.base.free, fun b o e hx' => ?_, J.base.tups, J.base.frzs, J.base.tbls⟩, ⟨_, hn', fun j y v' e1 e2 e3 => ?_⟩, fun y c e => ?_, J.free, J.freeC, fun p hp => ?_, fun b ob e => ?_, by simpa using I.len⟩
  . exact (sb.2 b (Zs (Zh (Heap.lt_size e) J.ok.above))).trans (J.base.keep b o e z hb hx')
  . obtain ⟨sl, e1⟩ := J.base.slot b o e z hb hx'
    exact ⟨sl, (sb.2 b (Zs (Zh (Heap.lt_size e) J.ok.above))).trans e1⟩
  . obtain ⟨o', e1⟩ := J.base.there b o e hx'
    exact ⟨o', (sb.2 b (Zs (Zh (Heap.lt_size e) J.ok.above))).trans e1⟩
  . by_cases hj : j = i
    . subst hj
      rw [ZZ hiσ] at e2;cases e2
    . rw [Yc (Ne.symm hj)] at e2
      obtain ⟨w', r', q⟩ := hl j y v' e1 (by rw [Yc (Ne.symm hj)]; exact e2) e3;refine ⟨w', r', ?_⟩
      rcases q with ⟨k, e⟩ | ⟨k, c, e, z⟩
      . refine .inl ⟨k, ?_⟩
        have : y ≠ n := fun e => hj (lm hN e1 (e ▸ hi))
        simp [this, e]
      . exact .inr ⟨k, c, e, z.sameBut sb (J.cne y c e)⟩
  . obtain ⟨w', z⟩ := J.cell y c e
    exact ⟨w', z.sameBut sb (J.cne y c e)⟩
  . obtain ⟨e, z, ne, nf, d⟩ := J.pin p hp
    exact ⟨(sb.2 p.1 ne).trans e, z, ne, nf, d⟩
  . refine (J.hok b ob e).stay (fun c w' hc q => (sb.2 c ?_).trans q) (fun _ q => q) fun _ _ q => q
    rintro rfl
    rcases hc with hc | hc
    . rw [<- hc, J.free] at e; cases e
    . rw [J.free] at hc; cases hc
def km (i : Nat) (D : Ends) : Ends := { nx := fun σ H => D.nx (σ.set i none) H, rt := D.rt, bk := fun σ H => D.bk (σ.set i none) H, ct := fun σ H => D.ct (σ.set i none) H }
def zbj (K : Fg) (D0 : Addr) (i : Nat) (tb : (St -> Value -> Hp -> Prop) -> List (Addr × Obj) -> TS) (ts : Value -> TS) : TS := fun D σ H => ∃ J : St -> Value -> Hp -> Prop, (∀ pn, tb J pn D σ H) /\
  ∀ σ1 c H1, J σ1 c H1 -> ∃ C, c = .ref C /\ Err K C /\ PySem.W.mroIn K C (.ref D0) = some true /\ ∀ e ea, H1 ea = none -> ts e (km i D) (σ1.set i (some (.ref ea))) (upd H1 ea (ExcO ea C))
theorem za9 {body : List Stmt} {b0 : Stmt} {suite : List Stmt} {x n : Str} {np hpos pos : Pos} {D0 : Addr} {i : Nat} {tb : (St -> Value -> Hp -> Prop) -> List (Addr × Obj) -> TS} {ts : Value -> TS} (cD : Err X.K D0) (hg : Gl X x) (hm : X.mg x = some (.ref D0)) (hN : X.N.Nodup) (hi : X.N[i]? = some n) (hx : X.env.scope.names.lookup n = some .local)
    (hb : ∀ J pn, PSs (o6 X pn J) body (tb J pn)) (hs : ∀ e, PSs (X.suite e) (b0 :: suite) (ts e)) (hst : X.stack = X.env :: X.outer := by rfl) (hf : X.env.frame = some X.env.locals := by rfl) (hex : X.ex = [] := by rfl) (hdb : (x == ("__debug__" : Str)) = false := by decide) :
    PS X (.Try body [.ExceptHandler (some (.Name x np)) (some n) (b0 :: suite) hpos] [] [] pos) (zbj X.K D0 i tb ts) := by
  intro pins s σ H D I h;obtain ⟨J, hbody, hcatch⟩ := h;refine wpAny_Try_except (wpAny_mono (hb J (X.pn ++ pins) [] s σ H D (I.intry J) (hbody _)) (fun f s1 h1 => ?_) fun e s1 h1 => ?_)
  . have h2 := SP.outtry h1
    cases f with
    | next =>
      obtain ⟨a, b, I1, q⟩ := h2;exact wpAny_execs_nil ⟨a, b, I1, q⟩
    | brk => exact h2
    | cont => exact h2
    | ret u => exact h2
  . obtain ⟨pins', σ1, H1, s2, I2, hcx⟩ := h1
    have J2 : Inv X pins σ1 H1 s2 := I2.outtry;obtain ⟨ea, C, a0, B, H', e1, os, bare, un, hok, fl, hea, dom, dom2, hJ⟩ := hcx;subst e1;obtain ⟨C2, eC, cC, hsub, hsuite⟩ := hcatch σ1 _ H' hJ;obtain rfl : C = C2 := by injection eC
    have hfr0 : X.A.frames = some (X.env :: X.outer) := by rw [<- hst]; exact I.ok.frames
    have fl0 : Heap.FlyingW B (X.env :: X.outer) ea (.ref C) a0 s1.heap := by rw [<- hst]; exact fl
    have hfr : ∀ b ∈ frs X.stack, ∀ o, s1.heap.get? b = some o -> ∀ vs, o.data ≠ .fields vs := fun b hb o q => by
      obtain ⟨_, o', e', n'⟩ := fl.2.2.1.mem hb;rw [q] at e'; cases e';exact n'
    have old_ne : ∀ b o, s2.heap.get? b = some o -> b ≠ ea := fun b o q z => by
      by_cases hbf : b ∈ frs X.stack
      . obtain ⟨oe, vs, T, oT, ts', he, _, hd, _⟩ := fl.2.2.2
        rw [<- z] at he;exact hfr b hbf oe he vs hd
      . obtain ⟨ob, k1, _⟩ := dom2 b o q hbf
        rw [z, fl.2.1] at k1; cases k1
    refine wpAny_looks_onW hfr0 hf fl0 fun h4 held4 sm4 => ?_
    refine wpAny_landsW held4 fun h5 fl5 sm5 => ?_
    have at5 : ∀ {h6 : Heap} {sx : Shared}, sx.heap = h6 -> sx.os = s1.os -> sx.gens = s1.gens -> B.StaysIn h6 -> s1.heap.UpToSlots h6 -> Inv X pins σ1 H' sx := fun {h6 sx} e1 e2 e3 k1 k2 => by
      subst e1;exact J2.call' (ch := []) (e2.trans os) (lq un dom2 k1 k2 hfr) (HOk.flown hok fl.1 k1 dom) (by rw [e3]; exact bare) (fun b z => absurd z (by simp))
    have I5 : Inv X pins σ1 H' { s1 with heap := h5 } := at5 (sx := { s1 with heap := h5 }) rfl rfl rfl fl5.1 (sm4.trans sm5);obtain ⟨oe5, he5, hc5⟩ := fl5.there;refine wpAny_handleBy_cons (codeAny_handlers_test (om (I5.suite (.ref ea)) hg hm ?_ hdb)) (by intro q; cases q);refine jo I5.kIn cC cD he5 hc5 hsub ?_
    show codeAny _ _ _ _ _
    refine codeAny_handlers_suite_as ?_;refine lands_againW fl5 fun h6 fl6 sm6 => ?_
    have I6 : Inv X pins σ1 H' { s1 with heap := h6 } := at5 (sx := { s1 with heap := h6 }) rfl rfl rfl fl6.1 ((sm4.trans sm5).trans sm6)
    have I7 : Inv X pins σ1 (upd H' ea (ExcO ea C)) { s1 with heap := h6 } := by
      obtain ⟨oe, vs, T, oT, ts', he, ⟨hcl, _⟩, hd, _⟩ := fl6.2.2.2;refine I6.track he hea ?_ ?_ (fun y c q => ?_) (fun p hp => ?_) ?_
      . cases q : X.s₀.heap.get? ea with
        | none => rfl
        | some o =>
          obtain ⟨o', q'⟩ := J2.base.there ea o q (by rw [hex]; simp);exact absurd rfl (old_ne ea o' q')
      . obtain ⟨m, ⟨o, _, _, ho, _⟩, _⟩ := J2.loc
        exact Ne.symm (old_ne _ o ho)
      . obtain ⟨v, o, ho, _⟩ := J2.cell y c q
        exact old_ne c o ho
      . exact old_ne _ _ (J2.pin p hp).1
      . refine ⟨⟨oe, he, hcl, vs, hd⟩, ⟨oe, he⟩, fun h1 h2 k1 k2 => ?_⟩
        obtain ⟨o, z1, z2⟩ := k1;exact ⟨o, k2 o z1, z2⟩
    refine ni (X := X.suite (.ref ea)) (I7.suite (.ref ea)) hN hi (.inl hx) (v := .ref ea) rfl (fun s8 I8 => ?_) (.inr hx);refine wpAny_mono (hs (.ref ea) pins s8 _ _ (km i D) I8 (hsuite _ ea hea)) (fun f s9 h9 => ?_) fun _ _ z => z.elim
    show wpAny _ _ _ _ _ _
    cases f with
    | next =>
      obtain ⟨σ9, H9, I9, q9⟩ := h9;exact pi (I9.unsuite I.ok.hd) hN hi hx fun s' I' => ⟨_, _, I', q9⟩
    | brk =>
      obtain ⟨σ9, H9, I9, q9⟩ := h9;exact pi (I9.unsuite I.ok.hd) hN hi hx fun s' I' => ⟨_, _, I', q9⟩
    | cont =>
      obtain ⟨σ9, H9, I9, q9⟩ := h9;exact pi (I9.unsuite I.ok.hd) hN hi hx fun s' I' => ⟨_, _, I', q9⟩
    | ret u =>
      obtain ⟨v9, σ9, H9, I9, r9, q9⟩ := h9;exact pi (I9.unsuite I.ok.hd) hN hi hx fun s' I' => ⟨_, _, _, I', r9, q9⟩
def tTry0 (K : Fg) (D0 : Addr) (tb : (St -> Value -> Hp -> Prop) -> List (Addr × Obj) -> TS) (ts : Value -> TS) : TS := fun D σ H => ∃ J : St -> Value -> Hp -> Prop, (∀ pn, tb J pn D σ H) /\
  ∀ σ1 c H1, J σ1 c H1 -> ∃ C, c = .ref C /\ Err K C /\ PySem.W.mroIn K C (.ref D0) = some true /\ ∀ e, ts e D σ1 H1
theorem suK {e : Value} : (X.suite e).K = X.K := rfl
theorem noxK : X.nox.K = X.K := rfl
theorem tryK {pn : List (Addr × Obj)} {J : St -> Value -> Hp -> Prop} : (o6 X pn J).K = X.K := rfl
theorem zdn {K : Fg} {D0 : Addr} {i : Nat} {tb : (St -> Value -> Hp -> Prop) -> List (Addr × Obj) -> TS} {ts : Value -> TS} {D : Ends} : zbj K D0 i tb ts D σ H = ∃ J : St -> Value -> Hp -> Prop, (∀ pn, tb J pn D σ H) /\
  ∀ σ1 c H1, J σ1 c H1 -> ∃ C, c = .ref C /\ Err K C /\ PySem.W.mroIn K C (.ref D0) = some true /\ ∀ e ea, H1 ea = none -> ts e (km i D) (σ1.set i (some (.ref ea))) (upd H1 ea (ExcO ea C)) := rfl
theorem e_try0 {K : Fg} {D0 : Addr} {tb : (St -> Value -> Hp -> Prop) -> List (Addr × Obj) -> TS} {ts : Value -> TS} {D : Ends} : tTry0 K D0 tb ts D σ H = ∃ J : St -> Value -> Hp -> Prop, (∀ pn, tb J pn D σ H) /\
  ∀ σ1 c H1, J σ1 c H1 -> ∃ C, c = .ref C /\ Err K C /\ PySem.W.mroIn K C (.ref D0) = some true /\ ∀ e, ts e D σ1 H1 := rfl
end
end L2
namespace L2
open PySem PySem.Spec PyProof.Rows
structure ErrQ (K : Fg) (C : Addr) : Prop extends Err K C where
  ga : PySem.W.findIn K (.ref C) "__getattribute__" = some (some (.builtin "BaseException.__getattribute__"))
  gn : PySem.W.findIn K (.ref C) "__getattr__" = some none
  gc : PySem.W.findIn K (.ref C) "__class__" = some (some (.builtin "object.__class__"))
section
variable {prog : Program} {w : World} {A : Around} {E : Value -> Shared -> Prop} {h : Heap} {g : Array GenState} {d : Drawn} {t : Nat} {os : OsState} {a C : Addr} {o : Obj} {K : Fg}
theorem ai {R : Result -> Shared -> Prop} (X : K.In h) (c : ErrQ K C) (hx : h.get? a = some o) (hc : o.cls = .ref C) (hq : R (.ok (.ret (.ref C))) ⟨h, g, d, t, os⟩) :
    codeAny (model prog w) A (.call (.builtin "getset_descriptor.__get__") ⟨[.builtin "object.__class__", .ref a, .ref C], []⟩) R ⟨h, g, d, t, os⟩ := by
  obtain ⟨bm, N, nm, q, bs, hdct, sn, sub, ab, col, dd, k0, k1, k2, k3, k5, mN, hC, hN, hni, T, _⟩ := c.obj X;have hT5 : (⟨h, g, d, t, os⟩ : Shared).TypeIs (.builtin "object.__class__") "getset_descriptor" := F.typeOf_object_class;have hcO : (Value.ref C :: bm).contains (.type (".".intercalate ("object.__class__".cutAt '.').dropLast)) = true := by rw [F.owner_object_class, YS, T.hasType (X := "object") (b := true) (by decide +kernel), Bool.or_true]
  refine codeAny_call_builtin F.slot_gs_get.plain F.entry_gs_get (F.slot_gs_get.check _ _ _ _ _ _ _ _ hT5 (F.args_gs_get _ _ _) ?_)
  repeat (any_goals (first | assumption | (with_reducible refine wpAny_loadPart_at hx ?_; rw [hc]) | (with_reducible refine wpAny_isSubtype_exc hC ?_; rw [hcO]) | wp_step))
  refine ⟨Code.quiet_builtin _ (by decide +kernel), codeAny_builtin F.entry_object_class ?_⟩
  repeat (any_goals (first | assumption | (with_reducible refine wpAny_loadPart_at hx ?_; rw [hc]) | wp_step))
theorem g7 {tk : Tok} {Q : Fin -> Shared -> Prop} (X : K.In h) (c : ErrQ K C) (hx : h.get? a = some o) (hc : o.cls = .ref C) (hq : Q (.done (.ret (.ref C))) ⟨h, g, d, t, os⟩) :
    wpAny (model prog w) A (Builtin.«object.__getattribute__» ⟨[.ref a, .str "__class__" tk], []⟩) Q E ⟨h, g, d, t, os⟩ := by
  have hT5 : (⟨h, g, d, t, os⟩ : Shared).TypeIs (.builtin "object.__class__") "getset_descriptor" := F.typeOf_object_class;have L1 := PySem.W.looks_findIn (M := model prog w) X c.gc;have f5 := F.typeOf_object_class;have f6 := F.slot_gs_get.lookup;have f7 := F.slot_gs_set.lookup
  repeat (any_goals (first | assumption | (with_reducible refine wpAny_loadPart_at hx ?_; rw [hc]) | with_reducible refine L1.at ?_ | wp_step))
  refine ai X c hx hc ?_
  repeat (any_goals (first | assumption | wp_step))
theorem gy {M : Model} {nameV : Value} {Q : Unit -> Shared -> Prop} (X : K.In h) (c : ErrQ K C) (hx : h.get? a = some o) (hc : o.cls = .ref C) (hq : Q () ⟨h, g, d, t, os⟩) : wpAny M A (checkBuiltinCall "BaseException.__getattribute__" ⟨[.ref a, nameV], []⟩) Q E ⟨h, g, d, t, os⟩ := by
  obtain ⟨bm, N, nm, q, bs, hdct, sn, sub, ab, col, dd, k0, k1, k2, k3, k5, mN, hC, hN, hni, T, _⟩ := c.obj X;have hk : builtinKind "BaseException.__getattribute__" = some .slot := by decide +kernel
  have hsplit : splitId "BaseException.__getattribute__" = some ("BaseException", "__getattribute__") := by decide +kernel
  have hcB : (Value.ref C :: bm).contains (.type "BaseException") = true := by rw [YS, T.hasType (X := "BaseException") (b := true) (by decide +kernel), Bool.or_true]
  have ha := F.args_bexc_ga (.ref a) nameV;simp only [checkBuiltinCall, hk, hsplit];refine wpAny_bind ?_;unfold isInstance
  repeat (first | (with_reducible refine wpAny_loadPart_at hx ?_; rw [hc]) | (with_reducible refine wpAny_isSubtype_exc hC ?_; rw [hcB]) | wp_step)
  exact hq
theorem eu {tk : Tok} {R : Result -> Shared -> Prop} (X : K.In h) (c : ErrQ K C) (hx : h.get? a = some o) (hc : o.cls = .ref C) (hq : R (.ok (.ret (.ref C))) ⟨h, g, d, t, os⟩) :
    codeAny (model prog w) A (.call (.builtin "BaseException.__getattribute__") ⟨[.ref a, .str "__class__" tk], []⟩) R ⟨h, g, d, t, os⟩ :=
  codeAny_call_builtin F.attrBase_ValueError.ga.plain F.entry_bexc_ga (gy X c hx hc (g7 X c hx hc hq))
theorem zbc {tk : Tok} {Q : Value -> Shared -> Prop} (X : K.In h) (c : ErrQ K C) (hx : h.get? a = some o) (hc : o.cls = .ref C) (hq : Q (.ref C) ⟨h, g, d, t, os⟩) : wpAny (model prog w) A (getAttrBy (.ref a) (.str "__class__" tk) false) Q E ⟨h, g, d, t, os⟩ := by
  have f3 := F.attrBase_ValueError.ga.bind (.ref a);have L1 := PySem.W.looks_findIn (M := model prog w) X c.ga;have L2' := PySem.W.looks_findIn (M := model prog w) X c.gn;have hx2 : (Value.builtin "BaseException.__getattribute__" == Value.builtin "object.__getattribute__") = false := by decide +kernel
  have hx1 : (onTheHeap (Value.ref C) && Value.builtin "BaseException.__getattribute__" == Value.builtin "object.__getattribute__") = false := by rw [hx2]; rfl
  repeat (any_goals (first | assumption | (with_reducible refine wpAny_loadPart_at hx ?_; rw [hc]) | with_reducible refine L1.at ?_ | with_reducible refine L2'.at ?_ | wp_step))
  refine eu X c hx hc ?_
  repeat (any_goals (first | assumption | wp_step))
theorem da {Q : Option Value -> Shared -> Prop} (X : K.In h) (c : ErrQ K C) (hx : h.get? a = some o) (hc : o.cls = .ref C) (hq : Q (some (.ref C)) ⟨h, g, d, t + 1, os⟩) : wpAny (model prog w) A (getAttr? (.ref a) "__class__") Q E ⟨h, g, d, t, os⟩ := by
  unfold getAttr? getAttrBy?
  repeat (any_goals (first | assumption | with_reducible apply zbc X c hx hc | wp_step))
end
def ExcAt (a C : Addr) (h : Heap) : Prop := ∃ o, h.get? a = some o /\ o.cls = .ref C
theorem lv {K : Fg} {a C : Addr} (c : ErrQ K C) : PySem.W.KitX K (.ref a) (.ref C) (ExcAt a C) where
  ty := fun M h X p => by
    obtain ⟨o, h1, h2⟩ := p;exact h2 ▸ (PySem.W.Looks.ld h1).andThen .now
  it := fun M h X p => by
    obtain ⟨bm, N, nm, q, bs, hdct, sn, sub, ab, col, dd, k0, k1, k2, k3, k5, mN, hC, hN, hni, T, _⟩ := c.obj X;intro A' Q' E' s' k q;unfold isType loadHead;exact wpAny_bind (wpAny_loadPart (k _ _ hC) (wpAny_pure q))
  ne := fun h tp dd its n sl X htp => by
    obtain ⟨bm, N, nm, q, bs, hdct, sn, sub, ab, col, dd, k0, k1, k2, k3, k5, mN, hC, hN, hni, T, _⟩ := c.obj X;refine Bool.eq_false_iff.mpr fun q => ?_
    have e : C = tp := Value.ref.inj (beq_iff_eq.mp q);subst e;rw [hC] at htp;have hcl := congrArg Obj.cls (Option.some.inj htp)
    revert hcl
    show Value.type "type" = Value.type "tuple" -> False
    intro hcl
    injection hcl with hcl
    exact absurd hcl (by decide)
  ca := fun {_ _ _ _ _ s} X p k => by
    obtain ⟨o, h1, h2⟩ := p;obtain ⟨h, g, d, t, os⟩ := s;exact da X c h1 h2 k
section
variable {X : Cx} {pins : List (Addr × Obj)} {σ : St} {H : Hp} {s : Shared}
theorem Inv.exc {ea C : Addr} (I : Inv X pins σ H s) (h : H ea = some (ExcO ea C)) : ExcAt ea C s.heap := by
  have q : ObjOk X.prog X.w H s.heap ea (ExcO ea C) := I.hok ea _ h;obtain ⟨⟨o, h1, h2, _⟩, _⟩ := q;exact ⟨o, h1, h2⟩
theorem i8 : CallR X (.builtin "isinstance") (fun xs H Q => ∃ ea C D b, xs = [.ref ea, .ref D] /\ H ea = some (ExcO ea C) /\ ErrQ X.K C /\ PySem.W.kitOne X.K (.ref C) (.ref D) = some b /\ Q (.bl b) H) := by
  intro pins s σ H xs us Q I r h;obtain ⟨ea, C, D, b, rfl, he, c, e, q⟩ := h;obtain ⟨u, v, rfl, rx, ry⟩ := Vals.two r;cases rx; cases ry;exact PySem.W.kia_one (lv c) I.kIn (I.exc he) e (fun z => nomatch z) fun tk => ⟨.bl b, H, I.tok _, rfl, q⟩
theorem gm : CallR X (.builtin "isinstance") (fun xs H Q => ∃ ea C T b, xs = [.ref ea, .ty T] /\ H ea = some (ExcO ea C) /\ ErrQ X.K C /\ PySem.W.kitOne X.K (.ref C) (.type T) = some b /\ Q (.bl b) H) := by
  intro pins s σ H xs us Q I r h;obtain ⟨ea, C, D, b, rfl, he, c, e, q⟩ := h;obtain ⟨u, v, rfl, rx, ry⟩ := Vals.two r;cases rx; cases ry;exact PySem.W.kia_one (lv c) I.kIn (I.exc he) e (fun z => nomatch z) fun tk => ⟨.bl b, H, I.tok _, rfl, q⟩
theorem j3 : ∀ {Ds : List Addr} {us : List Value}, Vals (Ds.map V.ref) us -> us = Ds.map Value.ref
  | [], _, .nil => rfl
  | D :: Ds, _, .cons r t => by
    rw [j3 t];cases r;rfl
theorem nj : CallR X (.builtin "isinstance") (fun xs H Q => ∃ (ea C tp : Addr) (Ds : List Addr) (b : Bool), xs = [.ref ea, .ref tp] /\ H ea = some (ExcO ea C) /\ ErrQ X.K C /\ SqT X.K H tp (Ds.map V.ref) /\ PySem.W.kitAny X.K (.ref C) (Ds.map Value.ref) = some b /\ Q (.bl b) H) := by
  intro pins s σ H xs us Q I r h;obtain ⟨ea, C, tp, Ds, b, rfl, he, c, ht, e, q⟩ := h;obtain ⟨u, v, rfl, rx, ry⟩ := Vals.two r;cases rx; cases ry;obtain ⟨its, rv, ⟨o, ho, hc, n, hd⟩, hz⟩ := I.tuple ht;have ei := j3 rv;subst ei;obtain ⟨ocls, odict, odata, oslots⟩ := o;dsimp only at hc hd;subst hc hd;exact PySem.W.kia_tup (lv c) I.kIn (I.exc he) ho e (fun z => nomatch z) fun tk => ⟨.bl b, H, I.tok _, rfl, q⟩
end
theorem io : bootBuiltins "ValueError" = some (.type "ValueError") := by decide +kernel
theorem gj {K : Fg} {h : Heap} {mg : Str -> Option Value} (X : K.In h) (G : h.Ns mainGlobals mg) {name : Str} {C : Addr} (e : PySem.W.nsIn K mainGlobals name = some (some (.ref C))) (q : PySem.W.excIn K C VE "ValueError.__new__" = true)
    (g1 : PySem.W.findIn K (.ref C) "__getattribute__" = some (some (.builtin "BaseException.__getattribute__"))) (g2 : PySem.W.findIn K (.ref C) "__getattr__" = some none) (g3 : PySem.W.findIn K (.ref C) "__class__" = some (some (.builtin "object.__class__"))) :
    mg name = some (.ref C) /\ ErrQ K C := ⟨PySem.W.mg_of X G e, ⟨⟨q⟩, g1, g2, g3⟩⟩
theorem zcn {K : Fg} {C : Addr} : PySem.W.kitOne K (.ref C) (.ref C) = some true := by
  unfold PySem.W.kitOne;rw [if_pos (by simp)]
theorem uc {K : Fg} {C D : Addr} {cd : ClassData} {b : Bool} (h0 : (Value.ref C == Value.ref D) = false) (h1 : PySem.W.clsIn K D = some cd) (h2 : PySem.W.typeIn K (.ref D) = some (.type "type")) (h3 : PySem.W.subIn K (.ref C) (.ref D) = some b) : PySem.W.kitOne K (.ref C) (.ref D) = some b := by
  unfold PySem.W.kitOne PySem.W.kitCls;rw [if_neg (by rw [h0]; simp)]
  show (if ((PySem.W.clsIn K D).isSome && PySem.W.typeIn K (.ref D) == some (.type "type")) = true then PySem.W.subIn K (.ref C) (.ref D) else none) = some b
  rw [h1, h2, if_pos (by simp)];exact h3
theorem zc7 {K : Fg} {C : Addr} {b : Bool} (h3 : PySem.W.subIn K (.ref C) (.type "ValueError") = some b) : PySem.W.kitOne K (.ref C) (.type "ValueError") = some b := by
  unfold PySem.W.kitOne PySem.W.kitCls;rw [if_neg (by simp)]
  show (if PySem.W.kitMeta "ValueError" = true then PySem.W.subIn K (.ref C) (.type "ValueError") else none) = some b
  rw [if_pos (by decide +kernel)];exact h3
def zay (K : Fg) (C : Addr) : List Addr -> Prop
  | [] => True
  | D :: Ds => PySem.W.kitOne K (.ref C) (.ref D) = some false /\ zay K C Ds
theorem p8 {K : Fg} {C : Addr} : ∀ {Ds : List Addr}, zay K C Ds -> PySem.W.kitAny K (.ref C) (Ds.map Value.ref) = some false
  | [], _ => rfl
  | D :: Ds, h => by
    show PySem.W.kitAny K (.ref C) (Value.ref D :: Ds.map Value.ref) = some false
    unfold PySem.W.kitAny;rw [h.1];exact p8 h.2
theorem Same.seqT {K : Fg} {H H' : Hp} {a : Addr} {xs : List V} (e : Same H H') (h : SqT K H a xs) : SqT K H' a xs := by
  rcases h with (h | ⟨o, h⟩) | h
  . exact .inl (.inl (e _ _ h))
  . exact .inl (.inr ⟨o, e _ _ h⟩)
  . exact .inr h
end L2
namespace L2
open PySem PySem.Spec PyProof.Rows
inductive Tr where
  | lf (v : V) | ls (ts : List Tr) | tp (ts : List Tr)
mutual
def TrAt (K : Fg) (H : Hp) : Tr -> V -> Prop
  | .lf v, x => x = v /\ yx v = true
  | .ls ts, x => ∃ a xs, x = .ref a /\ SqL K H a xs /\ TrsAt K H ts xs
  | .tp ts, x => ∃ a xs, x = .ref a /\ SqT K H a xs /\ TrsAt K H ts xs
def TrsAt (K : Fg) (H : Hp) : List Tr -> List V -> Prop
  | [], xs => xs = []
  | t :: ts, xs => ∃ y ys, xs = y :: ys /\ TrAt K H t y /\ TrsAt K H ts ys
end
mutual
def eqTr : Tr -> Tr -> Bool
  | .lf v, .lf w => eqV v w
  | .ls ts, .ls us => bj ts us
  | .tp ts, .tp us => bj ts us
  | _, _ => false
def bj : List Tr -> List Tr -> Bool
  | [], [] => true
  | t :: ts, u :: us => eqTr t u && bj ts us
  | _, _ => false
end
mutual
def deep : Tr -> Nat
  | .lf _ => 0
  | .ls ts => kw ts + 1
  | .tp ts => kw ts + 1
def kw : List Tr -> Nat
  | [] => 0
  | t :: ts => max (deep t) (kw ts)
end
theorem TrsAt.len {K : Fg} {H : Hp} : ∀ {ts : List Tr} {xs : List V}, TrsAt K H ts xs -> ts.length = xs.length
  | [], xs, h => by rw [TrsAt] at h; rw [h]; rfl
  | t :: ts, xs, h => by
    rw [TrsAt] at h;obtain ⟨y, ys, rfl, _, h⟩ := h;simp [TrsAt.len h]
theorem TrsAt.get {K : Fg} {H : Hp} : ∀ {ts : List Tr} {xs : List V} {j : Nat} {x : V}, TrsAt K H ts xs -> xs[j]? = some x -> ∃ t, ts[j]? = some t /\ TrAt K H t x
  | [], xs, j, x, h, e => by rw [TrsAt] at h; subst h; simp at e
  | t :: ts, xs, 0, x, h, e => by
    rw [TrsAt] at h;obtain ⟨y, ys, rfl, h1, h⟩ := h;cases e;exact ⟨t, rfl, h1⟩
  | t :: ts, xs, j + 1, x, h, e => by
    rw [TrsAt] at h;obtain ⟨y, ys, rfl, h1, h⟩ := h;exact TrsAt.get (ts := ts) (j := j) h e
theorem TrsAt.of {K : Fg} {H : Hp} : ∀ {ts : List Tr} {xs : List V}, ts.length = xs.length -> (∀ (j : Nat) (t : Tr) (x : V), ts[j]? = some t -> xs[j]? = some x -> TrAt K H t x) -> TrsAt K H ts xs
  | [], [], _, _ => by rw [TrsAt]
  | t :: ts, x :: xs, hl, h => by
    rw [TrsAt];exact ⟨x, xs, rfl, h 0 t x rfl rfl, TrsAt.of (by simpa using hl) fun j t x e1 e2 => h (j + 1) t x e1 e2⟩
section
variable {X : Cx} {pins : List (Addr × Obj)} {σ : St} {H : Hp} {s : Shared}
end
section
variable {X : Cx}
def SameK : Tr -> Tr -> Prop
  | .ls _, .ls _ => True
  | .tp _, .tp _ => True
  | _, _ => False
theorem SameK.of {t t' : Tr} (h : SameK t t') : (∃ ts us, t = .ls ts /\ t' = .ls us) \/ ∃ ts us, t = .tp ts /\ t' = .tp us := by
  cases t <;> cases t' <;> first | exact .inl ⟨_, _, rfl, rfl⟩ | exact .inr ⟨_, _, rfl, rfl⟩ | exact h.elim
def rEqD (K : Fg) (n : Nat) (neg : Bool) (x y : V) (H : Hp) (Q : VK) : Prop := ∃ t t', SameK t t' /\ TrAt K H t x /\ TrAt K H t' y /\ deep t <= n /\ deep t' <= n /\ Q (.bl (neg ^^ eqTr t t')) H
end
section
variable {X : Cx} {pins : List (Addr × Obj)} {σ : St} {H : Hp} {s : Shared}
open Classical in
end
section
variable {X : Cx}
def inTr (t : Tr) (ts : List Tr) : Bool := ts.any fun u => eqTr u t
def rInD (K : Fg) (n : Nat) (neg : Bool) : R2 := fun x y H Q => ∃ p xs ts t, y = .ref p /\ (SqL K H p xs \/ SqT K H p xs) /\ TrsAt K H ts xs /\ TrAt K H t x /\ deep t <= n /\ kw ts <= n /\ Q (.bl (neg ^^ inTr t ts)) H
end
mutual
theorem TrAt.mono {K : Fg} {H H' : Hp} (S : Same H H') : ∀ {t : Tr} {x : V}, TrAt K H t x -> TrAt K H' t x
  | .lf v, x, h => by rw [TrAt] at h ⊢; exact h
  | .ls ts, x, h => by
    rw [TrAt] at h ⊢;obtain ⟨a, xs, e, sq, h⟩ := h;exact ⟨a, xs, e, S.seq sq, TrsAt.mono S h⟩
  | .tp ts, x, h => by
    rw [TrAt] at h ⊢;obtain ⟨a, xs, e, sq, h⟩ := h;exact ⟨a, xs, e, Same.seqT S sq, TrsAt.mono S h⟩
theorem TrsAt.mono {K : Fg} {H H' : Hp} (S : Same H H') : ∀ {ts : List Tr} {xs : List V}, TrsAt K H ts xs -> TrsAt K H' ts xs
  | [], xs, h => by rw [TrsAt] at h ⊢; exact h
  | t :: ts, xs, h => by
    rw [TrsAt] at h ⊢;obtain ⟨y, ys, e, h1, h2⟩ := h;exact ⟨y, ys, e, TrAt.mono S h1, TrsAt.mono S h2⟩
end
theorem TrAt.lf {K : Fg} {H : Hp} {v : V} (f : yx v = true) : TrAt K H (.lf v) v := by rw [TrAt]; exact ⟨rfl, f⟩
theorem TrAt.ls {K : Fg} {H : Hp} {a : Addr} {xs : List V} {ts : List Tr} (h : SqL K H a xs) (q : TrsAt K H ts xs) : TrAt K H (.ls ts) (.ref a) := by rw [TrAt]; exact ⟨a, xs, rfl, h, q⟩
theorem TrAt.tp {K : Fg} {H : Hp} {a : Addr} {xs : List V} {ts : List Tr} (h : SqT K H a xs) (q : TrsAt K H ts xs) : TrAt K H (.tp ts) (.ref a) := by rw [TrAt]; exact ⟨a, xs, rfl, h, q⟩
theorem TrsAt.nil {K : Fg} {H : Hp} : TrsAt K H [] [] := by rw [TrsAt]
theorem TrsAt.cons {K : Fg} {H : Hp} {t : Tr} {ts : List Tr} {x : V} {xs : List V} (h : TrAt K H t x) (q : TrsAt K H ts xs) : TrsAt K H (t :: ts) (x :: xs) := by rw [TrsAt]; exact ⟨x, xs, rfl, h, q⟩
theorem TrsAt.flat {K : Fg} {H : Hp} : ∀ {xs : List V}, xs.all yx = true -> TrsAt K H (xs.map Tr.lf) xs
  | [], _ => TrsAt.nil
  | x :: xs, f => by
    rw [YA, Bool.and_eq_true] at f;exact TrsAt.cons (TrAt.lf f.1) (TrsAt.flat f.2)
theorem TrsAt.append {K : Fg} {H : Hp} : ∀ {ts us : List Tr} {xs ys : List V}, TrsAt K H ts xs -> TrsAt K H us ys -> TrsAt K H (ts ++ us) (xs ++ ys)
  | [], us, xs, ys, h, q => by rw [TrsAt] at h; subst h; exact q
  | t :: ts, us, xs, ys, h, q => by
    rw [TrsAt] at h;obtain ⟨y, zs, rfl, h1, h2⟩ := h;exact TrsAt.cons h1 (TrsAt.append h2 q)
theorem e_eqD {K : Fg} {n : Nat} {neg : Bool} {x y : V} {H : Hp} {Q : VK} : rEqD K n neg x y H Q = ∃ t t', SameK t t' /\ TrAt K H t x /\ TrAt K H t' y /\ deep t <= n /\ deep t' <= n /\ Q (.bl (neg ^^ eqTr t t')) H := rfl
theorem e_inD {K : Fg} {n : Nat} {neg : Bool} {x y : V} {H : Hp} {Q : VK} : rInD K n neg x y H Q = ∃ p xs ts t, y = .ref p /\ (SqL K H p xs \/ SqT K H p xs) /\ TrsAt K H ts xs /\ TrAt K H t x /\ deep t <= n /\ kw ts <= n /\ Q (.bl (neg ^^ inTr t ts)) H := rfl
end L2
namespace L2
open PySem PySem.Spec PyProof.Rows
def chr1 (c : Nat) : Str := ⟨#[c]⟩
def Itw (x : Str) : It := ⟨fun i _ => i < x.cps.size, fun i H v H' => H' = H /\ ∃ c, x.cps[i]? = some c /\ v = .str (chr1 c), fun i _ => x.cps.size <= i⟩
theorem zaq {P : Program} {w : World} {K : Fg} {tg : Expr} (it : Addr) (x : Str) (t : Tok) : Turn P w K tg (Itw x) [it] it (fun i h => h.IsStrIter it "str_ascii_iterator" x t i) where
  mem := by simp
  obj := fun i h st b hb => by
    have e : b = it := by simpa using hb
    subst e;obtain ⟨o, e, c, d⟩ := st;exact ⟨o, e, fun v z => by rw [d] at z; cases z⟩
  keep := fun i h h' st k => by
    obtain ⟨o, e, r⟩ := st;exact ⟨o, k it (by simp) o e, r⟩
  item := by
    intro X hP hw hK hc i pins s σ H E I hf st hg;subst hP hw hK;have hi : i < x.cps.size := hg;obtain ⟨f0, f1, f2, f3, f4, f5⟩ := hf it (by simp);refine wpAny_pyNext_ascii_item st (c := x.cps[i]) (by simp [hi]) fun h' st' sb => ?_
    have I1 : Inv X pins σ H { s with heap := h', toks := s.toks + 1 } := I.turned (t' := s.toks + 1) (fun b o hb e => (sb.2 b hb).trans e) f0 f1 f3 f4 f5;obtain ⟨o, e, c, d⟩ := id st';exact ⟨_, rfl, kr (s := { s with heap := h', toks := s.toks + 1 }) e c d (by decide) ⟨.str (chr1 x.cps[i]), H, I1, ⟨_, rfl⟩, ⟨rfl, _, by simp [hi], rfl⟩, st', fun b hb => (hf b hb).1⟩⟩
  done := by
    intro X hP hw hK hc i pins s σ H E I hf st hg;subst hP hw hK;have hi : x.cps.size <= i := hg;obtain ⟨f0, f1, f2, f3, f4, f5⟩ := hf it (by simp);exact wpAny_pyNext_ascii_end (I.ok.hd hc) st (by simp [hi]) fun h' eb => ⟨rfl, I.turned (t' := s.toks) (fun b o hb e => eb b o hb e) f0 f1 f3 f4 f5⟩
  self := fun _ _ _ _ _ st h => wpAny_pyIter_striter_ascii st h
theorem za7 {P : Program} {w : World} {K : Fg} {tg : Expr} (it : Addr) (x : Str) (t : Tok) : Turn P w K tg (Itw x) [it] it (fun i h => h.IsStrIter it "str_iterator" x t i) where
  mem := by simp
  obj := fun i h st b hb => by
    have e : b = it := by simpa using hb
    subst e;obtain ⟨o, e, c, d⟩ := st;exact ⟨o, e, fun v z => by rw [d] at z; cases z⟩
  keep := fun i h h' st k => by
    obtain ⟨o, e, r⟩ := st;exact ⟨o, k it (by simp) o e, r⟩
  item := by
    intro X hP hw hK hc i pins s σ H E I hf st hg;subst hP hw hK;have hi : i < x.cps.size := hg;obtain ⟨f0, f1, f2, f3, f4, f5⟩ := hf it (by simp);refine wpAny_pyNext_wide_item st (c := x.cps[i]) (by simp [hi]) fun h' st' sb => ?_
    have I1 : Inv X pins σ H { s with heap := h', toks := s.toks + 1 } := I.turned (t' := s.toks + 1) (fun b o hb e => (sb.2 b hb).trans e) f0 f1 f3 f4 f5;obtain ⟨o, e, c, d⟩ := id st';exact ⟨_, rfl, kr (s := { s with heap := h', toks := s.toks + 1 }) e c d (by decide) ⟨.str (chr1 x.cps[i]), H, I1, ⟨_, rfl⟩, ⟨rfl, _, by simp [hi], rfl⟩, st', fun b hb => (hf b hb).1⟩⟩
  done := by
    intro X hP hw hK hc i pins s σ H E I hf st hg;subst hP hw hK;have hi : x.cps.size <= i := hg;obtain ⟨f0, f1, f2, f3, f4, f5⟩ := hf it (by simp);exact wpAny_pyNext_wide_end (I.ok.hd hc) st (by simp [hi]) fun h' eb => ⟨rfl, I.turned (t' := s.toks) (fun b o hb e => eb b o hb e) f0 f1 f3 f4 f5⟩
  self := fun _ _ _ _ _ st h => wpAny_pyIter_striter_wide st h
def iStr (a : TE) : TI := fun σ H R => a σ H fun x H1 => ∃ z, x = .str z /\ R (Itw z) H1
theorem pi_str {X : Cx} {tg l : Expr} {tl : TE} (hl : PE X l tl) : PI X tg l (iStr tl) := by
  intro pins s σ H R I h;refine thn (hl pins s σ H _ I h) fun v s1 ⟨x, H1, I1, r1, q1⟩ => ?_
  obtain ⟨z, e, q⟩ := q1;subst e;obtain ⟨t, rfl⟩ := r1;refine wpAny_pyIter_strU ?_
  have fin : ∀ {tn : Nat -> Heap -> Prop}, Turn X.prog X.w X.K tg (Itw z) [s1.heap.objs.size] s1.heap.objs.size tn -> tn 0 (s1.heap.push { cls := .type (strIterType z), data := .fields #[.str z t, .int 0 0] }) ->
      PIE X pins σ tg R (.ref s1.heap.objs.size) { s1 with heap := s1.heap.push { cls := .type (strIterType z), data := .fields #[.str z t, .int 0 0] } } := fun {tn} T h0 => by
    refine ⟨s1.heap.objs.size, [s1.heap.objs.size], _, _, H1, rfl, I1.kept (t' := s1.toks) fun b o e => Heap.get?_push_of_some _ e, T, h0, fun b hb => ?_, q⟩;have e : b = s1.heap.objs.size := by simpa using hb
    subst e;exact I1.fpOk (Zm _) (I1.hok.fresh (Zm _))
  cases ha : z.cps.all (· < 128) with
  | true =>
    have e : strIterType z = "str_ascii_iterator" := by simp [strIterType, ha]
    refine fin (zaq _ z t) ?_;exact ⟨_, Heap.get?_push_size _ rfl, by rw [e], rfl⟩
  | false =>
    have e : strIterType z = "str_iterator" := by simp [strIterType, ha]
    refine fin (za7 _ z t) ?_;exact ⟨_, Heap.get?_push_size _ rfl, by rw [e], rfl⟩
theorem e_iStr {a : TE} {σ : St} {H : Hp} {R : It -> Hp -> Prop} : iStr a σ H R = a σ H fun x H1 => ∃ z, x = .str z /\ R (Itw z) H1 := rfl
def xj (z : Str) (n : Nat) : Str := ⟨(List.replicate n z.cps.toList).flatten.toArray⟩
theorem zao : ∀ (n : Nat) (a acc : Array Nat), (List.replicate n a).foldl (· ++ ·) acc = acc ++ (List.replicate n a.toList).flatten.toArray := by
  intro n
  induction n with
  | zero => intro a acc; simp
  | succ n ih =>
    intro a acc;rw [YO, Xb, ih, YO, List.flatten_cons]
    apply Array.ext'
    simp
theorem mul_is (z : Str) (n : Int) : Txt.mul z n = xj z n.toNat := by
  unfold Txt.mul xj
  by_cases h : n < 1
  . rw [if_pos h, show n.toNat = 0 by omega]; rfl
  . rw [if_neg h]
    by_cases h2 : (n == 1 || z.length == 0) = true
    . rw [if_pos h2]
      rcases Bool.or_eq_true _ _ ▸ h2 with q | q
      . have : n = 1 := by simpa using q
        subst this
        show z = _
        have : (1 : Int).toNat = 1 := rfl;rw [this];simp
      . have e : z.cps.size = 0 := by simpa [Str.length] using q
        have e2 : z.cps = #[] := Array.eq_empty_of_size_eq_zero e;obtain ⟨c⟩ := z;simp only at e2;subst e2;simp
    . rw [if_neg h2, zao]
      simp
section
variable {X : Cx}
def rMulS : R2 := fun x y H Q => ∃ z n, x = .str z /\ y = .int n /\ -(2 ^ 62) <= n /\ n < 2 ^ 31 /\ z.length * n.toNat <= 2 ^ 20 /\ Q (.str (xj z n.toNat)) H
theorem dy : OpR X (binaryOp .Mult) rMulS := by
  intro pins s σ H x y v u Q I rx ry h;obtain ⟨z, n, rfl, rfl, h1, h2, h3, q⟩ := h;obtain ⟨t, rfl⟩ := rx;obtain ⟨t', rfl⟩ := ry;refine SB.mul ⟨?_, fun h4 h5 => ?_, fun h4 h5 => ?_⟩ fun tk k => ?_
  . rw [decide_eq_false (by omega), decide_eq_false (by omega)]; rfl
  . intro h6
    have h7 : (z.length : Int) * n <= 2 ^ 20 := by
      have : ((z.length * n.toNat : Nat) : Int) <= ((2 ^ 20 : Nat) : Int) := by exact_mod_cast h3
      rw [Int.natCast_mul, ZX (by omega)] at this;exact this
    have h8 : (2 ^ 63 - 1 : Int) / n * n <= z.length * n := Int.mul_le_mul_of_nonneg_right (by omega) (by omega);have h9 := Int.emod_add_mul_ediv (2 ^ 63 - 1 : Int) n;have h10 : (2 ^ 63 - 1 : Int) % n < n := Yu _ (by omega);rw [Int.mul_comm] at h8;omega
  . have : z.length * n.toNat <= sizeLine := Zd h3 (by decide)
    show decide (z.length * n.toNat > sizeLine) = false
    exact decide_eq_false (by omega)
  . rw [mul_is]
    exact ⟨.str (xj z n.toNat), H, I.tok _, ⟨_, rfl⟩, q⟩
theorem e_mulS {x y : V} {H : Hp} {Q : VK} : rMulS x y H Q = ∃ z n, x = .str z /\ y = .int n /\ -(2 ^ 62) <= n /\ n < 2 ^ 31 /\ z.length * n.toNat <= 2 ^ 20 /\ Q (.str (xj z n.toNat)) H := rfl
end
theorem e_ixS {x y : V} {H : Hp} {Q : VK} : rIxS x y H Q = ∃ z i c, x = .str z /\ y = .int i /\ z.length <= sizeLine /\ atI z.cps.toList i = some c /\ Q (.str ⟨#[c]⟩) H := rfl
theorem e_iT {K : Fg} {a : TE} {σ : St} {H : Hp} {R : It -> Hp -> Prop} : iTup K a σ H R = a σ H fun x H1 => ∃ p, x = .ref p /\ (∃ xs, SqT K H1 p xs) /\ R (Itt K p) H1 := rfl
theorem dr : ∀ {texts : List Str} {us : List Value}, Vals (texts.map V.str) us -> ∃ l : List (Str × Tok), us = strValues l /\ l.map (·.1) = texts
  | [], _, .nil => ⟨[], rfl, rfl⟩
  | x :: texts, _, .cons r t => by
    obtain ⟨tk, rfl⟩ := r;obtain ⟨l, e1, e2⟩ := dr t;exact ⟨(x, tk) :: l, by rw [e1]; rfl, by rw [ZM, e2]⟩
section
variable {X : Cx}
def rJoin (K : Fg) : V -> List V -> Hp -> VK -> Prop := fun x vs H Q => ∃ sep b texts, x = .str sep /\ vs = [.ref b] /\ SqL K H b (texts.map V.str) /\ JoinOk sep texts = true /\ Q (.str (Txt.join sep texts)) H
theorem oh : MtM X "str.join" (rJoin X.K) := by
  intro pins s σ H x vs v us Q I rx rv h;obtain ⟨sep, b, texts, rfl, rfl, hs, hok, q⟩ := h;obtain ⟨t, rfl⟩ := rx;obtain ⟨u, rfl, ru⟩ := rv.one;cases ru;obtain ⟨its, r, pl, hz⟩ := I.list hs;obtain ⟨l, e1, e2⟩ := dr r;subst e1;exact SC.join pl.isList e2 hok fun t' k => ⟨.str (Txt.join sep texts), H, I.tok _, ⟨_, rfl⟩, q⟩
theorem e_join {K : Fg} {x : V} {vs : List V} {H : Hp} {Q : VK} : rJoin K x vs H Q = ∃ sep b texts, x = .str sep /\ vs = [.ref b] /\ SqL K H b (texts.map V.str) /\ JoinOk sep texts = true /\ Q (.str (Txt.join sep texts)) H := rfl
end
section
variable {σ : St} {k : Nat} {g : TG} {tt : TT} {te : TE} {H1 : Hp} {Fin : List V -> Hp -> Prop}
theorem ft {K : Fg} {a : Addr} {xs : List V} (Pv : Nat -> List V -> Hp -> Prop) (h0 : Pv 0 [] H1) (hz : ∀ i ys H, i <= xs.length -> Pv i ys H -> ys.length <= sizeLine /\ SqT K H a xs)
    (hs : ∀ i x ys H, xs[i]? = some x -> Pv i ys H -> g x (List.replicate k none ++ σ) H fun σ2 H2 => σ2.drop k = σ /\ tt σ2 H2 fun b H3 => if b = true then te σ2 H3 fun v H4 => Pv (i + 1) (ys ++ [v]) H4 else Pv (i + 1) ys H3)
    (hd : ∀ ys H, Pv xs.length ys H -> Fin ys H) : pk (Itt K a) σ k g tt te H1 Fin := by
  refine ⟨fun i m ys H => m = xs.length - i /\ i <= xs.length /\ Pv i ys H, ⟨xs.length, by simp, ZE _, h0⟩, ?_⟩
  rintro i m ys H ⟨rfl, hi, p⟩
  have q := (hz i ys H hi p).2;refine ⟨(hz i ys H hi p).1, ?_⟩
  by_cases hlt : i < xs.length
  . refine .inr ⟨⟨xs, xs[i], q, by simp [hlt]⟩, Pv (i + 1), fun ys' H' p' => ⟨xs.length - (i + 1), by omega, rfl, hlt, p'⟩, fun x H' y => ?_⟩
    obtain ⟨e, y⟩ := y;subst e;exact hs i x ys _ (y xs q) p
  . have e : i = xs.length := by omega
    subst e;exact .inl ⟨⟨xs, q, Zm _⟩, hd ys H p⟩
end
theorem zi {e : Expr} {es : List Expr} {env : Env} (h : ∀ e' p, e ≠ .Starred e' p) : starEach (e :: es) env = (false, eval e env) :: starEach es env := by
  cases e <;> first | rfl | exact absurd rfl (h _ _)
def iSeq (K : Fg) (tl : TE) : TI := fun σ H R => tl σ H fun x H1 => ∃ a, x = .ref a /\ (((∃ xs, SqL K H1 a xs) /\ R (Itl K a) H1) \/ ((∃ xs, SqT K H1 a xs) /\ R (Itt K a) H1))
theorem i6 {X : Cx} {tg l : Expr} {tl : TE} (hl : PE X l tl) : PI X tg l (iSeq X.K tl) := by
  intro pins s σ H R I h;refine thn (hl pins s σ H _ I h) fun v s1 ⟨x, H1, I1, r1, q1⟩ => ?_
  obtain ⟨a, e, q⟩ := q1;subst e;cases r1
  rcases q with ⟨⟨xs, hq⟩, q⟩ | ⟨⟨xs, hq⟩, q⟩
  . obtain ⟨its, rv, p, hz⟩ := I1.list hq
    refine wpAny_pyIter_list p.isList ?_;refine ⟨s1.heap.objs.size, [s1.heap.objs.size], _, _, H1, rfl, I1.kept (t' := s1.toks) fun b o e => Heap.get?_push_of_some _ e, ig a _, ⟨_, Heap.get?_push_size _ rfl, rfl, rfl⟩, fun b hb => ?_, q⟩;have e : b = s1.heap.objs.size := by simpa using hb
    subst e;exact I1.fpOk (Zm _) (I1.hok.fresh (Zm _))
  . obtain ⟨its, rv, p, hz⟩ := I1.tuple hq
    refine wpAny_pyIter_tuple (show s1.heap.IsTuple a its.toArray from p) ?_;refine ⟨s1.heap.objs.size, [s1.heap.objs.size], _, _, H1, rfl, I1.kept (t' := s1.toks) fun b o e => Heap.get?_push_of_some _ e, kj a _, ⟨_, Heap.get?_push_size _ rfl, rfl, rfl⟩, fun b hb => ?_, q⟩;have e : b = s1.heap.objs.size := by simpa using hb
    subst e;exact I1.fpOk (Zm _) (I1.hok.fresh (Zm _))
theorem e_iSeq {K : Fg} {tl : TE} {σ : St} {H : Hp} {R : It -> Hp -> Prop} : iSeq K tl σ H R = tl σ H fun x H1 => ∃ a, x = .ref a /\ (((∃ xs, SqL K H1 a xs) /\ R (Itl K a) H1) \/ ((∃ xs, SqT K H1 a xs) /\ R (Itt K a) H1)) := rfl
section
variable {X : Cx}
def rTupL (K : Fg) : List V -> Hp -> VK -> Prop := fun xs H Q => ∃ p ys, xs = [.ref p] /\ SqL K H p ys /\ ∀ l, H l = none -> Q (.ref l) (upd H l (.tup ys))
theorem xt : CallR X (.type "tuple") (rTupL X.K) := fun pins s σ H xs us Q I r h => by
  obtain ⟨p, ys, e, hq, q⟩ := h;exact ij pins s σ H xs us Q I r ⟨p, ys, e, .inl ⟨hq, q⟩⟩
theorem e_tupL {K : Fg} {xs : List V} {H : Hp} {Q : VK} : rTupL K xs H Q = ∃ p ys, xs = [.ref p] /\ SqL K H p ys /\ ∀ l, H l = none -> Q (.ref l) (upd H l (.tup ys)) := rfl
end
end L2
namespace L2
open PySem PySem.Spec PyProof.Rows
section
variable {X : Cx}
def rMinL (K : Fg) (xs : List V) (H : Hp) (Q : VK) : Prop := ∃ (p : Addr) (ns : List Int), xs = [.ref p] /\ SqL K H p (ns.map V.int) /\ 0 < ns.length /\ ∀ m, m ∈ ns -> (∀ a ∈ ns, m <= a) -> Q (.int m) H
def rMaxL (K : Fg) (xs : List V) (H : Hp) (Q : VK) : Prop := ∃ (p : Addr) (ns : List Int), xs = [.ref p] /\ SqL K H p (ns.map V.int) /\ 0 < ns.length /\ ∀ m, m ∈ ns -> (∀ a ∈ ns, a <= m) -> Q (.int m) H
theorem e_minL {K : Fg} {xs : List V} {H : Hp} {Q : VK} : rMinL K xs H Q = ∃ (p : Addr) (ns : List Int), xs = [.ref p] /\ SqL K H p (ns.map V.int) /\ 0 < ns.length /\ ∀ m, m ∈ ns -> (∀ a ∈ ns, m <= a) -> Q (.int m) H := rfl
theorem e_maxL {K : Fg} {xs : List V} {H : Hp} {Q : VK} : rMaxL K xs H Q = ∃ (p : Addr) (ns : List Int), xs = [.ref p] /\ SqL K H p (ns.map V.int) /\ 0 < ns.length /\ ∀ m, m ∈ ns -> (∀ a ∈ ns, a <= m) -> Q (.int m) H := rfl
theorem za3 (hc : X.calm = true) : CallR X (.builtin "max") (rMaxL X.K) := by
  intro pins s σ H xs us Q I r h;obtain ⟨p, ns, rfl, hq, hne, q⟩ := h;obtain ⟨u, rfl, rx⟩ := Vals.one r;cases rx;obtain ⟨its, rv, pl, hz⟩ := I.list hq;have hi : IntsAre its ns := au rv;obtain ⟨zs, hx⟩ := hi.allInts.items;have hl' : s.heap.IsList p (intItems zs) := hx ▸ pl.isList
  have hns : ns = zs.toList.map (·.1) := by
    rw [<- nums_intItems, <- hx];exact (show numsOf its.toArray.toList = ns from hi.numsOf).symm
  have hsz : 0 < zs.size := by
    have h3 := hne; rw [hns, Za, ZW] at h3; exact h3
  refine max_intList (I.ok.hd hc) hl' hsz fun v h' tk hv hk => ?_
  obtain ⟨t, rfl⟩ := intItems_at hv;obtain ⟨h1, h2⟩ := argBest_gt (numAt zs) (zs.size - 1);refine ⟨V.int _, H, I.kept hk, ⟨_, rfl⟩, q _ ?_ fun a ha => ?_⟩
  . rw [hns, numAt_eq]; exact getD_mem (by rw [Za, ZW]; omega)
  . rw [hns] at ha
    obtain ⟨j, hj, rfl⟩ := mem_getD ha;rw [Za, ZW] at hj;rw [<- numAt_eq]; exact h2 j (by omega)
end
end L2
namespace L2
open PySem PySem.Spec PyProof.Rows
section
variable {prog : Program} {w : World} {A : Around} {E : Value -> Shared -> Prop} {s : Shared}
end
section
variable {X : Cx}
end
end L2
namespace L2
open PySem PySem.Spec PyProof.Rows
def seen (val : Nat -> Str) : Nat -> List Str
  | 0 => []
  | i + 1 => if val i ∈ seen val i then seen val i else seen val i ++ [val i]
theorem gr (val : Nat -> Str) : ∀ i, (seen val i).length <= i
  | 0 => Zm _
  | i + 1 => by
    have := gr val i;unfold seen
    split
    . omega
    . rw [Zo, ZS]; omega
theorem zcg (val : Nat -> Str) (i : Nat) (k : Str) : (decide (k ∈ seen val i) || decide (k = val i)) = decide (k ∈ seen val (i + 1)) := by
  conv => rhs; unfold seen
  split
  . rename_i h
    by_cases e : k = val i
    . subst e; simp [h]
    . simp [e]
  . simp
theorem bd (val : Nat -> Str) (i : Nat) : (if decide (val i ∈ seen val i) = true then (seen val i).length else (seen val i).length + 1) = (seen val (i + 1)).length := by
  conv => rhs; unfold seen
  by_cases h : val i ∈ seen val i
  . simp [h]
  . simp [h]
section
variable {prog : Program} {w : World} {A : Around} {R : Result -> Shared -> Prop} {I : Addr} {fp wr : List Addr} {G : Array GenState -> Array GenState -> Prop} {n : Nat} {P : Nat -> Value -> Prop} {St : Nat -> Shared -> Prop}
theorem gp (W : WalksS prog w A.in1 I fp wr G n P St) (T : Addr) (hT : T ∉ fp) (val : Nat -> Str) (hval : ∀ i v, P i v -> ∃ t, v = .str (val i) t) (hb : n + 1 < scanBound) :
    ∀ (k i : Nat) (s : Shared), n - i = k -> i <= n -> St i s -> s.heap.SetOf (PySem.strKind prog w) T (fun k' => decide (k' ∈ seen val i)) (seen val i).length ->
      (∀ s', Moved (T :: wr) G s s' -> s'.heap.SetOf (PySem.strKind prog w) T (fun k' => decide (k' ∈ seen val n)) (seen val n).length -> R (.ok (.ret .none)) s') ->
      codeAny (model prog w) A (.builtin "set.update.loop" ⟨[.ref T, .ref I], []⟩) R s := by
  have hTw : T ∉ wr := fun h => hT (W.sub _ h)
  have sub : ∀ b ∈ wr, b ∈ T :: wr := fun b h => Zv _ h
  intro k
  induction k with
  | zero =>
    intro i s hk hi hst hS hR;obtain rfl : i = n := by omega
    refine codeAny_builtin PyProof.Rows.F.entry_set_update_loop ?_;rw [Around.under_plainId PyProof.Rows.F.plain_set_update_loop _]
    show wpAny _ A.in1 (pyNext (.ref I) >>= _) _ _ s
    refine wpAny_bind (W.done s _ _ hst fun s' hm => ?_);refine wpAny_pure (hR s' (hm.mono sub) ?_);obtain ⟨o, es, ep, t, ho, r⟩ := hS;exact ⟨o, es, ep, t, hm.heap T _ hTw ho, r⟩
  | succ k ih =>
    intro i s hk hi hst hS hR;have hlt : i < n := by omega
    refine codeAny_builtin PyProof.Rows.F.entry_set_update_loop ?_;rw [Around.under_plainId PyProof.Rows.F.plain_set_update_loop _]
    show wpAny _ A.in1 (pyNext (.ref I) >>= _) _ _ s
    refine wpAny_bind (W.item i s _ _ hlt hst fun v s' hP hst' hm => ?_);obtain ⟨t, rfl⟩ := hval i v hP
    have hS' : s'.heap.SetOf (PySem.strKind prog w) T (fun k' => decide (k' ∈ seen val i)) (seen val i).length := by
      obtain ⟨o, es, ep, tb, ho, r⟩ := hS;exact ⟨o, es, ep, tb, hm.heap T _ hTw ho, r⟩
    show wpAny _ A.in1 (holding [Value.str (val i) t] (setAdd T (.str (val i) t)) >>= _) _ _ s'
    refine wpAny_bind (wpAny_holding ?_);unfold setAdd;refine wpAny_holding (wpAny_bind ((PySem.strKind prog w).pyHash (k := val i) (strKind_is _ _ _ _) ?_));have room : (seen val i).length + 1 < scanBound := by have := gr val i; omega
    refine wpAny_setAddHashed_of (knd := PySem.strKind prog w) (s := { s' with toks := s'.toks + 1 }) (strKind_is _ _ _ _) rfl hS' room fun h' hsb hS2 => ?_
    have hSi : h'.SetOf (PySem.strKind prog w) T (fun k' => decide (k' ∈ seen val (i + 1))) (seen val (i + 1)).length := by
      have e1 := bd val i;have e2 : (fun k' => decide (k' ∈ seen val (i + 1))) = fun k' => (decide (k' ∈ seen val i) || decide (k' = val i)) := funext fun k' => (zcg val i k').symm
      rw [<- e1, e2];exact hS2
    refine wpAny_pure ⟨plainId_quiet PyProof.Rows.F.plain_set_update_loop _, ih (i + 1) _ (by omega) hlt (W.frame _ s' _ _ hst' (Xc _) fun b hb o e => ?_) hSi fun s2 hm2 hS2' => ?_⟩
    . rw [hsb.2 b (fun z : b = T => hT (z ▸ hb))]; exact e
    . refine hR s2 (Moved.trans W.gtrans ((hm.mono sub).then_heap (Xc _) fun b o hb e => ?_) hm2) hS2'
      rw [hsb.2 b (fun z : b = T => hb (z ▸ ZA))]; exact e
end
abbrev setO (led : Bool) : Obj := { cls := .type "set", dict := none, data := .set #[] 0 (.fresh 0 0 led) }
section
variable {prog : Program} {w : World} {A : Around} {E : Value -> Shared -> Prop} {s : Shared}
def dl (prog : Program) (w : World) (s : Shared) (val : Nat -> Str) (n : Nat) (h' : Heap) : Prop :=
  h'.SetOf (PySem.strKind prog w) s.heap.objs.size (fun k' => decide (k' ∈ seen val n)) (seen val n).length /\ ∀ b o, b < s.heap.objs.size -> s.heap.get? b = some o -> h'.get? b = some o
set_option maxHeartbeats 3200000 in
theorem iq {l : Addr} {items : Array Value} {val : Nat -> Str} {Q : Value -> Shared -> Prop} (hh : A.handled = none) (hl : s.heap.IsList l items) (hv : ∀ (i : Nat) v, items[i]? = some v -> ∃ t, v = .str (val i) t) (hb : items.size + 1 < scanBound)
    (h : ∀ (h' : Heap) (tk : Nat), dl prog w s val items.size h' -> Q (.ref s.heap.objs.size) { s with heap := h', toks := tk }) : wpAny (model prog w) A (call (.type "set") [.ref l]) Q E s := by
  obtain ⟨c, tl, hmro⟩ := F.called_set.mro;have hmade := F.called_set.made;have hsub := F.called_set.sub;refine wpAny_call (codeAny_of_tree ?_)
  show wpAny _ _ (callAny (.type "set") _) _ _ _
  refine wpAny_pure ⟨Code.quiet_builtin _ (by decide +kernel), codeAny_builtin F.entry_type_call ?_⟩;rw [Around.under_plain (weight_type_call_type "set" [.ref l] []) rfl];have h1 := F.called_set.notType;have h2 := F.called_set.canCreate;have hct := F.typeCall_set_1 (.ref l)
  repeat (any_goals (first | assumption | wp_step))
  refine codeAny_mono (code_set_new_1 (.ref l) (E := E) (Q₁ := fun obj s₁ => ∃ led : Bool, obj = .ref s.heap.objs.size /\ s₁ = { s with heap := s.heap.push (setO led) }) fun led => ⟨led, rfl, rfl⟩) fun r s₁ hr => ?_
  match r, hr with
  | .error e, hr => exact hr
  | .ok .next, hr => exact hr.elim
  | .ok .brk, hr => exact hr.elim
  | .ok .cont, hr => exact hr.elim
  | .ok (.ret obj), hr =>
    obtain ⟨led, rfl, rfl⟩ := hr;have hS : (s.heap.push (setO led)).get? s.heap.objs.size = some (setO led) := Heap.get?_push_size _ rfl;have hT : Shared.TypeIs { s with heap := s.heap.push (setO led) } (.ref s.heap.objs.size) "set" := ⟨_, hS, rfl⟩;have hli := F.called_set.init.lookup;have hbi := F.called_set.init.bind (.ref s.heap.objs.size)
    repeat (any_goals (first | assumption | wp_step))
    refine codeAny_mono (codeAny_call_builtin (R := wants (fun r s₂ => r = .none /\ ∃ h' tk, s₂ = { s with heap := h', toks := tk } /\ dl prog w s val items.size h') E) F.called_set.init.plain F.entry_set_init (check_set_init_1 hT ?_)) fun r₂ s₂ hr₂ => ?_
    . obtain ⟨ol, hol, hcl, nl, hdl⟩ := id hl
      have hl1 : (s.heap.push (setO led)).IsList l items := hl.push _;obtain ⟨ocls, odict, odata, oslots⟩ := ol;simp only at hcl hdl;subst hcl; subst hdl;have hol' : (s.heap.push (setO led)).get? l = some { cls := .type "list", dict := odict, data := .seq items nl, slots := oslots } := Heap.get?_push_of_some _ hol;have hsls := F.sub_list_set;have hslf := F.sub_list_frozenset;have hne : (Value.type "list" == Value.type "dict") = false := by decide
      unfold Builtin.«set.__init__» noKeywords Builtin.Frozenset.updateFrom;generalize hPI : pyIter = PI
      wp_walk
      subst hPI;refine wpAny_pyIter_list hl1 ?_;refine wpAny_bind (wpAny_runValue ?_);have hlS : l < s.heap.objs.size := Heap.lt_size hol;have hsz : (s.heap.push (setO led)).objs.size = s.heap.objs.size + 1 := size_push' ..;have hneI : l ≠ (s.heap.push (setO led)).objs.size := by rw [hsz]; exact Zs (Yy hlS)
      have hSf : s.heap.objs.size ∉ [(s.heap.push (setO led)).objs.size, l] := by
        rw [hsz];simp only [ZK, Zx, or_false, not_or];exact ⟨Zs (YD _), Yr hlS⟩
      refine gp ((Walks.list (by simp [hh]) _ l hneI items).toS) s.heap.objs.size hSf val hv hb (items.size - 0) 0 _ (by omega) (ZE _) ⟨⟨_, Heap.get?_push_size _ rfl, rfl, rfl⟩, hl1.push _⟩ ?_ ?_
      . have hget : ((s.heap.push (setO led)).push { cls := .type "list_iterator", data := .fields #[.ref l, .int 0 0] }).get? s.heap.objs.size = some (setO led) := Heap.get?_push_of_some _ hS
        exact (PyProof.Rows.setObjOf_fresh (knd := PySem.strKind prog w) led).setOf hget (by unfold scanBound; omega)
      . intro s' hm hS'
        rw [Moved.eq_with hm];refine wpAny_pure ?_;refine wpAny_pure ⟨rfl, s'.heap, s'.toks, rfl, hS', fun b o hb e => hm.heap b o ?_ (Heap.get?_push_of_some _ (Heap.get?_push_of_some _ e))⟩;rw [hsz];simp only [ZK, Zx, or_false, not_or];exact ⟨Zs hb, Zs (Yy hb)⟩
    . match r₂, hr₂ with
      | .error e, hr₂ => exact hr₂
      | .ok .next, hr₂ => exact hr₂.elim
      | .ok .brk, hr₂ => exact hr₂.elim
      | .ok .cont, hr₂ => exact hr₂.elim
      | .ok (.ret r), hr₂ =>
        obtain ⟨rfl, h', tk, rfl, hd⟩ := hr₂
        repeat (any_goals (first | assumption | wp_step))
        exact h _ _ hd
end
end L2
namespace L2
open PySem PySem.Spec PyProof.Rows
theorem zbo {zs : List Str} {us : List Value} (r : Vals (zs.map V.str) us) (i : Nat) (v : Value) (h : us[i]? = some v) : ∃ t, v = .str (zs.getD i ⟨#[]⟩) t := by
  have hl := r.length;rw [Za] at hl;have hi : i < zs.length := by rw [hl]; exact (Zc.mp h).1
  obtain ⟨u, hu, ru⟩ := r.get (i := i) (x := V.str zs[i]) (by simp [hi]);rw [h] at hu;cases hu;obtain ⟨t, rfl⟩ := ru;exact ⟨t, by simp [Zk, hi]⟩
section
variable {X : Cx}
def d0 (K : Fg) (t : TA) : TE := fun σ H Q => t σ H fun vs H1 => ∃ (p : Addr) (zs : List Str), vs = [.ref p] /\ SqL K H1 p (zs.map V.str) /\ zs.length <= 1000 /\ Q (.int (seen (fun i => zs.getD i ⟨#[]⟩) zs.length).length) H1
theorem zb2 {K : Fg} {t : TA} {σ : St} {H : Hp} {Q : VK} : d0 K t σ H Q = t σ H fun vs H1 => ∃ (p : Addr) (zs : List Str), vs = [.ref p] /\ SqL K H1 p (zs.map V.str) /\ zs.length <= 1000 /\ Q (.int (seen (fun i => zs.getD i ⟨#[]⟩) zs.length).length) H1 := rfl
theorem zbi {e : Expr} {t : TA} {p1 p2 q1 q2 : Pos} (hc : X.calm = true) (hgL : Gl X "len") (hmL : X.mg "len" = none) (hgR : Gl X "set") (hmR : X.mg "set" = none) (ha : PA X [e] t)
    (he : starEach [e] X.env = (false, eval e X.env) :: starEach [] X.env := by rfl) (he2 : starEach [.Call (.Name "set" p2) [e] [] q2] X.env = (false, eval (.Call (.Name "set" p2) [e] [] q2) X.env) :: starEach [] X.env := by rfl) :
    PE X (.Call (.Name "len" p1) [.Call (.Name "set" p2) [e] [] q2] [] q1) (d0 X.K t) := by
  intro pins s σ H Q I h;refine wpAny_Call_Name_kw (oq I hgL hmL yc ?_);refine PyProof.Rows.callWith_builtin1 ?_ he2 rfl;rw [he2]
  show wpAny _ _ (spliced ((false, eval (.Call (.Name "set" p2) [e] [] q2) X.env) :: backTo q1 (starEach [] X.env))) _ _ s
  refine Calls.spliced_cons ?_;refine wpAny_Call_Name_kw (oq I hgR hmR bt_set ?_);refine PyProof.Rows.callWith_type1 (thn (ha q2 pins s σ H _ I h) fun us s1 ⟨vs, H1, I1, r1, q⟩ => ?_) he rfl;obtain ⟨p, zs, rfl, hq, hz, q⟩ := q;obtain ⟨u, rfl, rx⟩ := Vals.one r1;cases rx;obtain ⟨its, rv, pl, _⟩ := I1.list hq;have hlen : its.length = zs.length := by have := rv.length; rw [Za] at this; exact this.symm
  refine iq (val := fun i => zs.getD i ⟨#[]⟩) (I1.ok.hd hc) pl.isList (fun i v hv => zbo rv i v (by simpa using hv)) (by rw [Zr, hlen]; exact Ys (Nat.succ_le_succ hz) (by decide)) fun h' tk hd => ?_
  refine Calls.spliced_nil ?_;obtain ⟨hS, kp⟩ := hd;rw [show its.toArray.size = zs.length by rw [Zr, hlen]] at hS;have I2 : Inv X pins σ H1 { s1 with heap := h', toks := tk } := I1.kept fun b o e => kp b o (Heap.lt_size e) e
  obtain ⟨o, es, ep, t, ho, ex, hd, _, _, hz2, hf, hn⟩ := hS;have h3 : ((es.size : Nat) : Int) < 2 ^ 63 := by unfold scanBound at hz2; omega
  refine call_len_set ho ex hd hf h3 ⟨.int es.size, H1, I2.tok _, ⟨_, rfl⟩, ?_⟩;rw [hn];exact q
def rLeS (x y : V) (H : Hp) (Q : VK) : Prop := ∃ i j, x = .str i /\ y = .str j /\ Q (.bl (!decide (j.cps.toList < i.cps.toList))) H
theorem e_leS {x y : V} {H : Hp} {Q : VK} : rLeS x y H Q = ∃ i j, x = .str i /\ y = .str j /\ Q (.bl (!decide (j.cps.toList < i.cps.toList))) H := rfl
theorem zbm : OpR X (compareOp .LtE) rLeS := by
  intro pins s σ H x y v u Q I rx ry h;obtain ⟨i, j, rfl, rfl, q⟩ := h;obtain ⟨t, rfl⟩ := rx;obtain ⟨t', rfl⟩ := ry;exact PySem.P.le_str (yh I q rfl)
end
section
variable {σ : St} {k : Nat} {g : TG} {tt : TT} {te : TE} {H1 : Hp} {Fin : List V -> Hp -> Prop}
theorem zcf {z : Str} (Pv : Nat -> List V -> Hp -> Prop) (h0 : Pv 0 [] H1) (hz : ∀ i ys H, i <= z.cps.size -> Pv i ys H -> ys.length <= sizeLine)
    (hs : ∀ i c ys H, z.cps[i]? = some c -> Pv i ys H -> g (.str (chr1 c)) (List.replicate k none ++ σ) H fun σ2 H2 => σ2.drop k = σ /\ tt σ2 H2 fun b H3 => if b = true then te σ2 H3 fun v H4 => Pv (i + 1) (ys ++ [v]) H4 else Pv (i + 1) ys H3)
    (hd : ∀ ys H, Pv z.cps.size ys H -> Fin ys H) : pk (Itw z) σ k g tt te H1 Fin := by
  refine ⟨fun i m ys H => m = z.cps.size - i /\ i <= z.cps.size /\ Pv i ys H, ⟨z.cps.size, by simp, ZE _, h0⟩, ?_⟩
  rintro i m ys H ⟨rfl, hi, p⟩
  refine ⟨hz i ys H hi p, ?_⟩
  by_cases hlt : i < z.cps.size
  . refine .inr ⟨hlt, Pv (i + 1), fun ys' H' p' => ⟨z.cps.size - (i + 1), by omega, rfl, hlt, p'⟩, fun x H' y => ?_⟩
    obtain ⟨e, c, e2, y⟩ := y;subst e y;exact hs i c ys _ e2 p
  . have e : i = z.cps.size := by omega
    subst e;exact .inl ⟨Zm _, hd ys H p⟩
end
def intE : Expr -> Option Int
  | .Constant (.int i) _ _ => some i
  | _ => none
def iy : List Expr -> Option (List Int)
  | [] => some []
  | e :: es => (intE e).bind fun i => (iy es).map fun is => i :: is
def mx : List Int -> List V
  | [] => []
  | i :: is => .int i :: mx is
theorem e_vI0 : mx [] = [] := rfl
theorem e_vI {i : Int} {is : List Int} : mx (i :: is) = .int i :: mx is := rfl
def tInts (ns : List Int) : TA := fun _ H Q => Q (mx ns) H
theorem e_ints {ns : List Int} {σ : St} {H : Hp} {Q : List V -> Hp -> Prop} : tInts ns σ H Q = Q (mx ns) H := rfl
theorem di {X : Cx} : ∀ {es : List Expr} {ns : List Int}, iy es = some ns -> PA X es (tInts ns)
  | [], ns, h => by
    cases h;exact zb
  | e :: es, ns, h => by
    unfold iy at h
    cases e with
    | Constant c j p =>
      cases c with
      | int i =>
        cases e2 : iy es with
        | none => rw [e2] at h; cases h
        | some is =>
          rw [e2] at h;cases h;exact za zd (di e2)
      | _ => cases h
    | _ => cases h
end L2
namespace L2
open PySem PySem.Spec PyProof.Rows
section
variable {X : Cx}
def rIsB (x y : V) (H : Hp) (Q : VK) : Prop := ∃ b c, x = .bl b /\ y = .bl c /\ Q (.bl (b == c)) H
theorem e_isB {x y : V} {H : Hp} {Q : VK} : rIsB x y H Q = ∃ b c, x = .bl b /\ y = .bl c /\ Q (.bl (b == c)) H := rfl
end
end L2
namespace L2
open PySem PySem.Spec PyProof.Rows
theorem dw {α : Type} {l : List α} {k : Nat} {x : α} (h : l[k]? = some x) : l.drop k = x :: l.drop (k + 1) := by
  obtain ⟨hk, e⟩ := Zc.mp h;rw [Yp hk, e]
theorem yv {X : Cx} {body : List Stmt} {k : Nat} {st : Stmt} {t ts : TS} (hs : PS X st t) (h : body[k]? = some st) (hr : PSs X (body.drop (k + 1)) ts) : PSs X (body.drop k) (tSeq t ts) := by
  rw [dw h];exact zg hs hr
theorem c7 {X : Cx} {body : List Stmt} {k : Nat} {st : Stmt} {t : TS} (hs : PS X st t) (h : body[k]? = some st) (hl : body[k + 1]? = none) : PSs X (body.drop k) t := by
  rw [dw h, List.drop_eq_nil_of_le (List.getElem?_eq_none_iff.mp hl)];exact zh hs
theorem ce {X : Cx} {body : List Stmt} {t : TS} (h : PSs X (body.drop 0) t) : PSs X body t := h
end L2
namespace L2
open PySem PySem.Spec PyProof.Rows
section
variable {prog : Program} {w : World} {A : Around} {E : Value -> Shared -> Prop} {s : Shared}
theorem zb7 {t b : Addr} {vs ws : List Value} {Q : Value -> Shared -> Prop} (ht : IsTup s.heap t vs.toArray) (hb : IsTup s.heap b ws.toArray) (hv : vs = []) (h0 : Q (.ref b) s) :
    wpAny (model prog w) A (binaryOp .Add (.ref t) (.ref b)) Q E s := by
  obtain ⟨⟨cls, dd, data, sl⟩, ho, hc, n, hd⟩ := id ht;obtain ⟨⟨cls2, dd2, data2, sl2⟩, ho2, hc2, n2, hd2⟩ := id hb;simp only at hc hd hc2 hd2;subst hc hd hc2 hd2
  exact concat_meets ⟨_, ho, rfl⟩ ⟨_, ho2, rfl⟩ noFill_tuple_add seq_tuple_add PySem.F.slot_tuple_add PySem.F.entry_tuple_add (PySem.F.args_tuple_add_2 _ _)
    (tuple_addW0 t b vs.toArray ws.toArray n n2 dd dd2 sl sl2 (by simp [hv])) ⟨ho, ho2, h0⟩
end
theorem fj {H : Hp} {a : Addr} {o : HO} (n : H a = none) : Same H (upd H a o) := fun b u e => by
  rw [zy (fun z => by rw [z, n] at e; cases e)]; exact e
section
variable {X : Cx}
def rCatH : R2 := fun x y H Q => ∃ a b xs ys, x = .ref a /\ y = .ref b /\ H a = some (.tup xs) /\ H b = some (.tup ys) /\ xs.length + ys.length <= sizeLine /\ ∀ H' p, Same H H' -> H' p = some (.tup (xs ++ ys)) -> Q (.ref p) H'
theorem e_catH {x y : V} {H : Hp} {Q : VK} : rCatH x y H Q = ∃ a b xs ys, x = .ref a /\ y = .ref b /\ H a = some (.tup xs) /\ H b = some (.tup ys) /\ xs.length + ys.length <= sizeLine /\ ∀ H' p, Same H H' -> H' p = some (.tup (xs ++ ys)) -> Q (.ref p) H' := rfl
theorem zdd : OpR X (binaryOp .Add) rCatH := by
  intro pins s σ H x y v u Q I rx ry h;obtain ⟨a, b, xs, ys, rfl, rfl, ha, hb, hz, q⟩ := h
  by_cases e1 : xs = []
  . subst e1
    cases rx;cases ry;obtain ⟨its, r1, p1, _⟩ := I.tuple (SqT.of ha);obtain ⟨its2, r2, p2, _⟩ := I.tuple (SqT.of hb);exact zb7 p1 p2 (r1.nil_iff.mpr rfl) ⟨.ref b, H, I, rfl, q H b (Same.refl _) hb⟩
  . refine zdj pins s σ H (.ref a) (.ref b) v u Q I rx ry ⟨a, b, xs, ys, rfl, rfl, .of ha, .of hb, e1, hz, fun e2 => ?_, fun e2 p hp => ?_⟩
    . subst e2
      exact q H a (Same.refl _) (by rw [ha, Yo])
    . exact q _ p (fj hp) zc
theorem zbu {x : V} {vs : List V} {H : Hp} {Q : VK} : du x vs H Q = ∃ l b xs zs, x = .ref l /\ vs = [.ref b] /\ H l = some (.lst xs) /\ H b = some (.lst zs) /\ xs.length + zs.length <= sizeLine /\ Q .non (upd H l (.lst (xs ++ zs))) := rfl
end
section
open HT
variable {prog : Program} {w : World} {A : Around} {E : Value -> Shared -> Prop} {s : Shared}
theorem m3 {t sl : Addr} {items : Array Value} {vl vu : Value} {lo hi : Option Int} {Q : Value -> Shared -> Prop} (ht : IsTup s.heap t items) (hs : s.heap.IsSliceOf sl vl vu .none) (pl : IsPart vl lo) (pu : IsPart vu hi)
    (hw : sIx items.size 0 lo = 0 /\ sIx items.size items.size hi = items.size) (h : Q (.ref t) s) : wpAny (model prog w) A (getItem (.ref t) (.ref sl)) Q E s := by
  obtain ⟨os, hos, hcs, hds⟩ := id hs;have hTs : s.TypeIs (.ref sl) "slice" := ⟨os, hos, hcs⟩;unfold getItem
  try with_reducible refine wpAny_holding ?_
  first | refine wpAny_bind (wpAny_pure ?_) | skip
  refine wpAny_bind (wpAny_sequenceKey ht.typeIs (by decide) ?_)
  refine wpAny_bind (wpAny_callSpecial?_slot (name := Str.ofString "__getitem__") ht.typeIs PyProof.Rows.slot_tuple_getitem
    (wpAny_call_entry PyProof.Rows.slot_tuple_getitem ht.typeIs entry_tuple_getitem ?_ (args_tuple_getitem _ _)))
  show wpAny _ _ (Builtin.Tuple.tupleItemsOf (.ref t) >>= _) _ _ s
  refine wpAny_bind (tupleItemsOf_ ht ?_);refine wpAny_bind (wpAny_typeOf hTs ?_);rw [if_pos (by decide)];refine wpAny_bind (qw hs pl pu ?_)
  have hyes : (((sIx items.size 0 lo : Nat) : Int) == 0 && (1 : Int) == 1 && (sIx items.size items.size hi - sIx items.size 0 lo) == items.size) = true := by
    rw [hw.1, hw.2];simp
  show wpAny _ _ (if (((sIx items.size 0 lo : Nat) : Int) == 0 && (1 : Int) == 1 && (sIx items.size items.size hi - sIx items.size 0 lo) == items.size) = true then _ else _) _ _ s
  rw [if_pos hyes];unfold Builtin.Tuple.tupleIsExact;refine wpAny_bind (wpAny_bind (wpAny_typeOf ht.typeIs (wpAny_pure ?_)));rw [if_pos (by decide)];exact wpAny_bind (wpAny_rule (wpAny_pure ⟨_, rfl, wpAny_pure h⟩))
end
section
variable {X : Cx}
def rSlH : V -> Option Int -> Option Int -> Hp -> VK -> Prop := fun x lo hi H Q => ∃ a xs, x = .ref a /\ H a = some (.tup xs) /\ ∀ H' p, Same H H' -> H' p = some (.tup (cutV xs lo hi)) -> Q (.ref p) H'
theorem e_slH {x : V} {lo hi : Option Int} {H : Hp} {Q : VK} : rSlH x lo hi H Q = ∃ a xs, x = .ref a /\ H a = some (.tup xs) /\ ∀ H' p, Same H H' -> H' p = some (.tup (cutV xs lo hi)) -> Q (.ref p) H' := rfl
theorem zcs : SlR X rSlH := by
  intro pins s σ H x v vl vu lo hi sl Q I rx hs pl pu h;obtain ⟨a, xs, rfl, hx, q⟩ := h
  by_cases hw : HT.sIx xs.length 0 lo = 0 /\ HT.sIx xs.length xs.length hi = xs.length
  . cases rx
    obtain ⟨its, r, ht, hz⟩ := I.tuple (SqT.of hx);have hlen : its.toArray.size = xs.length := by rw [Zr]; exact r.length.symm
    refine ⟨"tuple", _, PyProof.Rows.slot_tuple_getitem.lookup, ht.typeIs, ?_⟩;refine m3 ht hs pl pu (by rw [hlen]; exact hw) ⟨.ref a, H, I, rfl, q H a (Same.refl _) ?_⟩;rw [hx];unfold cutV;rw [hw.1, hw.2];simp
  . exact sl_tup pins s σ H _ v vl vu lo hi sl Q I rx hs pl pu ⟨a, xs, rfl, .of hx, hw, fun p hp => q _ p (fj hp) zc⟩
theorem e_slT {K : Fg} {x : V} {lo hi : Option Int} {H : Hp} {Q : VK} : rSlT K x lo hi H Q = ∃ a xs, x = .ref a /\ SqT K H a xs /\ ¬ (HT.sIx xs.length 0 lo = 0 /\ HT.sIx xs.length xs.length hi = xs.length) /\ ∀ p, H p = none -> Q (.ref p) (upd H p (.tup (cutV xs lo hi))) := rfl
theorem c9 {xs : List V} {k : Nat} (h : k <= xs.length) : cutV xs none (some (k : Int)) = xs.take k := by
  unfold cutV;rw [HT.sIx_none, HT.sIx_nat];simp [Yj h]
theorem v6 {xs : List V} {k : Nat} (h : k <= xs.length) : cutV xs (some (k : Int)) none = xs.drop k := by
  unfold cutV;rw [HT.sIx_none, HT.sIx_nat, Yj h];exact ZG (by rw [ZO]; omega)
end
end L2
namespace L2
open PySem PySem.Spec PyProof.Rows
section
variable {σ : St} {k : Nat} {g : TG} {tt : TT} {te : TE} {H1 : Hp} {Fin : List V -> Hp -> Prop}
end
end L2
namespace L2
open PySem PySem.Spec PyProof.Rows
section
variable {X : Cx}
structure FirstAt (xs : List V) (y : V) (j : Nat) : Prop where
  flat : yx y = true
  flats : xs.all yx = true
  hit : ∃ z, xs[j]? = some z /\ eqV z y = true
  no : ∀ (m : Nat) (z : V), m < j -> xs[m]? = some z -> eqV z y = false
theorem FirstAt.lt {xs : List V} {y : V} {j : Nat} (h : FirstAt xs y j) : j < xs.length := by
  obtain ⟨z, e, _⟩ := h.hit;exact (Zc.mp e).1
theorem zak {xs : List V} {us : List Value} {y z : V} {m : Nat} (r : Vals xs us) (fs : xs.all yx = true) (e : xs[m]? = some z) (hm : m < us.toArray.size) : eqU y us.toArray[m] = eqV z y := by
  obtain ⟨w, hw, rw'⟩ := r.get e
  have : us.toArray[m] = w := by
    have h2 := (Zc.mp hw).2
    simpa using h2
  rw [this];exact jd rw' (ZQ.mp fs _ (Zi e))
def zdt (K : Fg) : V -> List V -> Hp -> VK -> Prop := fun x vs H Q => ∃ p xs y j, x = .ref p /\ vs = [y] /\ SqT K H p xs /\ FirstAt xs y j /\ Q (.int (j : Nat)) H
def cb (K : Fg) : V -> List V -> Hp -> VK -> Prop := fun x vs H Q => ∃ p xs y j, x = .ref p /\ vs = [y] /\ SqL K H p xs /\ FirstAt xs y j /\ Q (.int (j : Nat)) H
theorem zck {K : Fg} {x : V} {vs : List V} {H : Hp} {Q : VK} : zdt K x vs H Q = ∃ p xs y j, x = .ref p /\ vs = [y] /\ SqT K H p xs /\ FirstAt xs y j /\ Q (.int (j : Nat)) H := rfl
theorem zbq {K : Fg} {x : V} {vs : List V} {H : Hp} {Q : VK} : cb K x vs H Q = ∃ p xs y j, x = .ref p /\ vs = [y] /\ SqL K H p xs /\ FirstAt xs y j /\ Q (.int (j : Nat)) H := rfl
theorem zaf : MtR X "list.index" (cb X.K) := by
  intro pins s σ H x vs v us Q I rx rvs h;obtain ⟨p, xs, y, j, rfl, rfl, hq, hF, q⟩ := h;cases rx;obtain ⟨u, rfl, ru⟩ := uz rvs;obtain ⟨its, r, pl, hz⟩ := I.list hq;obtain ⟨⟨cls, dd, data, sl⟩, ho, hc, n, hd⟩ := id pl.isList;simp only at hc hd;subst hc hd;have hl := r.length;have hjl : j < its.toArray.size := by rw [Zr, <- hl]; exact hF.lt
  have hn := qi;obtain ⟨z, e, hit⟩ := hF.hit;refine call_meets PySem.F.slot_list_index ⟨_, ho, rfl⟩ PySem.F.entry_list_index (PySem.F.args_list_index_2 _ _) (SeqAt.list_indexAt p its.toArray n dd sl u (eqU y) j hjl (by have := hF.lt; omega) ?_ ?_) ⟨ho, fun w hw => vv ru hF.flat r hF.flats w (by simpa using hw), ⟨.int j, H, I.tok _, ⟨_, rfl⟩, q⟩⟩
  . rw [zak r hF.flats e]; exact hit
  . intro m hm hmj
    have hml : m < xs.length := by rw [hl]; simpa using hm
    rw [zak r hF.flats (Zb hml)];exact hF.no m _ hmj (Zb hml)
end
section
variable {X : Cx}
def rInK (neg : Bool) : R2 := fun y x H Q => ∃ a o, x = .ref a /\ DGet H a y o /\ Q (.bl (neg ^^ o.isSome)) H
theorem e_inK {neg : Bool} {y x : V} {H : Hp} {Q : VK} : rInK neg y x H Q = ∃ a o, x = .ref a /\ DGet H a y o /\ Q (.bl (neg ^^ o.isSome)) H := rfl
def rSetD : TSet := fun o i v H Q => ∃ a H', o = .ref a /\ DPut H a i v H' /\ Q H'
theorem e_setD {o i v : V} {H : Hp} {Q : Hp -> Prop} : rSetD o i v H Q = ∃ a H', o = .ref a /\ DPut H a i v H' /\ Q H' := rfl
theorem zdi {σ : St} {H : Hp} {Q : VK} : tDNewT σ H Q = ∀ p, H p = none -> Q (.ref p) (upd H p (.dT [])) := rfl
theorem e_dget {td ty : TE} {σ : St} {H : Hp} {Q : VK} : tDGet td ty σ H Q = td σ H fun x H1 => ty σ H1 fun y H2 => ∃ a v, x = .ref a /\ DGet H2 a y (some v) /\ Q v H2 := rfl
end
end L2
namespace L2
open PySem PySem.Spec PyProof.Rows
section
variable {X : Cx}
def tBMT (r : V -> List V -> Hp -> VK -> Prop) (to : TE) (t : TA) : TE := fun σ H Q => to σ H fun x H1 => (∃ p xs, x = .ref p /\ Rd H1 p (.tup xs)) /\ t σ H1 fun xs H2 => r x xs H2 Q
theorem e_BMT {r : V -> List V -> Hp -> VK -> Prop} {to : TE} {t : TA} {σ : St} {H : Hp} {Q : VK} : tBMT r to t σ H Q = to σ H fun x H1 => (∃ p xs, x = .ref p /\ Rd H1 p (.tup xs)) /\ t σ H1 fun xs H2 => r x xs H2 Q := rfl
theorem pe_bmT {o e : Expr} {es : List Expr} {to : TE} {t : TA} {name : Str} {apos cpos : Pos} {id : String} {r : V -> List V -> Hp -> VK -> Prop} (pa : PlainAttrs "tuple") (slot : Slot "tuple" name id) (hty : typeOf (.builtin id) = pure (.type "method_descriptor")) (hm : MtR X id r) (ho : PE X o to) (ha : PA X (e :: es) t)
    (hbase : attributeBase o name X.env (eval o X.env) = eval o X.env := by rfl)
    (hfew : ((backTo cpos (starEach (e :: es) X.env)).all (fun x => !x.1) && (backToKw cpos (keywordEach [] X.env)).all (fun x => x.1.isSome)
      && decide ((e :: es).length + ([] : List Keyword).length + (if ([] : List Keyword).isEmpty then 0 else 1) < 30)) = true := by rfl)
    (hline : (apos.endLine == cpos.line) = true := by rfl) (hs : starEach (e :: es) X.env = (false, eval e X.env) :: starEach es X.env := by rfl) (hplain : (backTo cpos (starEach es X.env)).any (·.1) = false := by rfl) :
    PE X (.Call (.Attribute o name apos) (e :: es) [] cpos) (tBMT r to t) := by
  intro pins s σ H Q I h;refine wpAny_Call_method_late hbase hfew hline rfl (thn (ho pins s σ H _ I h) fun v s1 ⟨x, H1, I1, r1, ⟨p, ys, ex, hp⟩, q1⟩ => ?_);subst ex;obtain rfl : v = Value.ref p := r1;obtain ⟨z, its, rr, ob, e1, c1, n1, d1, f1⟩ := (show ObjOk X.prog X.w H1 s1.heap p (.tup ys) from hp.ok I1.hok);have h1 : s1.TypeIs (.ref p) "tuple" := ⟨ob, e1, c1⟩
  have h2 : ∀ a, Value.ref p = .ref a -> ∃ ob, s1.heap.get? a = some ob /\ ob.dict = none := fun a e => by
    cases e;exact ⟨ob, e1, f1⟩
  refine ⟨"tuple", id, pa, slot, hty, h1, h2, ?_⟩;have hA := ha cpos pins s1 σ H1 _ I1 q1;rw [hs] at hA ⊢;refine Calls.callWith_builtin (by show (false || (backTo cpos (starEach es X.env)).any (·.1)) = false; rw [hplain] <;> rfl) (Calls.evalArgs_plain ?_);exact thn hA fun us s2 ⟨vs, H2, I2, r2, q2⟩ => hm pins s2 σ H2 (.ref p) vs (.ref p) us Q I2 rfl r2 q2
end
end L2
namespace L2
open PySem PySem.Spec PyProof.Rows
theorem cq {i : Int} {n : Nat} (h1 : -(2 ^ n) < i) (h2 : i < 2 ^ n) : Builtin.Int.intBits i <= n := by
  unfold Builtin.Int.intBits
  split
  . exact ZE _
  . rename_i h
    have h0 : i ≠ 0 := fun e => h (by rw [e]; rfl)
    have hn : i.natAbs < 2 ^ n := by
      have e : ((2 ^ n : Nat) : Int) = (2 : Int) ^ n := by rw [Int.natCast_pow]; rfl
      have : (i.natAbs : Int) < ((2 ^ n : Nat) : Int) := by rw [e]; omega
      exact_mod_cast this
    exact (Nat.log2_lt (by omega)).mpr hn
def CMulB (i j : Int) : Prop := (-(10 ^ 60) <= i /\ i <= 10 ^ 60) /\ -(10 ^ 60) <= j /\ j <= 10 ^ 60
theorem CMulB.ok {i j : Int} (h : CMulB i j) : IntMulOk i j := by
  have e : (10 : Int) ^ 60 < 2 ^ 200 := by decide
  obtain ⟨⟨a, b⟩, c, d⟩ := h;exact .of_bits (Zd (cq (n := 200) (by omega) (by omega)) (by decide)) (Zd (cq (n := 200) (by omega) (by omega)) (by decide))
end L2
namespace L2
open PySem
def SeqH (h : Heap) (l : Addr) (xs : Array Value) : Prop := ∃ o n, h.get? l = some o /\ o.data = .seq xs n
section
variable {prog : Program} {w : World} {A : Around} {E : Value -> Shared -> Prop} {s : Shared}
end
structure Drw where
  it : Addr
  l : Addr
  xs : Array Value
def DrAt (h : Heap) (d : Drw) (k : Nat) : Prop := (h.IsListIter d.it d.l k \/ h.IsTupleIter d.it d.l k) /\ SeqH h d.l d.xs
theorem DrAt.ext {h h' : Heap} {d : Drw} {k : Nat} (q : DrAt h d k) (h1 : ∀ o, h.get? d.it = some o -> h'.get? d.it = some o) (h2 : ∀ o, h.get? d.l = some o -> h'.get? d.l = some o) : DrAt h' d k := by
  obtain ⟨a, o', n, e', r'⟩ := q;refine ⟨?_, o', n, h2 o' e', r'⟩
  rcases a with ⟨o, e, r⟩ | ⟨o, e, r⟩
  . exact .inl ⟨o, h1 o e, r⟩
  . exact .inr ⟨o, h1 o e, r⟩
theorem DrAt.itAt {h : Heap} {d : Drw} {k : Nat} (q : DrAt h d k) : ∃ o, h.get? d.it = some o /\ o.data = .fields #[.ref d.l, .int k 0] := by
  rcases q.1 with ⟨o, e, c, r⟩ | ⟨o, e, c, r⟩ <;> exact ⟨o, e, r⟩
theorem DrAt.ne {h : Heap} {d : Drw} {k : Nat} (q : DrAt h d k) : d.l ≠ d.it := fun e => by
  obtain ⟨o, e1, r1⟩ := q.itAt;obtain ⟨o', n, e2, r2⟩ := q.2;rw [e, e1] at e2;cases e2;rw [r1] at r2;cases r2
section
variable {prog : Program} {w : World} {A : Around} {E : Value -> Shared -> Prop} {s : Shared}
end
def SrcAt (h : Heap) (b : Bool) (l : Addr) (xs : Array Value) : Prop := if b = true then h.IsList l xs else h.IsTuple l xs
def itObj (b : Bool) (l : Addr) : Obj := { cls := .type (if b = true then "list_iterator" else "tuple_iterator"), data := .fields #[.ref l, .int 0 0] }
theorem SrcAt.push {h : Heap} {b : Bool} {l : Addr} {xs : Array Value} (q : SrcAt h b l xs) (o : Obj) : SrcAt (h.push o) b l xs := by
  cases b
  . obtain ⟨p, e, r⟩ := (show h.IsTuple l xs from q)
    exact ⟨p, Heap.get?_push_of_some _ e, r⟩
  . obtain ⟨p, e, r⟩ := (show h.IsList l xs from q)
    exact ⟨p, Heap.get?_push_of_some _ e, r⟩
theorem DrAt.start {h : Heap} {b : Bool} {n l : Addr} {xs : Array Value} (e : h.get? n = some (itObj b l)) (q : SrcAt h b l xs) : DrAt h ⟨n, l, xs⟩ 0 := by
  cases b
  . obtain ⟨o, e', c, n, r⟩ := (show h.IsTuple l xs from q)
    exact ⟨.inr ⟨_, e, rfl, rfl⟩, o, n, e', r⟩
  . obtain ⟨o, e', c, n, r⟩ := (show h.IsList l xs from q)
    exact ⟨.inl ⟨_, e, rfl, rfl⟩, o, n, e', r⟩
theorem SrcAt.keeps {h h' : Heap} {b : Bool} {l : Addr} {xs : Array Value} (q : SrcAt h b l xs) (k : ∀ c o, h.get? c = some o -> h'.get? c = some o) : SrcAt h' b l xs := by
  cases b
  . obtain ⟨p, e, r⟩ := (show h.IsTuple l xs from q)
    exact ⟨p, k _ _ e, r⟩
  . obtain ⟨p, e, r⟩ := (show h.IsList l xs from q)
    exact ⟨p, k _ _ e, r⟩
section
variable {prog : Program} {w : World} {A : Around} {E : Value -> Shared -> Prop} {s : Shared}
end
end L2
namespace L2
open PySem PySem.Spec PyProof.Rows
section
variable {X : Cx} {pins : List (Addr × Obj)} {σ : St} {H : Hp} {s : Shared}
end
theorem Vals.three {x y z : V} {us : List Value} (r : Vals [x, y, z] us) : ∃ u v w, us = [u, v, w] /\ RelV x u /\ RelV y v /\ RelV z w := by
  cases r with
  | cons r1 r => cases r with
    | cons r2 r => cases r with
      | cons r3 r =>
        cases r;exact ⟨_, _, _, rfl, r1, r2, r3⟩
section
variable {σ : St} {k : Nat} {g : TG} {tt : TT} {te : TE} {H1 : Hp} {Fin : List V -> Hp -> Prop}
end
end L2
namespace L2
open PySem PySem.Spec PyProof.Rows
section
variable {prog : Program} {w : World} {K : Type} [DecidableEq K] {knd : KeyKind prog w K}
end
end L2
namespace L2
open PySem PySem.Spec PyProof.Rows
section
variable {X : Cx} {pins : List (Addr × Obj)} {σ : St} {H : Hp} {s : Shared}
end
end L2
namespace L2
open PySem
end L2
namespace L2
open PySem PySem.Spec PyProof.Rows
section
variable {X : Cx} {pins : List (Addr × Obj)} {σ : St} {H : Hp} {k : Nat} {f : Addr} {fd : FuncData} {ps : List Str} {sp : Sp}
end
end L2
namespace L2
open PySem PySem.Spec PyProof.Rows
section
variable {X : Cx}
end
end L2
namespace L2
open PySem PySem.Spec PyProof.Rows
theorem bt_any : bootBuiltins "any" = some (.builtin "any") := by decide +kernel
section
variable {X : Cx}
theorem zas (hc : X.calm = true) : CallR X (.builtin "any") (fun xs H Q => ∃ (p : Addr) (bs : List Bool), xs = [.ref p] /\ SqL X.K H p (bs.map V.bl) /\ Q (.bl (bs.any id)) H) := by
  intro pins s σ H xs us Q I r h;obtain ⟨p, bs, rfl, hq, q⟩ := h;obtain ⟨u, rfl, rx⟩ := Vals.one r;cases rx;obtain ⟨its, rv, pl, hz⟩ := I.list hq;have hlt : p < s.heap.objs.size := by obtain ⟨_, e, _⟩ := pl.isList; exact Heap.lt_size e
  have hlen : its.length = bs.length := by have := rv.length; rw [Za] at this; exact this.symm
  refine call_any_walk (wpAny_pyIter_list pl.isList ?_)
  refine ⟨s.heap.objs.size, [s.heap.objs.size, p], [s.heap.objs.size], its.toArray.size, _, _, fun i => (bs[i]?).getD false, rfl, Walks.list (A := X.A.in1) (I.ok.hd hc) _ p (Zs hlt) its.toArray,
    ⟨⟨_, Heap.get?_push_size _ rfl, rfl, rfl⟩, pl.isList.push _⟩, fun i v s' Q' E' hP hQ => ?_, fun h' tk hk => ?_⟩
  . have hi : its[i]? = some v := by simpa using hP
    have hil : i < bs.length := by rw [<- hlen]; exact (Zc.mp hi).1
    have e : bs[i]? = some bs[i] := by simp [hil]
    obtain ⟨u, hu, ru⟩ := rv.get (i := i) (x := V.bl bs[i]) (by rw [Ze, e]; rfl);rw [hi] at hu;cases hu;cases ru;simp only [e, YX] at hQ;exact wpAny_truthy_bool hQ
  . have e : ((List.range its.toArray.size).any fun i => (bs[i]?).getD false) = bs.any id := by
      rw [Zr, hlen];rw [Bool.eq_iff_iff, YE, YE]
      constructor
      . rintro ⟨i, hi, z⟩
        have hi' := ZY.mp hi;refine ⟨bs[i], Zl hi', ?_⟩
        simpa [Zb hi'] using z
      . rintro ⟨b, hb, z⟩
        obtain ⟨i, hi, rfl⟩ := Zy hb;exact ⟨i, ZY.mpr hi, by simpa [Zb hi] using z⟩
    rw [e];exact ⟨.bl (bs.any id), H, I.kept fun b x e => hk b x (fun hm => by rw [ZC.mp hm] at e; exact ZJ _ (Heap.lt_size e)) (Heap.get?_push_of_some _ e), rfl, q⟩
def d6 (K : Fg) : V -> List V -> Hp -> VK -> Prop := fun x vs H Q => ∃ p xs y, x = .ref p /\ vs = [y] /\ SqT K H p xs /\ yx y = true /\ xs.all yx = true /\ Q (.int ((xs.countP fun z => eqV z y : Nat) : Int)) H
theorem zcm {K : Fg} {x : V} {vs : List V} {H : Hp} {Q : VK} : d6 K x vs H Q = ∃ p xs y, x = .ref p /\ vs = [y] /\ SqT K H p xs /\ yx y = true /\ xs.all yx = true /\ Q (.int ((xs.countP fun z => eqV z y : Nat) : Int)) H := rfl
theorem j9 {y : V} : ∀ {xs : List V} {us : List Value}, Vals xs us -> xs.all yx = true -> us.countP (eqU y) = xs.countP fun z => eqV z y
  | _, _, .nil, _ => rfl
  | _, _, .cons r rr, f => by
    rw [YA, Bool.and_eq_true] at f;rw [List.countP_cons, List.countP_cons, j9 rr f.2, jd r f.1]
theorem zav : MtR X "tuple.count" (d6 X.K) := by
  intro pins s σ H x vs v us Q I rx rvs h;obtain ⟨p, xs, y, rfl, rfl, hq, hF, hFs, q⟩ := h;cases rx;obtain ⟨u, rfl, ru⟩ := uz rvs;obtain ⟨its, r, pl, hz⟩ := I.tuple hq;obtain ⟨⟨cls, dd, data, sl⟩, ho, hc, n, hd⟩ := id pl;simp only at hc hd;subst hc hd;refine call_meets PySem.F.slot_tuple_count ⟨_, ho, rfl⟩ PySem.F.entry_tuple_count (PySem.F.args_tuple_count_2 _ _) (SeqAt.tuple_countAt p its.toArray n dd sl u (eqU y)) ⟨ho, fun w hw => vv ru hF r hFs w (by simpa using hw), ⟨.int _, H, I.tok _, ⟨_, rfl⟩, ?_⟩⟩
  have e : its.toArray.toList.countP (eqU y) = xs.countP fun z => eqV z y := by
    rw [YQ];exact j9 r hFs
  rw [e];exact q
end
end L2
namespace L2
open PySem PySem.Spec PyProof.Rows
section
variable {X : Cx} {pins : List (Addr × Obj)} {σ : St} {H2 : Hp} {s₂ : Shared} {scope : Scope} {ts N2 : List Str} {cl : List (Str × Addr)} {C D : Addr} {fp : List Addr}
end
end L2
namespace L2
open PySem PySem.Spec PyProof.Rows
end L2
namespace L2
open PySem PySem.Spec PyProof.Rows
section
variable {X : Cx}
end
end L2
namespace L2
open PySem PySem.Spec PyProof.Rows
section
variable {M : Model} {A : Around} {E : Value -> Shared -> Prop} {s : Shared}
theorem kn {x : Value} {e1 e2 : Env} (h : e1.frame = e2.frame) : noteFrame x e1 = noteFrame x e2 := by unfold noteFrame PySem.frameOf; rw [h]
theorem jr {base : Heap} {l : List Env} {e : Addr} {cls a0 fl : Value} (fr : Option Addr) {Q : Unit -> Shared -> Prop}
    (hkb : base.StaysIn s.heap) (hl : s.heap.FunFrames base l) (ht : s.heap.TracedAtW base e cls a0 fl)
    (h : ∀ h', base.StaysIn h' -> h'.FunFrames base l -> h'.TracedAtW base e cls a0 (fr.elim Value.none fun f => rawInt f) -> (∀ b o, s.heap.get? b = some o -> (∀ vs, o.data ≠ .fields vs) -> h'.get? b = some o) -> Q () { s with heap := h' }) :
    wpAny M A (setFlight (.ref e) fr) Q E s := by
  obtain ⟨oe, vs, T, oT, ts, he, hcls, hd, h1, hnT, hTe, hT, hdT, h3⟩ := ht;have hsz3 : 3 < ts.size := (Yb.mp h3).1
  have other : ∀ b, b ≠ T -> (s.heap.update T (Obj.mapFields (·.setIfInBounds 3 (fr.elim Value.none fun f => rawInt f)))).get? b = s.heap.get? b :=
    fun b hb => Heap.get?_update_other _ _ (Ne.symm hb)
  have noRecord : ∀ b o, s.heap.get? b = some o -> (∀ vs, o.data ≠ .fields vs) -> b ≠ T := fun b o hb hnf q => by
    rw [q, hT] at hb; injection hb with hb; subst hb; exact hnf ts hdT
  unfold setFlight;refine wpAny_bind (wpAny_field he hd h1 ?_);rw [if_pos (show (Value.ref T != Value.none) = true from by simp)]
  refine wpAny_setField hT hdT hsz3 (h _ (fun b o hbo => (other b fun q => by rw [q, hnT] at hbo; cases hbo).trans (hkb b o hbo))
    (hl.of_keeps fun b o hb hnf => ⟨o, (other b (noRecord b o hb hnf)).trans hb, rfl⟩) ?_ fun b o hb hnf => (other b (noRecord b o hb hnf)).trans hb)
  exact ⟨oe, vs, T, _, _, (other e (Ne.symm hTe)).trans he, hcls, hd, h1, hnT, hTe, Heap.get?_update_self _ hT (Obj.isFreed_of_fields (Obj.data_mapFields hdT _)), Obj.data_mapFields hdT _, by simp [hsz3]⟩
theorem eg {base : Heap} {env : Env} {outer : List Env} {L e : Addr} {cls a0 fl : Value} {Q : Unit -> Shared -> Prop}
    (hfr : A.frames = some (env :: outer)) (hf : env.frame = some L) (hkb : base.StaysIn s.heap) (hen : base.get? e = none) (hl : s.heap.FunFrames base (env :: outer)) (ht : s.heap.TracedAtW base e cls a0 fl)
    (hQ : ∀ h', Heap.FlyingW base outer e cls a0 h' -> s.heap.UpToSlots h' -> Q () { s with heap := h' }) : wpAny M A (leaving env (.ref e)) Q E s := by
  by_cases hfl : fl = rawInt L
  . subst hfl
    unfold leaving;refine wpAny_bind (wpAny_noteFrame_againW hf ht ?_);refine wpAny_landsW (l := env :: outer) ⟨hkb, hen, hl, ht⟩ fun h' hfl ups => ?_
    obtain ⟨k1, k2, ⟨_, _, k3⟩, k4⟩ := hfl;exact hQ h' ⟨k1, k2, k3, k4⟩ ups
  . obtain ⟨oe, vs, T, oT, ts, he, ⟨hcls, h0⟩, hd, h1, hnT, hTe, hT, hdT, h3⟩ := ht
    subst hcls;unfold leaving noteFrame;simp only [hf];refine wpAny_bind (wpAny_bind (wpAny_field he hd h1 ?_));rw [if_pos (show (Value.ref T != Value.none) = true from by simp)];refine wpAny_bind (wpAny_field hT hdT h3 ?_);rw [if_neg (show ¬ ((fl == rawInt L) = true) from fun z => hfl (eq_of_beq z))];refine wpAny_bind (wpAny_setField hT hdT (Yb.mp h3).1 ?_);have other : ∀ b, b ≠ T -> (s.heap.update T (Obj.mapFields (·.setIfInBounds 3 Value.none))).get? b = s.heap.get? b := fun b hb => Heap.get?_update_other _ _ (Ne.symm hb)
    have noRecord : ∀ b o, s.heap.get? b = some o -> (∀ vs, o.data ≠ .fields vs) -> b ≠ T := fun b o hb hnf q => by
      rw [q, hT] at hb; injection hb with hb; subst hb; exact hnf ts hdT
    refine wpAny_newEntryW hfr (hl.of_keeps fun b o hb hnf => ⟨o, (other b (noRecord b o hb hnf)).trans hb, rfl⟩) hf ((other e (Ne.symm hTe)).trans he)
      (fun b o hbo => (other b fun q => by rw [q, hnT] at hbo; cases hbo).trans (hkb b o hbo)) hen hd (Yb.mp h1).1 h0
      fun h' ⟨x1, ⟨_, _, x2⟩, x3, x4⟩ => hQ h' ⟨x1, hen, x2, x3⟩ fun b o hb hnf => x4 b o ((other b (noRecord b o hb hnf)).trans hb) hnf
end
theorem nn {B h h' : Heap} {C : Addr} {oC : Obj} (hB : B.get? C = some oC) (sb : Heap.SameBut C h h') : ∀ {l : List Env}, h.FunFrames B l -> h'.FunFrames B l
  | [], _ => trivial
  | _ :: _, ⟨hk, ⟨L, o, hf, hn, ho, hd⟩, hr⟩ => ⟨hk, ⟨L, o, hf, hn, (sb.2 L (fun z => by rw [z, hB] at hn; cases hn)).trans ho, hd⟩, nn hB sb hr⟩
theorem za8 {fs : List Addr} {H0 H1 : Hp} {h0 h1 h2 B : Heap} (u : Un fs [] H0 H1 h0 h1) (dom2 : ∀ b o, h0.get? b = some o -> b ∉ fs -> ∃ ob, B.get? b = some ob /\ (H0 b = none -> ob = o))
    (bh' : B.StaysIn h2) (sl : ∀ b ∈ fs, ∀ o, h1.get? b = some o -> (∀ vs, o.data ≠ .fields vs) -> ∃ sl, h2.get? b = some { o with slots := sl }) (hfr : ∀ b ∈ fs, ∀ o, h1.get? b = some o -> ∀ vs, o.data ≠ .fields vs) : Un fs [] H0 H1 h0 h2 where
  keep := fun b o e n hb _ => by
    obtain ⟨ob, e1, e2⟩ := dom2 b o e hb;rw [e2 n] at e1;exact bh' b o e1
  slot := fun b o e n hb hx => by
    obtain ⟨s1, e1⟩ := u.slot b o e n hb hx;obtain ⟨s2, e2⟩ := sl b hb _ e1 (hfr b hb _ e1);exact ⟨s2, e2⟩
  free := u.free
  there := fun b o e hx => by
    by_cases hb : b ∈ fs
    . obtain ⟨o1, e1⟩ := u.there b o e hx
      obtain ⟨s2, e2⟩ := sl b hb _ e1 (hfr b hb _ e1);exact ⟨_, e2⟩
    . obtain ⟨ob, e1, _⟩ := dom2 b o e hb
      exact ⟨ob, bh' b ob e1⟩
  tups := u.tups
  frzs := u.frzs
  tbls := u.tbls
section
variable {X : Cx} {pins : List (Addr × Obj)} {σ : St} {H : Hp} {s : Shared}
theorem stk_lt (I : Inv X pins σ H s) {b : Addr} (hb : b ∈ frs X.stack) : b < s.heap.objs.size := by
  obtain ⟨_, o, e, _⟩ := I.stack.mem hb;exact Heap.lt_size e
theorem passC {P : Program} {w : World} {K : Fg} {mg : Str -> Option Value} {base : Heap} {NN : List Str} {qual : Str} {scp : Scope} {f : Addr} {cd : Value} {A : Around} {outer : List Env} {s0 : Shared} {H0 : Hp} {E : XK} {use : Option (Value -> Sem Unit)} {Q : Value -> Shared -> Prop} {acc : Value} {scope : Scope} {cl : List (Str × Addr)} {C : Addr} {m : Str -> Option Value} {e : Value} {s' : Shared}
    (hX : X = cxOf (CX1 P w) P w K mg base NN qual scp f cd A outer s0 H0 E) (I : Inv X pins σ H s) (hn : s.heap.Ns C m) (hf : H C = none) (hC : X.s₀.heap.objs.size <= C) (hL : C ≠ X.env.locals) (hS : ∀ b ∈ frs X.stack, b ≠ C)
    (h : CX1 X.prog X.w X.stack H s (fun c _ H' => E c none H') e s') :
    notedBy (model X.prog X.w) X.A (compEnvC scope cl C X.env) (fun x s1 => compPost (model X.prog X.w) X.A X.xe use Q acc C (.error x) s1) e s' := by
  subst hX;obtain ⟨ea, Ce, a0, B, H', rfl, os, bare, un, hok, fl, hea, dom, dom2, hE1⟩ := h;obtain ⟨oC, esC, epC, hoC, rC⟩ := hn;obtain ⟨ob, hBC, hob⟩ := dom2 C oC hoC (fun z => hS C z rfl);rw [hob hf] at hBC;unfold notedBy;rw [kn (e1 := compEnvC scope cl C (cxOf (CX1 P w) P w K mg base NN qual scp f cd A outer s0 H0 E).env) (e2 := envOfC qual scp s0.heap.objs.size f cd) rfl];refine wpAny_looks_onW I.ok.frames rfl fl fun h1 held ups => ?_
  obtain ⟨g1, g2, g3, g4⟩ := held
  have hk : ∃ m, h1.Ns C m /\ ∀ h', Heap.SameBut C h1 h' -> ∀ cenv : Env, cenv.locals = C -> wpAny (model P w) (A.deeper (envOfC qual scp s0.heap.objs.size f cd)) (PySem.passOn "comprehension.variables-let-go" (.ref ea) cenv : Sem Value) (fun _ _ => False) (cxOf (CX1 P w) P w K mg base NN qual scp f cd A outer s0 H0 E).xe { s' with heap := h' } := by
    refine ⟨m, ⟨oC, esC, epC, g1 C oC hBC, rC⟩, fun h' sb cenv _ => ?_⟩;have kB : (PySem.W.hideAll B [C]).StaysIn B := fun b o q => PySem.W.of_hideAll _ q
    have neB : ∀ b o, (PySem.W.hideAll B [C]).get? b = some o -> b ≠ C := fun b o q z => by
      rw [z, PySem.W.hideAll_none [C] (by simp)] at q; cases q
    have inB : ∀ b o, B.get? b = some o -> b ≠ C -> (PySem.W.hideAll B [C]).get? b = some o := fun b o q n => PySem.W.hideAll_get [C] q (by simpa using n)
    have st' : (PySem.W.hideAll B [C]).StaysIn h' := fun b o q => (sb.2 b (neB b o q)).trans (g1 b o (kB b o q))
    have ff' : h'.FunFrames (PySem.W.hideAll B [C]) (envOfC qual scp s0.heap.objs.size f cd :: outer) := PySem.W.funFrames_base kB (nn hBC sb g3);have he' : (PySem.W.hideAll B [C]).get? ea = none := PySem.W.fresh_of_stays kB g2
    have tr' : h'.TracedAtW (PySem.W.hideAll B [C]) ea (.ref Ce) a0 (rawInt s0.heap.objs.size) := by
      obtain ⟨oe, vs, T, oT, ts, a1, a2, a3, a4, a5, a6, a7, a8, a9⟩ := g4;exact ⟨oe, vs, T, oT, ts, (sb.2 ea (fun z => by rw [z, hBC] at g2; cases g2)).trans a1, a2, a3, a4, PySem.W.fresh_of_stays kB a5, a6, (sb.2 T (fun z => by rw [z, hBC] at a5; cases a5)).trans a7, a8, a9⟩
    unfold PySem.passOn;have tr2 := tr';obtain ⟨oe, vs, T, oT, ts, a1, a2, a3, a4, a5, a6, a7, a8, a9⟩ := tr2;refine wpAny_bind (wpAny_field (s := { s' with heap := h' }) a1 a3 a4 ?_);rw [if_neg (show ¬ ((Value.ref T == Value.none) = true) from by simp)];refine wpAny_bind (jr (s := { s' with heap := h' }) (l := envOfC qual scp s0.heap.objs.size f cd :: outer) cenv.frame st' ff' tr' fun h2 b1 b2 b3 b4 => ?_);refine wpAny_throw ?_
    show wpAny _ _ (leaving _ (.ref ea)) _ _ _
    refine eg (s := { s' with heap := h2 }) I.ok.frames rfl b1 he' b2 b3 fun h3 x1 x2 => ?_
    have hst : s'.heap.FunFrames B (envOfC qual scp s0.heap.objs.size f cd :: outer) := fl.2.2.1;have un0 : Un (frs outer) [] H0 H s0.heap s.heap := I.base
    have sub : ∀ b ∈ frs outer, b ∈ frs (envOfC qual scp s0.heap.objs.size f cd :: outer) := fun b hb => by
      obtain ⟨env, he, hf⟩ := ZP.mp hb;exact ZP.mpr ⟨env, Zv _ he, hf⟩
    have notL : ∀ b o, s0.heap.get? b = some o -> b ∉ frs outer -> b ∉ frs (envOfC qual scp s0.heap.objs.size f cd :: outer) := fun b o q n z => by
      rcases ZK.mp (I.stkSub b z) with y | y
      . have h1 : s0.heap.objs.size <= b := by rw [y]; exact I.ok.above
        exact absurd (Zh (Heap.lt_size q) h1) (ZJ _)
      . exact n y
    have ut := (un0.mono sub (fun _ z => z)).trans un;have un1 : Un (frs outer) [] H0 H' s0.heap s'.heap := ⟨fun b o e n hb hx => ut.keep b o e n (notL b o e hb) hx, fun b o e n hb hx => ut.slot b o e n (sub b hb) hx, ut.free, ut.there, ut.tups, ut.frzs, ut.tbls⟩;have hf' : H' C = none := un.free C oC hoC hf (by simp)
    have dom' : ∀ b o, H' b = some o -> ∃ ob, (PySem.W.hideAll B [C]).get? b = some ob := fun b o q => by
      obtain ⟨ob, e1⟩ := dom b o q;exact ⟨ob, inB b ob e1 (fun z => by rw [z, hf'] at q; cases q)⟩
    have dom2' : ∀ b o, s0.heap.get? b = some o -> b ∉ frs outer -> ∃ ob, (PySem.W.hideAll B [C]).get? b = some ob /\ (H0 b = none -> ob = o) := fun b o q n => by
      obtain ⟨o1, e1⟩ := un0.there b o q (by simp);obtain ⟨ob, k1, k2⟩ := dom2 b o1 e1 (notL b o q n);refine ⟨ob, inB b ob k1 (fun z => ?_), fun z => ?_⟩
      . have h1 : s0.heap.objs.size <= b := by rw [z]; exact hC
        exact absurd (Zh (Heap.lt_size q) h1) (ZJ _)
      . have e2 := un0.keep b o q z n (by simp)
        rw [e1] at e2;cases e2;exact k2 (un0.free b _ q z (by simp))
    have hfr : ∀ b ∈ frs outer, ∀ o, s'.heap.get? b = some o -> ∀ vs, o.data ≠ .fields vs := fun b hb o q => by
      obtain ⟨_, o', e', n'⟩ := hst.mem (b := b) (sub b hb);rw [q] at e'; cases e';exact n'
    have sl : ∀ b ∈ frs outer, ∀ o, s'.heap.get? b = some o -> (∀ vs, o.data ≠ .fields vs) -> ∃ sl, h3.get? b = some { o with slots := sl } := fun b hb o q n => by
      obtain ⟨s1, e1⟩ := ups b o q n;have e2 := (sb.2 b (hS b (sub b hb))).trans e1;have e3 := b4 b _ e2 n;obtain ⟨s3, e4⟩ := x2 b _ e3 n;exact ⟨s3, e4⟩
    exact ⟨ea, Ce, a0, PySem.W.hideAll B [C], H', rfl, os.trans I.os, bare, za8 un1 dom2' x1.1 sl hfr, HOk.flown hok (fun b o q => fl.1 b o (kB b o q)) x1.1 dom', x1, hea, dom', dom2', hE1⟩
  cases use <;> exact hk
end
theorem i9 {prog : Program} {w : World} {A : Around} {R : Result -> Shared -> Prop} {s : Shared} {elt target iter : Expr} {ifs : List Expr} {scope : Scope} {pos : Pos} {it acc : Value} {env : Env} (I : Nat -> Shared -> Prop)
    (turn : ∀ n s, I n s -> wpAny (model prog w) A (pyNext it) (fun r s₁ => match r with
      | none => R (.ok .next) s₁
      | some v => wpAny (model prog w) A (letOwnedTupleGo target it v) (fun _ s₁' => wpAny (model prog w) A (assign target env v) (fun _ s₂ =>
          wpAny (model prog w) A (forIn ifs true fun c r => if r = true then do let ok <- isTrue c env (eval c env); pure (ForInStep.yield ok) else pure (ForInStep.yield r)) (fun ok s₃ =>
            if ok = true then wpAny (model prog w) A (eval elt env) (fun x s₄ =>
              wpAny (model prog w) A (call (.builtin "list.append") [acc, x]) (fun _ s₅ => ∃ m, m < n /\ I m s₅) (fun _ _ => False) s₄) (notedBy (model prog w) A env fun x s' => R (.error x) s') s₃
            else ∃ m, m < n /\ I m s₃) (fun _ _ => False) s₂) (fun _ _ => False) s₁') (fun _ _ => False) s₁) (fun _ _ => False) s)
    (n : Nat) (h : I n s) :
    codeAny (model prog w) A (.compLoop (.ListComp elt [⟨target, iter, ifs, 0⟩] scope pos) 0 it acc env) R s := by
  refine codeAny_loop rfl I (fun n s hI => ?_) n h
  show wpAny _ A ((compTurn (.ListComp elt [⟨target, iter, ifs, 0⟩] scope pos) 0 it acc env).onRaise (fun x => do noteFrame x env; theTreesLotGoes x)) _ _ s
  refine wpAny_noted ?_;rw [compTurn_list];refine wpAny_bind (wpAny_standAt (wpAny_bind (wpAny_mono (turn n s hI) (fun r s₁ h₁ => ?_) fun _ _ f => f.elim)))
  cases r with
  | none => exact wpAny_pure h₁
  | some v =>
    refine wpAny_bind (wpAny_mono h₁ (fun _ s₁' h₁' => ?_) fun _ _ f => f.elim);refine wpAny_bind (wpAny_mono h₁' (fun _ s₂ h₂ => wpAny_bind (wpAny_mono h₂ (fun ok s₃ h₃ => ?_) fun _ _ f => f.elim)) fun _ _ f => f.elim)
    cases ok with
    | false => exact wpAny_pure ⟨rfl, h₃⟩
    | true =>
      exact wpAny_bind (wpAny_bind (wpAny_mono h₃ (fun x s₄ h₄ => wpAny_bind (wpAny_mono h₄ (fun _ s₅ h₅ => wpAny_pure (wpAny_pure ⟨rfl, h₅⟩)) fun _ _ f => f.elim)) fun _ _ f => f))
section
variable {X : Cx} {pins : List (Addr × Obj)} {σ : St} {H2 : Hp} {s₂ : Shared} {scope : Scope} {ts N2 : List Str} {cl : List (Str × Addr)} {C D : Addr} {fp : List Addr}
theorem zb3 (I2 : Inv X pins σ H2 s₂) (f2 : ∀ b ∈ fp, FpOk X pins H2 b) {σ' : St} {H' : Hp} {s' : Shared} {pl : List (Addr × Obj)}
    (J : Inv (z8 X scope (ts ++ N2) ⟨cl, C, s₂, H2, fp⟩) pl σ' H' s') : Inv X pins σ H' s' :=
  I2.call' (ch := fp) J.os J.base J.hok J.bare fun b hb => by
    obtain ⟨f0, f1, f3, f4, f5, f6⟩ := f2 b hb;exact ⟨f4, f1, f5, f6⟩
theorem db {Ex : Value -> Hp -> Prop} {E : Value -> Shared -> Prop} {tg elt iter : Expr} {ifs : List Expr} {pos : Pos} {it : Addr} {tn : Nat -> Heap -> Prop} {J : It} {g : Dyn -> TG} {tt : Dyn -> TT} {te : Dyn -> TE} {RR : Value -> Addr -> Result -> Shared -> Prop} {Fin : List V -> Hp -> Prop}
    (I2 : Inv X pins σ H2 s₂) (hc : X.calm = true) (T : Turn X.prog X.w X.K tg J fp it tn) (st : tn 0 s₂.heap) (f2 : ∀ b ∈ fp, FpOk X pins H2 b) (hkind : scope.kind = .function) (hown : rm scope.names = true) (hfree : sd scope.names X.env = true) (hout : wv scope.names N2 X.N = true)
    (hcl1 : ∀ x c, cl.lookup x = some c -> X.env.cells.lookup x = some c) (hcl2 : ∀ y ∈ scope.names, y.2 = .free -> ∃ c, cl.lookup y.1 = some c)
    (hg : ∀ d, PG (z8 X scope (ts ++ N2) d) tg (g d)) (ht : ∀ d, PTs (z8 X scope (ts ++ N2) d) ifs (tt d)) (he : ∀ d pn, PE (o6 (z8 X scope (ts ++ N2) d) pn fun _ c H' => Ex c H') elt (te d))
    (hW : ∀ d, pk J σ ts.length (g d) (tt d) (te d) H2 Fin)
    (hRR : ∀ D C s' H' ys, s₂.heap.objs.size <= C -> C ≠ D -> Inv X pins σ (upd H' D (.lst ys)) s' -> H' D = none -> H' C = none -> (∃ m, s'.heap.Ns C m) -> ys.length <= sizeLine -> Fin ys H' -> RR (.ref D) C (.ok .next) s')
    (hRE : ∀ acc C H' s' e s'' m, s₂.heap.objs.size <= C -> Inv X pins σ H' s' -> s'.heap.Ns C m -> H' C = none -> CX1 X.prog X.w X.stack H' s' (fun c _ H'' => Ex c H'') e s'' -> notedBy (model X.prog X.w) X.A (compEnvC scope cl C X.env) (fun x s1 => RR acc C (.error x) s1) e s'') :
    wpAny (model X.prog X.w) X.A (newList []) (fun acc s₃ => wpAny (model X.prog X.w) X.A (newFunctionEnv scope X.env.globals cl [] X.env.qual none .none (some X.env)) (fun cenv s₄ =>
      codeAny (model X.prog X.w) X.A (.compStart (.ListComp elt [⟨tg, iter, ifs, 0⟩] scope pos) 0 (.ref it) acc { cenv with scope := relabel scope X.env }) (RR acc cenv.locals) s₄) E s₃) E s₂ := by
  refine wpAny_newObj_type (wpAny_newFunctionEnv (ow hown) (by intro y hy; simp at hy) (fun h₁ hns₁ hsb₁ => ?_) hkind);dsimp only at hns₁ hsb₁ ⊢;generalize hH2 : s₂.heap.push { cls := .type "list", dict := none, data := .seq ([] : List Value).toArray } = HP at hns₁ hsb₁ ⊢;have hC : HP.objs.size = s₂.heap.objs.size + 1 := by rw [<- hH2, Heap.size_push]
  have hDC : s₂.heap.objs.size ≠ HP.objs.size := by rw [hC]; exact Zs (YD _)
  have hCle : s₂.heap.objs.size <= HP.objs.size := by rw [hC]; exact Xc _
  have below : ∀ b, b < s₂.heap.objs.size -> b ≠ HP.objs.size /\ b ≠ s₂.heap.objs.size := fun b hb => ⟨by rw [hC]; exact Zs (Yy hb), Zs hb⟩
  have old : ∀ b o, s₂.heap.get? b = some o -> h₁.get? b = some o := fun b o e => hsb₁.extBut b o (below b (Heap.lt_size e)).1 (Heap.get?_push_of_some _ (hH2 ▸ Heap.get?_push_of_some _ e))
  have hacc : h₁.get? s₂.heap.objs.size = some (lobj []) := hsb₁.extBut _ _ hDC (Heap.get?_push_of_some _ (hH2 ▸ Heap.get?_push_size _ rfl))
  have flt : ∀ b ∈ fp, b < s₂.heap.objs.size := fun b hb => by
    obtain ⟨o, e, _⟩ := T.obj _ _ st b hb;exact Heap.lt_size e
  generalize hDD : s₂.heap.objs.size = D at *;generalize hCC : HP.objs.size = C at *;have hDle : s₂.heap.objs.size <= D := YW hDD;have I4 := fun (tk : Nat) => ko (ts := ts) (D := D) (C := C) (tk := tk) I2 hc (fun b hb => ⟨f2 b hb, by rw [hDD]; exact flt b hb⟩) hkind hown hfree hout hcl1 hcl2 (by rw [hDD]; exact hCle) hDC hDle hns₁ old hacc
  generalize hd : (⟨cl, C, s₂, H2, fp⟩ : Dyn) = d at *;obtain ⟨W, ⟨m0, w0⟩, turn⟩ := hW d
  have Xs : ∀ {pl : List (Addr × Obj)} {H' : Hp}, (∀ b ∈ fp, H' b = none) -> (∀ p ∈ pl, p.1 = D) -> ∀ b ∈ fp, FpOk (z8 X scope (ts ++ N2) d) pl H' b := fun {pl H'} hn hp b hb => by
    subst hd;obtain ⟨f0, f1, f3, f4, f5, f6⟩ := f2 b hb;refine ⟨hn b hb, (below b (flt b hb)).1, fun z => ?_, .inl hb, fun x c e => f5 x c (hcl1 x c e), fun p hp' => ?_⟩
    . rcases ZK.mp (I2.stkSub b z) with z | z
      . exact f1 z
      . exact f3 z
    . rw [hp p (by simpa using hp')]
      exact Ne.symm (below b (flt b hb)).2
  have loop : ∀ s₃ : Shared, s₃ = { s₂ with heap := h₁, toks := s₂.toks + ([] : List (Str × Value)).length } ->
      codeAny (model X.prog X.w) X.A (.compLoop (.ListComp elt [⟨tg, iter, ifs, 0⟩] scope pos) 0 (.ref it) (.ref D) (compEnvC scope cl C X.env)) (RR (.ref D) C) s₃ := by
    rintro s₃ rfl
    refine i9 (fun n s' => ∃ i ys H' its, Inv (z8 X scope (ts ++ N2) d) [(D, lobj its)] (List.replicate ts.length none ++ σ) H' s' /\ tn i s'.heap /\ (∀ b ∈ fp, H' b = none) /\ Vals ys its /\ W i n ys H') ?_ m0
      ⟨0, [], H2, [], I4 _, T.keep _ _ _ st fun b _ o e => old b o e, fun b hb => (f2 b hb).1, .nil, w0⟩
    rintro n s3 ⟨i, ys, H3, its, I3, st3, fr3, hv3, w3⟩
    obtain ⟨hlen, tr⟩ := turn i n ys H3 w3
    have one : ∀ p ∈ [(D, lobj its)], p.1 = D := fun p hp => by
      have e : p = (D, lobj its) := by simpa using hp
      rw [e]
    have eenv : (z8 X scope (ts ++ N2) d).env = compEnvC scope cl C X.env := by subst hd; rfl
    rcases tr with ⟨stop, fin⟩ | ⟨go, N, hN, step⟩
    . refine thn (T.done (z8 X scope (ts ++ N2) d) rfl rfl rfl rfl i _ s3 _ H3 (fun _ _ => False) I3 (Xs fr3 one) st3 stop) fun r s4 ⟨hr, J4⟩ => ?_
      subst hr
      show RR (.ref D) C (.ok .next) s4
      obtain ⟨pe, pn, _⟩ := J4.pin (D, lobj its) (by simp);have fC : H3 C = none := by have := J4.free; rw [eenv] at this; exact this
      have nC : ∃ m, s4.heap.Ns C m := by
        obtain ⟨m, z, _⟩ := J4.loc;rw [eenv] at z;exact ⟨m, z⟩
      subst hd;exact hRR D C s4 H3 ys hCle (Ne.symm hDC) (fe I2 f2 hDle J4 pe pn hv3 hlen) pn fC nC hlen fin
    . refine thn (T.item (z8 X scope (ts ++ N2) d) rfl rfl rfl rfl i _ s3 _ H3 (fun _ _ => False) I3 (Xs fr3 one) st3 go) fun r s4 ⟨u, hr, h4⟩ => ?_
      subst hr;refine thn h4 fun _ s5 ⟨x, H5, I5, r5, y5, st5, fr5⟩ => ?_
      have I5' := I5.pinned (Xs fr5 one) (T.obj _ _ st5);rw [<- eenv];refine thn (hg d _ s5 _ H5 x u _ I5' r5 (step x H5 y5)) fun _ s6 ⟨σ6, H6, I6, hdrop, q6⟩ => ?_
      have back : ∀ {ys' : List V} {its' : List Value} {H' : Hp} {s' : Shared} {pl : List (Addr × Obj)}, Inv (z8 X scope (ts ++ N2) d) ([(D, lobj its')] ++ pl) σ6 H' s' -> Inv (z8 X scope (ts ++ N2) d) [(D, lobj its')] (List.replicate ts.length none ++ σ) H' s' := fun {ys' its' H' s' pl} I' => by
        have hl : σ6.length = (ts ++ N2).length := I'.len;refine (I'.pins_of (pins' := [(D, lobj its')]) fun p hp => I'.pin p (Zu _ (ZR _ hp))).weak ?_ ?_
        . rw [hl]; exact I3.len
        . intro j v e
          by_cases hj : j < ts.length
          . rw [Zg (by simpa using hj), Yg] at e
            split at e <;> cases e
          . have hj' : ts.length <= j := ZD.mp hj
            rw [Zf (by simpa using hj'), ZI, <- hdrop, Yt] at e;rw [show ts.length + (j - ts.length) = j by omega] at e;exact e
      refine thn (ht d _ s6 σ6 H6 _ I6 q6) fun b s7 ⟨H7, I7, q7⟩ => ?_
      have pinsOf : ∀ {its' : List Value} {H' : Hp} {s' : Shared}, Inv (z8 X scope (ts ++ N2) d) ([(D, lobj its')] ++ p9 fp s5.heap) σ6 H' s' -> (∀ b ∈ fp, ∀ o, s5.heap.get? b = some o -> s'.heap.get? b = some o) /\ ∀ b ∈ fp, H' b = none := fun {its' H' s'} I' => by
        refine ⟨fun b hb o e => (I'.pin (b, o) (Zu _ (Zu _ (w6 hb e)))).1, fun b hb => ?_⟩;obtain ⟨o, e, _⟩ := T.obj _ _ st5 b hb;exact (I'.pin (b, o) (Zu _ (Zu _ (w6 hb e)))).2.1
      cases b with
      | false =>
        have q7' : N ys H7 := by simpa using q7
        obtain ⟨m', hm, w7⟩ := hN _ _ q7';obtain ⟨k1, k2⟩ := pinsOf I7
        show ∃ m, m < n /\ _
        exact ⟨m', hm, i + 1, ys, H7, its, back (ys' := ys) I7, T.keep _ _ _ st5 k1, k2, hv3, w7⟩
      | true =>
        have q7' : te d σ6 H7 fun v H4 => N (ys ++ [v]) H4 := by simpa using q7
        show wpAny _ _ _ _ _ _
        refine wpAny_mono (he d _ _ s7 σ6 H7 _ (I7.intry fun _ c H' => Ex c H') q7') (fun y s8 ⟨v, H8, I8', r8, n8⟩ => ?_) (fun e s8 hx9 => by
          obtain ⟨pl9, σ9, H9, s9, J9, cx9⟩ := hx9;have K9 := Inv.outtry (X := z8 X scope (ts ++ N2) d) J9;obtain ⟨m9, n9, _⟩ := id K9.loc;rw [eenv] at n9;have f9 := K9.free;rw [eenv] at f9
          have I9 : Inv X pins σ H9 s9 := by
            subst hd;exact zb3 I2 f2 K9
          rw [eenv]
          exact hRE (.ref D) C H9 s9 e s8 m9 hCle I9 n9 f9 cx9)
        have I8 := Inv.outtry (X := z8 X scope (ts ++ N2) d) I8';obtain ⟨m', hm, w8⟩ := hN _ _ n8;obtain ⟨k1, k2⟩ := pinsOf I8;obtain ⟨pe, pn, pC, pf, pd⟩ := I8.pin (D, lobj its) (by simp);have hsz : its.toArray.size <= sizeLine := by rw [Zr, <- hv3.length]; exact hlen
        refine append_at (hsz := hsz) pe fun h9 sb9 e9 => ?_
        have J8 : Inv (z8 X scope (ts ++ N2) d) [] σ6 H8 s8 := I8.pins_of fun p hp => nomatch hp
        have hDs : (z8 X scope (ts ++ N2) d).s₀.heap.objs.size <= D := by subst hd; exact hDle
        have J9 : Inv (z8 X scope (ts ++ N2) d) [] σ6 H8 { s8 with heap := h9 } := J8.turned (t' := s8.toks) (it := D) (fun b o hb e => sb9.extBut b o hb e) pn pC (.inr hDs)
          (fun x c e => by
            obtain ⟨v', z⟩ := I3.cell x c e;subst hd;obtain ⟨v2, z2⟩ := I2.cell x c (hcl1 x c e)
            exact Zs (Zh z2.lt hDle)) (fun p hp => nomatch hp)
        have e9' : h9.get? D = some (lobj (its ++ [y])) := by
          rw [e9]
          show some ({ cls := .type "list", data := .seq (its.toArray.push y) (its.length + 1) } : Obj) = some { cls := .type "list", data := .seq (its ++ [y]).toArray (its ++ [y]).length }
          rw [Zo, ZS, List.push_toArray]
        have J9' : Inv (z8 X scope (ts ++ N2) d) ([(D, lobj (its ++ [y]))] ++ []) σ6 H8 { s8 with heap := h9 } := J9.pins_of fun p hp => by
          have e : p = (D, lobj (its ++ [y])) := by simpa using hp
          subst e;exact ⟨e9', pn, pC, pf, fun v z => by cases z⟩
        refine ⟨m', hm, i + 1, ys ++ [v], H8, its ++ [y], back (ys' := ys) J9', ?_, k2, hv3.append (.cons r8 .nil), w8⟩;exact T.keep _ _ _ st5 fun b hb o e => sb9.extBut b o (below b (flt b hb)).2 (k1 b hb o e)
  exact codeAny_compStart_list (loop _ rfl) (T.self _ 0 _ _ _ (T.keep _ _ _ st fun b _ o e => old b o e) (loop _ rfl))
end
theorem zca {X : Cx} {P : Program} {w : World} {K : Fg} {mg : Str -> Option Value} {base : Heap} {NN : List Str} {qual : Str} {scp : Scope} {f : Addr} {cd : Value} {A : Around} {outer : List Env} {s0 : Shared} {H0 : Hp} {E : XK} (hX : X = cxOf (CX1 P w) P w K mg base NN qual scp f cd A outer s0 H0 E) {tg elt iter : Expr} {ifs : List Expr} {scope : Scope} {pos spos py : Pos} {i : Nat} {y : Str} (ts N2 : List Str) {wi : TI} {g : Dyn -> TG} {tt : Dyn -> TT} {te : Dyn -> TE} (hN : X.N.Nodup) (hi' : X.N[i]? = some y) (hy : X.env.scope.names.lookup y = some .local) (hc : X.calm = true) (hi : PI X tg iter wi)
    (hg : ∀ d, PG (z8 X scope (ts ++ N2) d) tg (g d)) (ht : ∀ d, PTs (z8 X scope (ts ++ N2) d) ifs (tt d)) (he : ∀ d pn, PE (o6 (z8 X scope (ts ++ N2) d) pn fun _ c H' => E c none H') elt (te d))
    (hkind : scope.kind = .function) (hown : rm scope.names = true) (hfree : sd scope.names X.env = true) (hout : wv scope.names N2 X.N = true)
    (hsw : swapsWith (.ListComp elt [⟨tg, iter, ifs, 0⟩] scope pos) (some (.Name y py)) spos.line X.env = pure true)
    (hs : ∀ x, foldedSetIterable iter X.env x = pure x := by intro _; rfl) : PS X (.Assign [.Name y py] (.ListComp elt [⟨tg, iter, ifs, 0⟩] scope pos) spos) (bf i (i0 ts.length wi g tt te)) := by
  intro pins s σ H D0 I h;obtain ⟨cl, hclos, hcl1, hcl2⟩ := nh (scope := scope) (env := X.env) fun z hz hf => I.ok.has z.1 (rz hfree hz hf)
  rw [exec_Assign_Name_used _ _ _ _ hsw];refine wpAny_bind (wpAny_standAt (wpAny_bind ?_))
  show wpAny _ X.A (do let _ <- comprehension (.ListComp elt [⟨tg, iter, ifs, 0⟩] scope pos) scope X.env _ (newList []) false (eval iter X.env) (some (assign (.Name y py) X.env))) _ _ s
  refine wpAny_bind (wpAny_mono (wpAny_comprehension_free (use := some (assign (.Name y py) X.env)) (Q := fun _ s' => SP X pins D0 .next s') rfl hs hclos hkind (pw hown)
    (thn (hi pins s σ H _ I h) fun v s1 h1 => thn h1 fun itv s2 h2 => ?_)) (fun _ s' hq => wpAny_pure (wpAny_pure hq)) fun _ _ e => e)
  obtain ⟨it, fp, tn, J, H2, e, I2, T, st2, f2, hW⟩ := h2;subst e;refine db (Ex := fun c H' => E c none H') (RR := fun acc C => compPost (model X.prog X.w) X.A X.xe (some (assign (.Name y py) X.env)) (fun _ s' => SP X pins D0 .next s') acc C) I2 hc T st2 f2 hkind hown hfree hout hcl1 hcl2 hg ht he hW ?_ (fun acc C H' s' e s'' m hC I' hn hf cx => passC hX I' hn hf (Zd I2.sz hC) (Yr (Zh I2.lt hC)) (fun b hb z => absurd (Zh (stk_lt I2 hb) hC) (by rw [z]; exact ZJ _)) cx);intro D C s' H' ys hC hCD I' hD hCn hNs hl fin;obtain ⟨m, hm⟩ := hNs
  show wpAny _ _ _ _ _ _
  have hcl : C ≠ X.env.locals := Yr (Zh I2.lt hC)
  have hcc : ∀ x c, X.env.cells.lookup x = some c -> c ≠ C := fun x c e => by
    obtain ⟨v, q⟩ := I2.cell x c e;exact Zs (Zh q.lt hC)
  refine wpAny_assign_Name (mi I' hN hi' (.inl hy) (v := .ref D) (u := .ref D) rfl (fun s'' I'' ⟨a, sb, ha⟩ => ?_) (.inr hy))
  have haC : C ≠ a := by
    rcases ha with z | z
    . rw [z]; exact hcl
    . exact Ne.symm (hcc y a z)
  refine ⟨m, hm.sameBut sb haC, fun h' sb' => ?_⟩
  have I3 : Inv X pins (σ.set i (some (.ref D))) (upd H' D (.lst ys)) { s'' with heap := h' } := by
    refine I''.turned (t' := s''.toks) (it := C) (fun b o hb e => sb'.extBut b o hb e) (by rw [zy hCD]; exact hCn) hcl (.inr (Zd I2.sz hC)) hcc fun p hp => ?_
    exact Zs (Zh (Heap.lt_size (I2.pin p hp).1) hC)
  exact ⟨_, _, I3, fin D hD⟩
end L2
namespace L2
open PySem PySem.Spec PyProof.Rows
theorem wb (y : Str) (ps : List Str) : Txt.join y ps = Str.join y ps := StrLaws.glued_eq_join y ps
theorem nq : ∀ (k : Nat) (ps : List Str), Vals (ps.map V.str) (strsFrom k ps)
  | _, [] => .nil
  | k, p :: ps => .cons ⟨k, rfl⟩ (nq (k + 1) ps)
section
variable {X : Cx}
def zbd : V -> List V -> Hp -> VK -> Prop := fun x vs H Q => ∃ z y, x = .str z /\ vs = [.str y] /\ (y.length == 0) = false /\ z.length <= sizeLine /\ (Txt.split z y).length <= sizeLine /\ ∀ l, H l = none -> Q (.ref l) (upd H l (.lst ((Txt.split z y).map V.str)))
theorem qj : MtM X "str.split" zbd := by
  intro pins s σ H x vs v us Q I rx rv h;obtain ⟨z, y, rfl, rfl, hy, hz, hn, q⟩ := h;obtain ⟨t, rfl⟩ := rx;obtain ⟨u, rfl, ru⟩ := rv.one;obtain ⟨t2, rfl⟩ := ru
  have fin : ∀ (its : List Value) (tk : Nat), Vals ((Txt.split z y).map V.str) its -> EP X pins σ Q (.ref s.heap.objs.size) { s with heap := s.heap.push { cls := .type "list", data := .seq its.toArray }, toks := tk } := fun its tk r =>
    ⟨.ref s.heap.objs.size, _, I.laid (t' := tk) (fun b o e => Heap.get?_push_of_some _ e) (Zm _) (show ObjOk X.prog X.w _ _ _ (.lst ((Txt.split z y).map V.str)) from ⟨by rw [Za]; exact hn, its, _, r, Heap.get?_push_size _ rfl⟩), rfl, q _ (I.hok.fresh (Zm _))⟩
  by_cases h1 : (decide (z.length < y.length) || decide (Builtin.Str.strKind z < Builtin.Str.strKind y)) = true
  . have e : Txt.split z y = [z] := by unfold Txt.split; rw [if_pos h1]
    rw [e] at fin;exact call_meets F.slot_str_split (typeIs_str _ _ _) F.entry_str_split (F.args_str_split_2 _ _) (meets_str_split_cannot_occur z y t t2 h1) (fin [.str z t] s.toks (.cons ⟨t, rfl⟩ .nil))
  . by_cases h2 : (Builtin.Str.occurrences z y 0 z.length (z.length + 1)).isEmpty = true
    . have e : Txt.split z y = [z] := by unfold Txt.split; rw [if_neg h1, if_pos h2]
      rw [e] at fin;exact call_meets F.slot_str_split (typeIs_str _ _ _) F.entry_str_split (F.args_str_split_2 _ _) (meets_str_split_not_found z y t t2 (Bool.eq_false_iff.mpr h1) hy h2) (fin [.str z t] s.toks (.cons ⟨t, rfl⟩ .nil))
    . have e : Txt.split z y = Builtin.Str.partsBetween z (Builtin.Str.occurrences z y 0 z.length (z.length + 1)) y.length := by unfold Txt.split; rw [if_neg h1, if_neg h2]
      rw [e] at fin hn;exact call_meets F.slot_str_split (typeIs_str _ _ _) F.entry_str_split (F.args_str_split_2 _ _) (meets_str_split_sep z y t t2 (Bool.eq_false_iff.mpr h1) hy (Bool.eq_false_iff.mpr h2) hz hn) (fin _ _ (nq _ _))
theorem zcx {x : V} {vs : List V} {H : Hp} {Q : VK} : zbd x vs H Q = ∃ z y, x = .str z /\ vs = [.str y] /\ (y.length == 0) = false /\ z.length <= sizeLine /\ (Txt.split z y).length <= sizeLine /\ ∀ l, H l = none -> Q (.ref l) (upd H l (.lst ((Txt.split z y).map V.str))) := rfl
end
end L2
namespace L2
open PySem PySem.Spec PyProof.Rows
theorem zc5 {c : TT} {tb : TS} {D : Ends} {σ : St} {H : Hp} : za0 c tb D σ H = ∃ W : Nat -> St -> Hp -> Prop, (∃ m, W m σ H) /\ ∀ m σ H, W m σ H ->
  c σ H fun b H1 => if b = true then ∃ N : St -> Hp -> Prop, (∀ σ' H', N σ' H' -> ∃ m', m' < m /\ W m' σ' H') /\ tb { D with nx := N, ct := N, bk := D.nx } σ H1 else D.nx σ H1 := rfl
end L2
namespace L2
open PySem PySem.Spec PyProof.Rows
def ae (K : Fg) (mg : Str -> Option Value) (name : Str) (xs : List V) : Prop := ∃ p, mg name = some (.ref p) /\ ∀ H, SqT K H p xs
theorem tup_mk {K : Fg} {h : Heap} {mg : Str -> Option Value} (X : K.In h) (G : h.Ns mainGlobals mg) {name : Str} {p : Addr} {od : Option Addr} {its : Array Value} {n : Nat} {osl : Array (Option Value)} {xs : List V} (e : PySem.W.nsIn K mainGlobals name = some (some (.ref p))) (l : K.lookup p = some ⟨.type "tuple", od, .seq its n, osl⟩) (hz : its.size <= sizeLine) (r : Vals xs its.toList) : ae K mg name xs :=
  ⟨p, PySem.W.mg_of X G e, fun H => .inr ⟨_, its, n, l, rfl, rfl, hz, r⟩⟩
def tGlT (K : Fg) (xs : List V) : TE := fun _ H Q => ∀ p, SqT K H p xs -> Q (.ref p) H
theorem zcq {X : Cx} {x : Str} {xs : List V} {pos : Pos} (hg : Gl X x) (hm : ae X.K X.mg x xs) (hd : (x == ("__debug__" : Str)) = false := by decide) : PE X (.Name x pos) (tGlT X.K xs) := by
  obtain ⟨p, hm, hs⟩ := hm;intro pins s σ H Q I h;exact we (v := .ref p) hg hm rfl hd pins s σ H Q I (h p (hs H))
theorem e_glT {K : Fg} {xs : List V} {σ : St} {H : Hp} {Q : VK} : tGlT K xs σ H Q = ∀ p, SqT K H p xs -> Q (.ref p) H := rfl
end L2
namespace L2
open PySem PySem.Spec PyProof.Rows
def rIntS (xs : List V) (H : Hp) (Q : VK) : Prop := ∃ (x : Str) (n : Int), xs = [.str x] /\ PySem.intText? x = some n /\ x.length <= 640 /\ Q (.int n) H
theorem e_intS {xs : List V} {H : Hp} {Q : VK} : rIntS xs H Q = ∃ (x : Str) (n : Int), xs = [.str x] /\ PySem.intText? x = some n /\ x.length <= 640 /\ Q (.int n) H := rfl
section
variable {X : Cx}
theorem zap : CallR X (.type "int") rIntS := by
  intro pins s σ H xs us Q I r h;obtain ⟨x, n, rfl, hn, hl, q⟩ := h;obtain ⟨u, rfl, t, rfl⟩ := uz r;exact PySem.W.KIN.call_text hn hl ⟨.int n, H, I.tok _, ⟨_, rfl⟩, q⟩
end
section
variable {a b c d t e u : TS} {tc : TT} {D : Ends} {σ : L2.St} {H : Hp}
theorem k7 (h : ∀ T : TS, T = t -> tSeq a T D σ H) : tSeq a t D σ H := h t rfl
theorem aw (h : ∀ T : TS, T = t -> tSeq a (tSeq b T) D σ H) : tSeq a (tSeq b t) D σ H := h t rfl
theorem hide3 (h : ∀ T : TS, T = t -> tSeq a (tSeq b (tSeq c T)) D σ H) : tSeq a (tSeq b (tSeq c t)) D σ H := h t rfl
theorem hide4 (h : ∀ T : TS, T = t -> tSeq a (tSeq b (tSeq c (tSeq d T))) D σ H) : tSeq a (tSeq b (tSeq c (tSeq d t))) D σ H := h t rfl
theorem hideI (h : ∀ T : TS, T = t -> tSeq a (tIfS tc T e) D σ H) : tSeq a (tIfS tc t e) D σ H := h t rfl
theorem hideJ (h : ∀ T : TS, T = t -> tSeq a (tSeq (tIfS tc T e) u) D σ H) : tSeq a (tSeq (tIfS tc t e) u) D σ H := h t rfl
theorem hideK (h : ∀ T : TS, T = t -> tSeq (tIfS tc T e) u D σ H) : tSeq (tIfS tc t e) u D σ H := h t rfl
theorem hideL (h : ∀ T U : TS, T = t -> U = u -> tSeq (tIfS tc T e) U D σ H) : tSeq (tIfS tc t e) u D σ H := h t u rfl rfl
end
end L2
namespace L2
open PySem PySem.Spec PyProof.Rows
section
variable {P : Program} {w : World} {A : Around} {E : Value -> Shared -> Prop} {s : Shared}
def RawAt (h : Heap) (d : Addr) (es : Array DictEntry) (ep : Nat) : Prop := ∃ o, h.get? d = some o /\ o.ExactDict /\ o.data = .dict es ep
theorem RawAt.ty {d : Addr} {es : Array DictEntry} {ep : Nat} (x : RawAt s.heap d es ep) : s.TypeIs (.ref d) "dict" := let ⟨o, ho, hc, _⟩ := x; ⟨o, ho, hc.1⟩
end
def zal (H : Hp) (kvs : List (List Key × V)) (as : List Addr) : Prop := Paired (fun (p : List Key × V) (a : Addr) => H a = some (.tup (p.1.map kV))) kvs as
def rListT (xs : List V) (H : Hp) (Q : VK) : Prop := ∃ (a : Addr) (kvs : List (List Key × V)), xs = [.ref a] /\ H a = some (.dT kvs) /\ ∀ as, zal H kvs as -> ∀ p, H p = none -> Q (.ref p) (upd H p (.lst (as.map V.ref)))
theorem zcw {xs : List V} {H : Hp} {Q : VK} : rListT xs H Q = ∃ (a : Addr) (kvs : List (List Key × V)), xs = [.ref a] /\ H a = some (.dT kvs) /\ ∀ as, zal H kvs as -> ∀ p, H p = none -> Q (.ref p) (upd H p (.lst (as.map V.ref))) := rfl
section
variable {X : Cx}
end
section
variable {X : Cx} {e st : Expr} {te : TE} {ts : TO} {pos p2 : Pos}
def tDown (K : Fg) (te : TE) (ts : TO) : TE := fun σ H Q => te σ H fun x H1 => ts σ H1 fun k H2 => k = some (-1) /\ ∃ a xs, x = .ref a /\ SqL K H2 a xs /\ ∀ p, H2 p = none -> Q (.ref p) (upd H2 p (.lst xs.reverse))
theorem e_down {K : Fg} {σ : St} {H : Hp} {Q : VK} : tDown K te ts σ H Q = te σ H fun x H1 => ts σ H1 fun k H2 => k = some (-1) /\ ∃ a xs, x = .ref a /\ SqL K H2 a xs /\ ∀ p, H2 p = none -> Q (.ref p) (upd H2 p (.lst xs.reverse)) := rfl
end
end L2
namespace L2
open PySem PySem.Spec PyProof.Rows
section
variable {X : Cx} {tg : Expr}
end
end L2
namespace L2
open PySem PySem.Spec PyProof.Rows
section
variable {prog : Program} {w : World} {K : Type} [DecidableEq K] {knd : KeyKind prog w K}
end
section
variable {X : Cx} {pins : List (Addr × Obj)} {σ : St} {H : Hp} {s : Shared}
end
end L2
namespace L2
open PySem PySem.Spec PyProof.Rows
section
variable {prog : Program} {w : World} {K : Type} [DecidableEq K] {knd : KeyKind prog w K} {A : Around} {E : Value -> Shared -> Prop} {s : Shared}
end
section
variable {X : Cx}
end
end L2
namespace L2
open PySem PySem.Spec PyProof.Rows AutoSeq1
set_option maxHeartbeats 1000000 in
section
variable {prog : Program} {w : World} {A : Around} {E : Value -> Shared -> Prop} {s : Shared}
end
section
variable {σ : St} {k : Nat} {g : TG} {tt : TT} {te : TE} {H1 : Hp} {Fin : List V -> Hp -> Prop}
end
end L2
namespace L2
open PySem PySem.Spec PyProof.Rows
section
variable {X : Cx} {c e : Expr} {te : TE} {x : Str} {p2 pos : Pos}
def tFs (x : Str) (te : TE) : TE := fun σ H Q => te σ H fun v H1 => ∃ y, v = .str y /\ (x ++ y).length <= sizeLine /\ Q (.str (x ++ y)) H1
theorem e_fs {σ : St} {H : Hp} {Q : VK} : tFs x te σ H Q = te σ H fun v H1 => ∃ y, v = .str y /\ (x ++ y).length <= sizeLine /\ Q (.str (x ++ y)) H1 := rfl
theorem zdy (hc : PE X c (tC (.str x))) (he : PE X e te) (hx : x.length <= sizeLine) : PE X (.JoinedStr [c, .FormattedValue e (-1) none p2] pos) (tFs x te) := by
  intro pins s σ H Q I h;refine JoinedStr_many (joinParts_cons (thn (hc pins s σ H (fun v H' => v = .str x /\ H' = H) I ⟨rfl, rfl⟩) fun v s1 ⟨w, H1, I1, r1, e1, e2⟩ => ?_));subst e1 e2;obtain ⟨t, rfl⟩ := r1;refine ⟨by rw [Str.empty_append]; exact hx, ?_⟩;rw [Str.empty_append];refine joinParts_cons (FormattedValue_plain (thn (he pins s1 σ _ _ I1 h) fun u s2 ⟨y, H2, I2, r2, y', ey, hz, q⟩ => ?_));subst ey;obtain ⟨t2, rfl⟩ := r2
  have hy : y'.length <= sizeLine := by
    rw [strLen_append] at hz;omega
  refine formatField_str (fun t' tk => ⟨hz, joinParts_nil ⟨.str (x ++ y'), H2, I2.tok _, ⟨_, rfl⟩, q⟩ hz⟩) hy
end
section
variable {X : Cx}
end
end L2
namespace L2
open PySem PySem.Spec PyProof.Rows
section
variable {X : Cx}
end
section
variable {σ : St} {k : Nat} {g : TG} {tt : TT} {te : TE} {H1 : Hp} {Fin : List V -> Hp -> Prop}
end
end L2
namespace L2
open PySem PySem.Spec PyProof.Rows
section
variable {X : Cx} {e st : Expr} {te : TE} {ts : TO} {pos p2 : Pos}
end
section
variable {prog : Program} {w : World} {K : Type} [DecidableEq K] {knd : KeyKind prog w K} {A : Around} {E : Value -> Shared -> Prop} {s : Shared}
end
end L2
namespace L2
open PySem PySem.Spec PyProof.Rows
section
variable {X : Cx} {tg : Expr}
end
section
variable {X : Cx}
end
end L2
namespace L2
open PySem PySem.Spec PyProof.Rows
section
variable {X : Cx}
end
section
variable {X : Cx}
end
section
variable {σ : St} {k : Nat} {g : TG} {tt : TT} {te : TE} {H1 : Hp} {Fin : List V -> Hp -> Prop}
end
end L2
namespace L2
open PySem PySem.Spec PyProof.Rows
def offH {K : Type} [DecidableEq K] (xs : List (K × Addr × Value)) (k : K) : List (K × Addr × Value) := xs.filter fun x => decide (x.1 ≠ k)
section
variable {X : Cx} {pins : List (Addr × Obj)} {σ : St} {H : Hp} {s : Shared} {A : Around} {E : Value -> Shared -> Prop}
theorem KT.off {H : Hp} {kvs : List (List Key × V)} {xs : List (List Key × Addr × Value)} (r : KT H kvs xs) (k : List Key) : KT H (i3 kvs k) (offH xs k) := by
  unfold i3 offH
  induction r with
  | nil => exact .nil
  | @cons p q ps qs h t ih =>
    by_cases e : p.1 = k
    . rw [List.filter_cons_of_neg (by simp [e]), List.filter_cons_of_neg (by simp [<- h.1, e])]
      exact ih
    . rw [List.filter_cons_of_pos (by simp [e]), List.filter_cons_of_pos (by simp [<- h.1, e])]
      exact .cons h ih
end
section
variable {X : Cx} {o e f : Expr} {apos cpos : Pos} {td ty tx : TE}
end
end L2
namespace L2
open PySem PySem.Spec PyProof.Rows
section
variable {X : Cx}
end
section
variable {X : Cx} {o e f : Expr} {apos cpos : Pos} {td ty tx : TE}
end
end L2
namespace L2
open PySem PySem.Spec PyProof.Rows
section
variable {X : Cx}
def rSlS : V -> Option Int -> Option Int -> Hp -> VK -> Prop := fun x _ _ H Q => ∃ z : Str, x = .str z /\ z.length <= sizeLine /\ ∀ y : Str, y.length <= z.length -> Q (.str y) H
theorem e_slS {x : V} {lo hi : Option Int} {H : Hp} {Q : VK} : rSlS x lo hi H Q = ∃ z : Str, x = .str z /\ z.length <= sizeLine /\ ∀ y : Str, y.length <= z.length -> Q (.str y) H := rfl
theorem c8 {v : Value} {o : Option Int} (h : IsPart v o) : ∃ l : Option (Int × Tok), v = partValue l := by
  cases h with
  | none => exact ⟨none, rfl⟩
  | int i t => exact ⟨some (i, t), rfl⟩
theorem ss : SlR X rSlS := by
  intro pins s σ H x v vl vu lo hi sl Q I rx hs pl pu h;obtain ⟨z, rfl, hz, q⟩ := h;obtain ⟨t, rfl⟩ := rx;obtain ⟨l, rfl⟩ := c8 pl;obtain ⟨u, rfl⟩ := c8 pu;refine ⟨"str", _, F.slot_str_getitem.lookup, rfl, wpAny_getItem_str_slice (l := l) (u := u) (st := none) hs rfl ?_⟩;have hle := Txt.sliceBy_le z l u (1, 0) (by decide);have e1 : slicePicked z l u (some (1, 0)) = slicePicked z l u none := rfl;unfold sliceMade;unfold Txt.sliceBy at hle;rw [e1] at hle
  split
  . exact ⟨.str z, H, I, ⟨t, rfl⟩, q z (Zm _)⟩
  . rename_i hc
    rw [show ((Option.map (fun x : Int × Tok => x.fst) (some ((1 : Int), (0 : Tok)))).getD 1 == 1) = ((Option.map (fun x : Int × Tok => x.fst) none).getD 1 == 1) from rfl, if_neg hc] at hle;exact ⟨Zd hle hz, .str _, H, I.tok _, ⟨_, rfl⟩, q _ hle⟩
end
theorem uf (x y : Str) : Str.join y (Txt.split x y) = x := by
  obtain ⟨f, hG⟩ := StrLaws.occ_chain x y (x.length + 1);unfold Txt.split
  split
  . rfl
  . split
    . rfl
    . rw [StrLaws.partsBetween_eq, StrLaws.join_partsFrom x y _ 0 f hG, StrLaws.sub_whole]
theorem qk (x y : Str) : Txt.split x y ≠ [] := by
  unfold Txt.split
  split
  . simp
  . split
    . simp
    . rw [StrLaws.partsBetween_eq]
      obtain ⟨p, r, e⟩ := StrLaws.partsFrom_ne x y.length 0 (Builtin.Str.occurrences x y 0 x.length (x.length + 1));rw [e];simp
theorem nk {y : Str} : ∀ {ps : List Str} {p : Str}, p ∈ ps -> p.length <= (Str.join y ps).length
  | [q], p, h => by rw [ZC.mp h]; exact Zm _
  | q :: r :: ps, p, h => by
    show p.length <= (q ++ y ++ Str.join y (r :: ps)).length
    rw [Str.length_append, Str.length_append]
    rcases ZK.mp h with e | e
    . rw [e]; omega
    . have := nk (y := y) e
      omega
theorem nz {y : Str} (h1 : 1 <= y.length) : ∀ {ps : List Str}, ps.length <= (Str.join y ps).length + 1
  | [] => by simp
  | [q] => by simp
  | q :: r :: ps => by
    show (q :: r :: ps).length <= (q ++ y ++ Str.join y (r :: ps)).length + 1
    rw [Str.length_append, Str.length_append];have := nz h1 (ps := r :: ps);simp only [ZL] at this ⊢;omega
theorem sv (x y : Str) (h1 : 1 <= y.length) : (Txt.split x y).length <= x.length + 1 := by
  have := nz h1 (ps := Txt.split x y);rw [uf] at this;exact this
theorem p7 {x y p : Str} (h : p ∈ Txt.split x y) : p.length <= x.length := by
  have := nk (y := y) h;rw [uf] at this;exact this
end L2
namespace Mine
open PySem PySem.Spec PyProof.Rows L2
theorem yk {α β : Type} {g : α -> β} {xs : List α} {i : Nat} {x : β} (h : (xs.map g)[i]? = some x) : ∃ y, xs[i]? = some y /\ g y = x := by
  rw [Ze] at h
  cases e : xs[i]? with
  | none => rw [e] at h; cases h
  | some y => rw [e] at h; cases h; exact ⟨y, rfl, rfl⟩
def zk := And.intro @e_slS (And.intro @e_fs (And.intro @zcw (And.intro @e_down (And.intro @e_intS (And.intro @e_var (And.intro @e_C (And.intro @e_op (And.intro @e_un (And.intro @e_rI (And.intro @e_rI0 (And.intro @e_rU (And.intro @e_rEq (And.intro @e_rNe (And.intro @e_ixL (And.intro @e_ixT (And.intro @e_set (And.intro @e_cat (And.intro @e_test (And.intro @e_B (And.intro @e_and (And.intro @e_or (And.intro @e_not (And.intro @e_andV (And.intro @e_orV (And.intro @e_notV (And.intro @e_ifE (And.intro @e_all (And.intro @e_next (And.intro @e_seq (And.intro @e_brk (And.intro @e_cnt (And.intro @e_drop (And.intro @e_ret (And.intro @e_retN (And.intro @e_ifS (And.intro @e_asg (And.intro @e_gName (And.intro @e_setC (And.intro @e_augS (And.intro @e_ipI (And.intro @e_nil (And.intro @e_cons (And.intro @e_tup (And.intro @e_lst (And.intro @e_call (And.intro @e_CB (And.intro @e_BM (And.intro @e_app (And.intro @e_rng1 (And.intro @e_rng2 (And.intro @e_iL (And.intro @e_for (And.intro @e_comp (And.intro @cxK (And.intro @e_zip (And.intro @e_gTup (And.intro @e_gNil (And.intro @zdf (And.intro @e_rep (And.intro @e_gSub (And.intro @e_slL (And.intro @e_tSl (And.intro @zb0 (And.intro @e_part (And.intro @zdl (And.intro @e_pop (And.intro @e_BM0 (And.intro @zde (And.intro @e_in (And.intro @e_enum (And.intro @e_minK (And.intro @zdw (And.intro @zdc (And.intro @zdn (And.intro @e_try0 (And.intro @suK (And.intro @noxK (And.intro @tryK (And.intro @e_eqD (And.intro @e_inD (And.intro @e_iStr (And.intro @e_mulS (And.intro @e_ixS (And.intro @e_join (And.intro @e_iT (And.intro @e_iSeq (And.intro @e_tupL (And.intro @e_minL (And.intro @e_maxL (And.intro @zb2 (And.intro @e_leS (And.intro @e_vI0 (And.intro @e_vI (And.intro @e_ints (And.intro @e_isB (And.intro @e_catH (And.intro @zbu (And.intro @e_slH (And.intro @e_slT (And.intro @zck (And.intro @zbq (And.intro @e_inK (And.intro @e_setD (And.intro @zdi (And.intro @e_dget (And.intro @e_BMT (And.intro @zcm (And.intro @zcx (And.intro @zc5 (@e_glT))))))))))))))))))))))))))))))))))))))))))))))))))))))))))))))))))))))))))))))))))))))))))))))))))))))))))))))
def zj := And.intro @ZL.{0} (And.intro @List.length_nil.{0} (And.intro @Nat.zero_add (And.intro @YO.{0} (And.intro @List.replicate_zero.{0} (And.intro @List.drop_succ_cons.{0} (And.intro @List.drop_zero.{0} (And.intro @Int.zero_add (And.intro @List.getElem?_cons_zero.{0} (And.intro @List.getElem?_cons_succ.{0} (And.intro @List.set_cons_zero.{0} (And.intro @YT.{0} (And.intro @Option.some.injEq.{0} (And.intro @V.int.injEq (And.intro @V.ref.injEq (And.intro @V.bl.injEq (And.intro @V.ty.injEq (And.intro @V.str.injEq (And.intro @List.cons.injEq.{0} (And.intro @Yo.{0} (And.intro @Yd.{0} (And.intro @YJ.{0} (And.intro @exists_eq.{1} (And.intro @exists_eq'.{1} (And.intro @exists_eq_left.{1} (And.intro @exists_eq_left'.{1} (And.intro @exists_and_left.{1} (And.intro @exists_and_right.{1} (And.intro @and_assoc (And.intro @true_and (@and_true))))))))))))))))))))))))))))))
def top (i : Nat) : Stmt := PySem.Challenge.pw_trueword_k67_no_rule.main.body.getD i (.Pass ⟨0, 0, 0, 0⟩)
abbrev rn : Stmt := top 13
theorem df : z3 ["thing"] ["thing"] (zf rn) := ⟨rfl, rfl, rfl, by decide +kernel, rfl, by decide +kernel, by decide +kernel⟩
abbrev ui : Stmt := top 14
theorem im : z3 ["thing"] ["thing"] (zf ui) := ⟨rfl, rfl, rfl, by decide +kernel, rfl, by decide +kernel, by decide +kernel⟩
abbrev vk : Stmt := top 15
theorem jk : z3 ["thing", "width"] ["thing", "width"] (zf vk) := ⟨rfl, rfl, rfl, by decide +kernel, rfl, by decide +kernel, by decide +kernel⟩
abbrev ph : Stmt := top 21
theorem br : z3 ["thing"] ["thing"] (zf ph) := ⟨rfl, rfl, rfl, by decide +kernel, rfl, by decide +kernel, by decide +kernel⟩
abbrev ux : Stmt := top 22
theorem g8 : z3 ["thing", "most"] ["thing", "most"] (zf ux) := ⟨rfl, rfl, rfl, by decide +kernel, rfl, by decide +kernel, by decide +kernel⟩
abbrev ub : Stmt := top 23
theorem ii : z3 ["thing", "height", "width"] ["thing", "height", "width"] (zf ub) := ⟨rfl, rfl, rfl, by decide +kernel, rfl, by decide +kernel, by decide +kernel⟩
abbrev qy : Stmt := top 24
theorem ag : z3 ["thing", "width"] ["thing", "width"] (zf qy) := ⟨rfl, rfl, rfl, by decide +kernel, rfl, by decide +kernel, by decide +kernel⟩
abbrev sk : Stmt := top 25
theorem jc : z3 ["hand"] ["hand"] (zf sk) := ⟨rfl, rfl, rfl, by decide +kernel, rfl, by decide +kernel, by decide +kernel⟩
abbrev ue : Stmt := top 26
theorem m6 : z3 ["hands"] ["hands"] (zf ue) := ⟨rfl, rfl, rfl, by decide +kernel, rfl, by decide +kernel, by decide +kernel⟩
abbrev wa : Stmt := top 27
theorem qm : z3 ["hand"] ["hand"] (zf wa) := ⟨rfl, rfl, rfl, by decide +kernel, rfl, by decide +kernel, by decide +kernel⟩
abbrev wp : Stmt := top 28
theorem mz : z3 ["hand"] ["hand"] (zf wp) := ⟨rfl, rfl, rfl, by decide +kernel, rfl, by decide +kernel, by decide +kernel⟩
abbrev wx : Stmt := top 29
theorem sc_count_of_rows : z3 ["hands", "count", "hand"] ["hands"] (zf wx) := ⟨rfl, rfl, rfl, by decide +kernel, rfl, by decide +kernel, by decide +kernel⟩
abbrev vo : Stmt := top 30
theorem ji : z3 ["outcomes", "hands"] ["outcomes", "hands"] (zf vo) := ⟨rfl, rfl, rfl, by decide +kernel, rfl, by decide +kernel, by decide +kernel⟩
abbrev vh : Stmt := top 31
theorem sc_kept_hand : z3 ["hand", "worths"] ["hand"] (zf vh) := ⟨rfl, rfl, rfl, by decide +kernel, rfl, by decide +kernel, by decide +kernel⟩
abbrev ua : Stmt := top 32
theorem ll : z3 ["outcomes", "hands"] ["outcomes", "hands"] (zf ua) := ⟨rfl, rfl, rfl, by decide +kernel, rfl, by decide +kernel, by decide +kernel⟩
abbrev vj : Stmt := top 33
theorem jg : z3 ["house"] ["house"] (zf vj) := ⟨rfl, rfl, rfl, by decide +kernel, rfl, by decide +kernel, by decide +kernel⟩
abbrev rf : Stmt := top 34
theorem e8 : z3 ["house"] ["house"] (zf rf) := ⟨rfl, rfl, rfl, by decide +kernel, rfl, by decide +kernel, by decide +kernel⟩
abbrev va : Stmt := top 39
theorem kg : z3 ["told"] ["told"] (zf va) := ⟨rfl, rfl, rfl, by decide +kernel, rfl, by decide +kernel, by decide +kernel⟩
abbrev rj : Stmt := top 40
theorem e7 : z3 ["told"] ["told"] (zf rj) := ⟨rfl, rfl, rfl, by decide +kernel, rfl, by decide +kernel, by decide +kernel⟩
abbrev pp : Stmt := top 41
theorem av : z3 ["words", "place"] ["words", "place"] (zf pp) := ⟨rfl, rfl, rfl, by decide +kernel, rfl, by decide +kernel, by decide +kernel⟩
abbrev tj : Stmt := top 42
theorem sc_read_says : z3 ["house", "name", "word", "names", "k"] ["house", "name", "word"] (zf tj) := ⟨rfl, rfl, rfl, by decide +kernel, rfl, by decide +kernel, by decide +kernel⟩
abbrev up : Stmt := top 43
theorem ik : z3 ["house", "figure", "word"] ["house", "figure", "word"] (zf up) := ⟨rfl, rfl, rfl, by decide +kernel, rfl, by decide +kernel, by decide +kernel⟩
abbrev wq : Stmt := top 44
theorem sc_read_condition : z3 ["house", "words", "place", "kind", "told", "one", "other"] ["house", "words", "place"] (zf wq) := ⟨rfl, rfl, rfl, by decide +kernel, rfl, by decide +kernel, by decide +kernel⟩
abbrev tf : Stmt := top 45
theorem gh : z3 ["house", "words"] ["house", "words"] (zf tf) := ⟨rfl, rfl, rfl, by decide +kernel, rfl, by decide +kernel, by decide +kernel⟩
abbrev vp : Stmt := top 46
theorem sc_read_clause : z3 ["house", "words", "told"] ["house", "words"] (zf vp) := ⟨rfl, rfl, rfl, by decide +kernel, rfl, by decide +kernel, by decide +kernel⟩
abbrev uk : Stmt := top 47
theorem sc_clauses_in : z3 ["text", "clauses"] ["text"] (zf uk) := ⟨rfl, rfl, rfl, by decide +kernel, rfl, by decide +kernel, by decide +kernel⟩
abbrev tm : Stmt := top 48
theorem sc_read_rule : z3 ["house", "text", "clauses", "rule"] ["house", "text"] (zf tm) := ⟨rfl, rfl, rfl, by decide +kernel, rfl, by decide +kernel, by decide +kernel⟩
abbrev wc : Stmt := top 49
theorem sc_condition_words : z3 ["house", "condition", "kind", "words", "part"] ["house", "condition"] (zf wc) := ⟨rfl, rfl, rfl, by decide +kernel, rfl, by decide +kernel, by decide +kernel⟩
abbrev vm : Stmt := top 50
theorem jn : z3 ["house", "condition", "outcome"] ["house", "condition", "outcome"] (zf vm) := ⟨rfl, rfl, rfl, by decide +kernel, rfl, by decide +kernel, by decide +kernel⟩
abbrev mv : Stmt := top 51
theorem zcj : z3 ["house", "rule"] ["house", "rule"] (zf mv) := ⟨rfl, rfl, rfl, by decide +kernel, rfl, by decide +kernel, by decide +kernel⟩
abbrev vn : Stmt := top 53
theorem jq : z3 ["script", "k"] ["script", "k"] (zf vn) := ⟨rfl, rfl, rfl, by decide +kernel, rfl, by decide +kernel, by decide +kernel⟩
abbrev z7 : Stmt := top 54
theorem sc_law_pool : z3 ["cell", "many", "letters", "number", "filler", "some", "begin", "step", "size", "place", "front", "back"] ["cell", "many"] (zf z7) := ⟨rfl, rfl, rfl, by decide +kernel, rfl, by decide +kernel, by decide +kernel⟩
abbrev tu : Stmt := top 55
theorem sc_law_parts : z3 ["script", "shape", "outcomes", "names", "hands", "j", "size", "words"] ["script"] (zf tu) := ⟨rfl, rfl, rfl, by decide +kernel, rfl, by decide +kernel, by decide +kernel⟩
abbrev rg : Stmt := top 56
theorem sc_law_rows : z3 ["hands", "rows", "hand", "grown", "row"] ["hands"] (zf rg) := ⟨rfl, rfl, rfl, by decide +kernel, rfl, by decide +kernel, by decide +kernel⟩
abbrev qb : Stmt := top 57
theorem sc_law_leaf : z3 ["cell", "hands", "rows", "k", "word", "n", "truths"] ["cell", "hands", "rows"] (zf qb) := ⟨rfl, rfl, rfl, by decide +kernel, rfl, by decide +kernel, by decide +kernel⟩
abbrev um : Stmt := top 58
theorem sc_law_joined : z3 ["head", "one", "other", "truths", "j"] ["head", "one", "other"] (zf um) := ⟨rfl, rfl, rfl, by decide +kernel, rfl, by decide +kernel, by decide +kernel⟩
abbrev xz : Stmt := top 59
theorem sc_law_step : z3 ["stack", "cell", "hands", "rows", "way", "one"] ["stack", "cell", "hands", "rows"] (zf xz) := ⟨rfl, rfl, rfl, by decide +kernel, rfl, by decide +kernel, by decide +kernel⟩
abbrev vq : Stmt := top 60
theorem sc_law_clauses : z3 ["script", "outcomes", "hands", "rows", "clauses", "stack", "signs", "cell", "condition", "words", "truths", "outcome"] ["script", "outcomes", "hands", "rows"] (zf vq) := ⟨rfl, rfl, rfl, by decide +kernel, rfl, by decide +kernel, by decide +kernel⟩
abbrev ze : Stmt := top 61
theorem sc_law_spoiled : z3 ["text", "cell", "number", "way", "place", "signs", "sign", "words", "k", "some"] ["text", "cell"] (zf ze) := ⟨rfl, rfl, rfl, by decide +kernel, rfl, by decide +kernel, by decide +kernel⟩
abbrev q8 : Stmt := top 62
theorem bn : z3 ["hands", "word"] ["hands", "word"] (zf q8) := ⟨rfl, rfl, rfl, by decide +kernel, rfl, by decide +kernel, by decide +kernel⟩
abbrev rp : Stmt := top 63
theorem dc : z3 ["hands", "name", "word"] ["hands", "name", "word"] (zf rp) := ⟨rfl, rfl, rfl, by decide +kernel, rfl, by decide +kernel, by decide +kernel⟩
abbrev uq : Stmt := top 64
theorem sc_law_behind : z3 ["hands", "words", "place", "wanted", "three"] ["hands", "words"] (zf uq) := ⟨rfl, rfl, rfl, by decide +kernel, rfl, by decide +kernel, by decide +kernel⟩
abbrev rh : Stmt := top 65
theorem sc_law_good : z3 ["outcomes", "hands", "text", "pieces", "k", "words"] ["outcomes", "hands", "text"] (zf rh) := ⟨rfl, rfl, rfl, by decide +kernel, rfl, by decide +kernel, by decide +kernel⟩
abbrev qx : Stmt := top 66
theorem sc_law : z3 ["script", "outcomes", "hands", "house", "clauses", "text", "found", "kinds", "e"] ["script"] (zf qx) := ⟨rfl, rfl, rfl, by decide +kernel, rfl, by decide +kernel, by decide +kernel⟩
structure Bt (mg : Str -> Option Value) : Prop where
  «ValueError» : mg "ValueError" = none
  «abs» : mg "abs" = none
  «all» : mg "all" = none
  «any» : mg "any" = none
  «bool» : mg "bool" = none
  «int» : mg "int" = none
  «isinstance» : mg "isinstance" = none
  «len» : mg "len" = none
  «list» : mg "list" = none
  «max» : mg "max" = none
  «range» : mg "range" = none
  «set» : mg "set" = none
  «str» : mg "str" = none
  «tuple» : mg "tuple" = none
  k_MOST_WORDS : ∃ t, mg "MOST_WORDS" = some (Value.int 8 t)
  k_MOST_LETTERS : ∃ t, mg "MOST_LETTERS" = some (Value.int 8 t)
  k_MOST_OUTCOMES : ∃ t, mg "MOST_OUTCOMES" = some (Value.int 8 t)
  k_MOST_HANDS : ∃ t, mg "MOST_HANDS" = some (Value.int 4 t)
  k_MOST_ROWS : ∃ t, mg "MOST_ROWS" = some (Value.int 256 t)
  k_MOST_CLAUSES : ∃ t, mg "MOST_CLAUSES" = some (Value.int 20 t)
  k_MOST_CLAUSE_WORDS : ∃ t, mg "MOST_CLAUSE_WORDS" = some (Value.int 40 t)
structure Ad where
  NoHouse : Addr
  NoRule : Addr
  TrueError : Addr
  NoWord : Addr
  NoWeight : Addr
  NoStand : Addr
  NoShare : Addr
  NoRow : Addr
  NoPays : Addr
  NoMenu : Addr
structure Ct (K : Fg) (mg : Str -> Option Value) (a : Ad) : Prop where
  m_NoHouse : mg "NoHouse" = some (.ref a.NoHouse)
  q_NoHouse : ErrQ K a.NoHouse
  m_NoRule : mg "NoRule" = some (.ref a.NoRule)
  q_NoRule : ErrQ K a.NoRule
  v_NoRule : PySem.W.kitOne K (.ref a.NoRule) (.type "ValueError") = some true
  m_TrueError : mg "TrueError" = some (.ref a.TrueError)
  q_TrueError : ErrQ K a.TrueError
  m_NoWord : mg "NoWord" = some (.ref a.NoWord)
  m_NoWeight : mg "NoWeight" = some (.ref a.NoWeight)
  m_NoStand : mg "NoStand" = some (.ref a.NoStand)
  m_NoShare : mg "NoShare" = some (.ref a.NoShare)
  m_NoRow : mg "NoRow" = some (.ref a.NoRow)
  m_NoPays : mg "NoPays" = some (.ref a.NoPays)
  m_NoMenu : mg "NoMenu" = some (.ref a.NoMenu)
  t_COUNTS : ae K mg "COUNTS" [.str (Str.ofString "1"), .str (Str.ofString "2"), .str (Str.ofString "3"), .str (Str.ofString "4")]
  k_NoRule_NoHouse : PySem.W.kitOne K (.ref a.NoRule) (.ref a.NoHouse) = some false
  s_NoRule_NoRule : PySem.W.mroIn K a.NoRule (.ref a.NoRule) = some true
  k_NoRule_NoRule : PySem.W.kitOne K (.ref a.NoRule) (.ref a.NoRule) = some true
  s_NoRule_TrueError : PySem.W.mroIn K a.NoRule (.ref a.TrueError) = some true
  k_NoRule_TrueError : PySem.W.kitOne K (.ref a.NoRule) (.ref a.TrueError) = some true
  k_NoRule_NoWord : PySem.W.kitOne K (.ref a.NoRule) (.ref a.NoWord) = some false
  k_NoRule_NoWeight : PySem.W.kitOne K (.ref a.NoRule) (.ref a.NoWeight) = some false
  k_NoRule_NoStand : PySem.W.kitOne K (.ref a.NoRule) (.ref a.NoStand) = some false
  k_NoRule_NoShare : PySem.W.kitOne K (.ref a.NoRule) (.ref a.NoShare) = some false
  k_NoRule_NoRow : PySem.W.kitOne K (.ref a.NoRule) (.ref a.NoRow) = some false
  k_NoRule_NoPays : PySem.W.kitOne K (.ref a.NoRule) (.ref a.NoPays) = some false
  k_NoRule_NoMenu : PySem.W.kitOne K (.ref a.NoRule) (.ref a.NoMenu) = some false
structure NewGrid (H H' : Hp) (b : Addr) (bs : List Addr) (rows : List (List Int)) (k n : Nat) : Prop where
  same : Same H H'
  nb : H b = none
  nr : ∀ r ∈ bs, H r = none
  nd : bs.Nodup
  ne : b ∉ bs
  at' : H' b = some (.lst (bs.map V.ref))
  lb : bs.length = k
  lr : rows.length = k
  row : ∀ (i : Nat) (r : Addr) (ns : List Int), bs[i]? = some r -> rows[i]? = some ns -> H' r = some (.lst (ns.map V.int)) /\ ns.length = n
theorem NewGrid.grid {K : Fg} {H H' : Hp} {b : Addr} {bs : List Addr} {rows : List (List Int)} {k n : Nat} (g : NewGrid H H' b bs rows k n) : GridL K H' b bs rows :=
  ⟨.of g.at', g.lb.trans g.lr.symm, fun i r ns e1 e2 => .of (g.row i r ns e1 e2).1⟩
theorem Same.upd {H H' : Hp} (s : Same H H') {a : Addr} {o : HO} (n : H a = none) : Same H (upd H' a o) := fun b u e => by
  rw [zy (xf e n)]; exact s b u e
theorem NewGrid.nil {H H' : Hp} {b : Addr} {n : Nat} (s : Same H H') (nb : H' b = none) : NewGrid H (upd H' b (.lst [])) b [] [] 0 n :=
  ⟨Same.upd s (s.free nb), s.free nb, (fun _ z => nomatch z), List.nodup_nil, (fun z => nomatch z), zc, rfl, rfl, (fun i r ns e => by simp at e)⟩
theorem NewGrid.laid {H H' : Hp} {b c : Addr} {bs : List Addr} {rows : List (List Int)} {k n : Nat} {o : HO} (g : NewGrid H H' b bs rows k n) (nc : H' c = none) : NewGrid H (L2.upd H' c o) b bs rows k n :=
  ⟨Same.upd g.same (g.same.free nc), g.nb, g.nr, g.nd, g.ne, by rw [zy (xf g.at' nc)]; exact g.at', g.lb, g.lr, fun i r ns e1 e2 => by
    obtain ⟨q, l⟩ := g.row i r ns e1 e2
    exact ⟨by rw [zy (xf q nc)]; exact q, l⟩⟩
theorem NewGrid.snoc {H H' : Hp} {b c : Addr} {bs : List Addr} {rows : List (List Int)} {k n : Nat} {ns : List Int} (g : NewGrid H H' b bs rows k n) (hn : H c = none) (hc : H' c = some (.lst (ns.map V.int))) (hl : ns.length = n) (hb : c ∉ bs) (hcb : c ≠ b) :
    NewGrid H (L2.upd H' b (.lst (bs.map V.ref ++ [.ref c]))) b (bs ++ [c]) (rows ++ [ns]) (k + 1) n := by
  refine ⟨Same.upd g.same g.nb, g.nb, fun r hr => ?_, ?_, ?_, ?_, by rw [Zo, g.lb]; rfl, by rw [Zo, g.lr]; rfl, fun i r ms e1 e2 => ?_⟩
  . rcases ZH.mp hr with z | z
    . exact g.nr r z
    . rw [ZC.mp z]; exact hn
  . refine List.nodup_append.mpr ⟨g.nd, by simp, fun x hx y hy => ?_⟩
    rw [ZC.mp hy]
    rintro rfl
    exact hb hx
  . intro z
    rcases ZH.mp z with z | z
    . exact g.ne z
    . exact hcb (ZC.mp z).symm
  . rw [zc, Zn]; rfl
  . have nb' : ∀ r, r ∈ bs ++ [c] -> r ≠ b := fun r hr => by
      rcases ZH.mp hr with z | z
      . rintro rfl; exact g.ne z
      . rw [ZC.mp z]; exact hcb
    have hr : r ∈ bs ++ [c] := Zi e1;rw [zy (nb' r hr)]
    by_cases hi : i < bs.length
    . rw [Zg hi] at e1
      rw [Zg (by rw [g.lr, <- g.lb]; exact hi)] at e2;exact g.row i r ms e1 e2
    . have hi' : bs.length <= i := ZD.mp hi
      rw [Zf hi'] at e1;rw [Zf (by rw [g.lr, <- g.lb]; exact hi')] at e2
      have e0 : i - bs.length = 0 := by
        have := (Zc.mp e1).1;simp at this; omega
      rw [e0] at e1;have e0' : i - rows.length = 0 := by rw [g.lr, <- g.lb]; exact e0
      rw [e0'] at e2;simp at e1 e2;subst e1 e2;exact ⟨hc, hl⟩
theorem NewGrid.put {H H' : Hp} {b c : Addr} {bs : List Addr} {rows : List (List Int)} {k n j i : Nat} {ns : List Int} {v : Int} (g : NewGrid H H' b bs rows k n) (hi : bs[i]? = some c) (hr : rows[i]? = some ns) :
    NewGrid H (L2.upd H' c (.lst ((ns.map V.int).set j (.int v)))) b bs (rows.set i (ns.set j v)) k n := by
  have hm : c ∈ bs := Zi hi;have hcb : b ≠ c := by rintro rfl; exact g.ne hm
  refine ⟨Same.upd g.same (g.nr c hm), g.nb, g.nr, g.nd, g.ne, by rw [zy hcb]; exact g.at', g.lb, by rw [Xa]; exact g.lr, fun i' r ms e1 e2 => ?_⟩
  by_cases e : i' = i
  . subst e
    rw [hi] at e1; cases e1;rw [ZZ (Zc.mp hr).1] at e2;cases e2;refine ⟨by rw [zc, List.map_set], ?_⟩;rw [Xa];exact (g.row _ c ns hi hr).2
  . have hrc : r ≠ c := by
      rintro rfl
      obtain ⟨h1, e1'⟩ := Zc.mp e1;obtain ⟨h2, e2'⟩ := Zc.mp hi;exact e ((YC g.nd).mp (e1'.trans e2'.symm))
    rw [Yc (Ne.symm e)] at e2;rw [zy hrc];exact g.row i' r ms e1 e2
theorem NewGrid.trans {H H1 H' : Hp} {b : Addr} {bs : List Addr} {rows : List (List Int)} {k n : Nat} (s : Same H H1) (g : NewGrid H1 H' b bs rows k n) : NewGrid H H' b bs rows k n :=
  ⟨s.trans g.same, s.free g.nb, fun r hr => s.free (g.nr r hr), g.nd, g.ne, g.at', g.lb, g.lr, g.row⟩
def kz (K : Fg) : Sp := fun vs H Q _ => ∃ (a : Addr) (ns : List Int) (k : Int), vs = [.ref a, .int k] /\ SqL K H a (ns.map V.int) /\ 0 <= k /\ ∀ v : Int, Q (.int v) H
def ad (K : Fg) : Sp := fun vs H Q _ => ∃ (a : Addr) (ns : List Int), vs = [.ref a] /\ SqL K H a (ns.map V.int) /\ ns.length <= 63 /\ ∀ H', Q (.bl true) H'
theorem dt {n j : Nat} (h : j < n) : ixN n (j : Int) = some j := by
  unfold ixN;rw [if_pos (by omega), if_pos (by omega)];simp
theorem ax {K : Fg} {f : Addr} {fd : FuncData} (F : Fun K "law" "law" qx f fd) (s : Shared) (u : Value) : BindsTo s fd ⟨[u], []⟩ [("script", u)] := by
  obtain ⟨oc, od, kV, doc, pm, an, cdv, ct, osl, rfl, lk, hcd⟩ := F.ex;exact .of_eq rfl
structure Copy (H1 H2 : Hp) (rows : List (List Int)) (i : Nat) (cs : List Addr) : Prop where
  same : Same H1 H2
  len : cs.length = i
  row : ∀ (j : Nat) (c : Addr) (ns : List Int), cs[j]? = some c -> rows[j]? = some ns -> H2 c = some (.lst (ns.map V.int))
theorem Copy.snoc {H1 H2 : Hp} {rows : List (List Int)} {i : Nat} {cs : List Addr} {l : Addr} {ns : List Int} (C : Copy H1 H2 rows i cs) (hl : H2 l = none) (e : rows[i]? = some ns) : Copy H1 (upd H2 l (.lst (ns.map V.int))) rows (i + 1) (cs ++ [l]) := by
  refine ⟨Same.upd C.same (C.same.free hl), by rw [Zo, C.len]; rfl, fun j c ms e1 e2 => ?_⟩
  by_cases hj : j < cs.length
  . rw [Zg hj] at e1
    have q := C.row j c ms e1 e2;rw [zy (xf q hl)]; exact q
  . have hj' : cs.length <= j := ZD.mp hj
    rw [Zf hj'] at e1
    have h0 : j - cs.length = 0 := by
      have := (Zc.mp e1).1;simp at this; omega
    rw [h0] at e1;simp at e1;subst e1;have hji : j = i := by rw [<- C.len]; omega
    subst hji;rw [e] at e2; cases e2;exact zc
theorem GridL.mono {K : Fg} {H H' : Hp} {g : Addr} {as : List Addr} {rows : List (List Int)} (S : Same H H') (G : GridL K H g as rows) : GridL K H' g as rows := ⟨S.seq G.1, G.2.1, fun i r ns e1 e2 => S.seq (G.2.2 i r ns e1 e2)⟩
theorem NewGrid.width {H H' : Hp} {b : Addr} {bs : List Addr} {rows : List (List Int)} {n : Nat} (G : NewGrid H H' b bs rows n n) : ∀ i : Nat, i < n -> ∃ ns : List Int, rows[i]? = some ns /\ ns.length = n := fun i hi => by
  have hr2 : i < rows.length := by rw [G.lr]; exact hi
  have hb2 : i < bs.length := by rw [G.lb]; exact hi
  exact ⟨rows[i], by simp [hr2], (G.row i bs[i] rows[i] (by simp [hb2]) (by simp [hr2])).2⟩
theorem zbz {ms : List Int} {i : Nat} {x : V} (hx : (ms.map V.int)[i]? = some x) : ∃ r, ms[i]? = some r /\ x = V.int r := by
  rw [Ze] at hx
  cases e : ms[i]? with
  | none => rw [e] at hx; cases hx
  | some r => rw [e] at hx; cases hx; exact ⟨r, rfl, rfl⟩
inductive Cd where
  | says (k : Nat) (w : Str)
  | count (n : Nat) (w : Str)
  | no (c : Cd)
  | an (c d : Cd)
  | orr (c d : Cd)
def dep : Cd -> Nat
  | .says _ _ => 0
  | .count _ _ => 0
  | .no c => dep c + 1
  | .an c d => max (dep c) (dep d) + 1
  | .orr c d => max (dep c) (dep d) + 1
def fit (n : Nat) : Cd -> Prop
  | .says k _ => k < n
  | .count _ _ => True
  | .no c => fit n c
  | .an c d => fit n c /\ fit n d
  | .orr c d => fit n c /\ fit n d
def ev (r : List Str) : Cd -> Bool
  | .says k w => decide (r[k]? = some w)
  | .count n w => decide ((n : Int) <= ((r.map V.str).countP fun z => eqV z (V.str w) : Nat))
  | .no c => !ev r c
  | .an c d => ev r c && ev r d
  | .orr c d => ev r c || ev r d
def CondAt (H : Hp) : Cd -> V -> Prop
  | .says k w, v => ∃ t, v = .ref t /\ H t = some (.tup [.str (Str.ofString "says"), .int k, .str w])
  | .count n w, v => ∃ t, v = .ref t /\ H t = some (.tup [.str (Str.ofString "count"), .int n, .str w])
  | .no c, v => ∃ t x, v = .ref t /\ H t = some (.tup [.str (Str.ofString "not"), x]) /\ CondAt H c x
  | .an c d, v => ∃ t x y, v = .ref t /\ H t = some (.tup [.str (Str.ofString "and"), x, y]) /\ CondAt H c x /\ CondAt H d y
  | .orr c d, v => ∃ t x y, v = .ref t /\ H t = some (.tup [.str (Str.ofString "or"), x, y]) /\ CondAt H c x /\ CondAt H d y
theorem CondAt.mono {H H' : Hp} (S : Same H H') : ∀ {c : Cd} {v : V}, CondAt H c v -> CondAt H' c v
  | .says _ _, _, h => by obtain ⟨t, e, h⟩ := h; exact ⟨t, e, S _ _ h⟩
  | .count _ _, _, h => by obtain ⟨t, e, h⟩ := h; exact ⟨t, e, S _ _ h⟩
  | .no _, _, h => by obtain ⟨t, x, e, h, h1⟩ := h; exact ⟨t, x, e, S _ _ h, CondAt.mono S h1⟩
  | .an _ _, _, h => by obtain ⟨t, x, y, e, h, h1, h2⟩ := h; exact ⟨t, x, y, e, S _ _ h, CondAt.mono S h1, CondAt.mono S h2⟩
  | .orr _ _, _, h => by obtain ⟨t, x, y, e, h, h1, h2⟩ := h; exact ⟨t, x, y, e, S _ _ h, CondAt.mono S h1, CondAt.mono S h2⟩
theorem wm (zs : List Str) : (zs.map V.str).all yx = true := by
  rw [ZQ];intro x hx;obtain ⟨z, _, rfl⟩ := Zp.mp hx;rfl
section
variable {P : Program} {w : World} {K : Fg} {mg : Str -> Option Value} {base : Heap}
end
structure HX where
  t : Addr
  w : Addr
  g : Addr
  gs : List Addr
structure HD where
  name : Str
  words : List Str
  worths : List (List Int)
structure HandAt (H : Hp) (x : HX) (d : HD) : Prop where
  tup : H x.t = some (.tup [.str d.name, .ref x.w, .ref x.g])
  words : H x.w = some (.lst (d.words.map V.str))
  grid : H x.g = some (.lst (x.gs.map V.ref))
  len : x.gs.length = d.worths.length
  row : ∀ (i : Nat) (r : Addr) (ns : List Int), x.gs[i]? = some r -> d.worths[i]? = some ns -> H r = some (.lst (ns.map V.int))
theorem HandAt.mono {H H' : Hp} {x : HX} {d : HD} (S : Same H H') (h : HandAt H x d) : HandAt H' x d :=
  ⟨S _ _ h.tup, S _ _ h.words, S _ _ h.grid, h.len, fun i r ns e1 e2 => S _ _ (h.row i r ns e1 e2)⟩
def GoodN (z : Str) : Prop := 1 <= z.length /\ z.length <= 8 /\ ∀ c ∈ z.cps.toList, 97 <= c /\ c <= 122
theorem ja {z : Str} {n c : Nat} (h : c ∈ (xj z n).cps.toList) : c ∈ z.cps.toList := by
  unfold xj at h;simp only [YQ, List.mem_flatten] at h;obtain ⟨l, h1, h2⟩ := h;rw [(List.mem_replicate.mp h1).2] at h2;exact h2
theorem m7 {y z : Str} {c : Nat} (h : c ∈ (y ++ z).cps.toList) : c ∈ y.cps.toList \/ c ∈ z.cps.toList := by
  have : (y ++ z).cps.toList = y.cps.toList ++ z.cps.toList := by
    show (y.cps ++ z.cps).toList = _
    simp
  rw [this] at h;exact ZH.mp h
theorem zc2 {x y : Str} {n : Nat} {a b : Nat} (f : Str) (h : xj f n ++ chr1 a ++ x = xj f n ++ chr1 b ++ y) : a = b := by
  have h1 : (xj f n ++ chr1 a ++ x).cps.toList = (xj f n ++ chr1 b ++ y).cps.toList := by rw [h]
  have e : ∀ (z : Str) (a : Nat), (xj f n ++ chr1 a ++ z).cps.toList = (xj f n).cps.toList ++ ([a] ++ z.cps.toList) := fun z a => by
    show (((xj f n).cps ++ (chr1 a).cps) ++ z.cps).toList = _
    simp [chr1]
  rw [e, e] at h1;have := List.append_cancel_left h1;simp at this;exact this.1
def strT (z : Str) : Tr := .lf (.str z)
def intT (i : Int) : Tr := .lf (.int i)
def rowT (ns : List Int) : Tr := .tp (ns.map intT)
def ac (d : HD) : Tr := .tp [strT d.name, .tp (d.words.map strT), .tp (d.worths.map rowT)]
def houseT (outs : List Str) (ds : List HD) : Tr := .tp [.tp (outs.map strT), .tp (ds.map ac)]
structure HandsL (H : Hp) (b : Addr) (xs : List HX) (ds : List HD) : Prop where
  at' : H b = some (.lst (xs.map fun x => V.ref x.t))
  len : xs.length = ds.length
  hand : ∀ (i : Nat) (x : HX) (d : HD), xs[i]? = some x -> ds[i]? = some d -> HandAt H x d
theorem HandsL.mono {H H' : Hp} {b : Addr} {xs : List HX} {ds : List HD} (S : Same H H') (g : HandsL H b xs ds) : HandsL H' b xs ds := ⟨S _ _ g.at', g.len, fun i x d e1 e2 => (g.hand i x d e1 e2).mono S⟩
theorem js {K : Fg} {H : Hp} : ∀ (zs : List Str), TrsAt K H (zs.map strT) (zs.map V.str)
  | [] => TrsAt.nil
  | z :: zs => TrsAt.cons (TrAt.lf rfl) (js zs)
theorem cg {K : Fg} {H : Hp} : ∀ (zs : List Int), TrsAt K H (zs.map intT) (zs.map V.int)
  | [] => TrsAt.nil
  | z :: zs => TrsAt.cons (TrAt.lf rfl) (cg zs)
def PvD (K : Fg) (ds : List HD) (H1 : Hp) (i : Nat) (ys : List V) (H' : Hp) : Prop := Same H1 H' /\ ys.length = i /\ TrsAt K H' ((ds.take i).map ac) ys
def PvE (K : Fg) (rows : List (List Int)) (H1 : Hp) (i : Nat) (ys : List V) (H' : Hp) : Prop := Same H1 H' /\ ys.length = i /\ TrsAt K H' ((rows.take i).map rowT) ys
structure GoodHouse (outs : List Str) (ds : List HD) : Prop where
  outs1 : 1 <= outs.length /\ outs.length <= 8
  outsG : ∀ z ∈ outs, GoodN z
  outsD : outs.Nodup
  hands : 1 <= ds.length /\ ds.length <= 4
  handsG : ∀ d ∈ ds, GoodN d.name
  handsD : (ds.map HD.name).Nodup
  words1 : ∀ d ∈ ds, 1 <= d.words.length /\ d.words.length <= 8
  wordsG : ∀ d ∈ ds, ∀ z ∈ d.words, GoodN z
  wordsD : ∀ d ∈ ds, d.words.Nodup
  rows : ∀ d ∈ ds, d.worths.length = d.words.length
  cols : ∀ d ∈ ds, ∀ r ∈ d.worths, r.length = outs.length
  nums : ∀ d ∈ ds, ∀ r ∈ d.worths, ∀ n ∈ r, -(10 ^ 60) < n /\ n < 10 ^ 60
  few : (ds.map fun d => d.words.length).prod <= 256
def zcz (K : Fg) : Sp := fun vs H Q _ => ∃ (o b : Addr) (outs : List Str) (xs : List HX) (ds : List HD), vs = [.ref o, .ref b] /\ H o = some (.lst (outs.map V.str)) /\ HandsL H b xs ds /\ GoodHouse outs ds /\
  ∀ H' p us, Same H H' -> H' p = some (.tup us) -> TrAt K H' (houseT outs ds) (.ref p) -> Q (.ref p) H'
theorem zc0 {n t : Nat} : ∀ {l : List Nat}, (∀ x ∈ l, x <= t) -> l.length = n -> l.prod <= t ^ n := by
  induction n with
  | zero => intro l _ hl; rw [List.length_eq_zero_iff.mp hl]; simp
  | succ n ih =>
    intro l h hl
    match l, hl with
    | x :: l, hl =>
      rw [List.prod_cons, Nat.pow_succ, Nat.mul_comm];exact YR (ih (fun y hy => h y (Zv _ hy)) (by simpa using hl)) (h x ZA)
def iw (i : Int) : Prop := -(10 ^ 60) < i /\ i < 10 ^ 60
def zaz : Sp := fun vs H Q _ => ∃ i : Int, vs = [.int i] /\ Q (.bl true) H
def za2 : Sp := fun vs H Q _ => ∃ i : Int, vs = [.int i] /\ iw i /\ Q (.bl true) H
def qRow : Sp := fun vs H Q _ => ∃ (r : Addr) (ns : List Int) (n : Nat), vs = [.ref r, .int n] /\ H r = some (.lst (ns.map V.int)) /\ ns.length = n /\ n <= 8 /\ (∀ i ∈ ns, iw i) /\ ∀ H', Same H H' -> Q (.bl true) H'
def bx : Sp := fun vs H Q _ => ∃ z : Str, vs = [.str z] /\ GoodN z /\ ∀ H', Same H H' -> Q (.bl true) H'
def gv : Sp := fun vs H Q _ => ∃ (l : Addr) (zs : List Str) (m : Nat), vs = [.ref l, .int m] /\ H l = some (.lst (zs.map V.str)) /\ 1 <= zs.length /\ zs.length <= m /\ m <= 8 /\ (∀ z ∈ zs, GoodN z) /\ zs.Nodup /\ ∀ H', Same H H' -> Q (.bl true) H'
def cz : Sp := fun vs H Q _ => ∃ (g : Addr) (gs : List Addr) (rows : List (List Int)) (h n : Nat), vs = [.ref g, .int h, .int n] /\ H g = some (.lst (gs.map V.ref)) /\ gs.length = h /\ rows.length = h /\ h <= 8 /\ n <= 8 /\ (∀ (i : Nat) (r : Addr) (ns : List Int), gs[i]? = some r -> rows[i]? = some ns -> H r = some (.lst (ns.map V.int))) /\
  (∀ r ∈ rows, r.length = n /\ ∀ i ∈ r, iw i) /\ ∀ H', Same H H' -> Q (.bl true) H'
structure GoodD (d : HD) (n : Nat) : Prop where
  name : GoodN d.name
  words : 1 <= d.words.length /\ d.words.length <= 8
  wordsG : ∀ z ∈ d.words, GoodN z
  wordsD : d.words.Nodup
  rows : d.worths.length = d.words.length
  cols : ∀ r ∈ d.worths, r.length = n /\ ∀ i ∈ r, iw i
theorem GoodHouse.hand {outs : List Str} {ds : List HD} (g : GoodHouse outs ds) {d : HD} (h : d ∈ ds) : GoodD d outs.length :=
  ⟨g.handsG d h, g.words1 d h, g.wordsG d h, g.wordsD d h, g.rows d h, fun r hr => ⟨g.cols d h r hr, fun i hi => g.nums d h r hr i hi⟩⟩
def qHand : Sp := fun vs H Q _ => ∃ (x : HX) (d : HD) (n : Nat), vs = [.ref x.t, .int n] /\ HandAt H x d /\ GoodD d n /\ n <= 8 /\ ∀ H', Same H H' -> Q (.bl true) H'
def uj (f : HX -> HD -> V) : Sp := fun vs H Q _ => ∃ (x : HX) (d : HD), vs = [.ref x.t] /\ HandAt H x d /\ Q (f x d) H
def zad : Sp := fun vs H Q _ => ∃ (b : Addr) (xs : List HX) (ds : List HD), vs = [.ref b] /\ HandsL H b xs ds /\ (∀ d ∈ ds, d.words.length <= 8) /\ ds.length <= 4 /\ Q (.int ((ds.map fun d => d.words.length).prod : Nat)) H
def gg : Sp := fun vs H Q _ => ∃ (o b : Addr) (outs : List Str) (xs : List HX) (ds : List HD), vs = [.ref o, .ref b] /\ H o = some (.lst (outs.map V.str)) /\ HandsL H b xs ds /\ GoodHouse outs ds /\ ∀ H', Same H H' -> Q (.bl true) H'
def qKept (K : Fg) : Sp := fun vs H Q _ => ∃ (x : HX) (d : HD), vs = [.ref x.t] /\ HandAt H x d /\ d.worths.length <= 8 /\ ∀ H' p, Same H H' -> TrAt K H' (ac d) (.ref p) -> Q (.ref p) H'
def allT (n : Nat) : List Bool := List.replicate n true
def PvAT (H : Hp) (i : Nat) (ys : List V) (H' : Hp) : Prop := Same H H' /\ ys = (allT i).map V.bl
theorem sr (n : Nat) : (allT n).map V.bl ++ [V.bl true] = (allT (n + 1)).map V.bl := by
  rw [allT, allT, YK, Zn]; rfl
theorem qv (n : Nat) : (allT n).all id = true := by
  rw [ZQ];intro x hx;exact ZV hx
theorem qu (n : Nat) : ((allT n).map V.bl).length = n := by rw [Za, allT, ZI]
theorem d5 {zs : List Str} (hd : zs.Nodup) : ∀ i, i <= zs.length -> seen (fun j => zs.getD j ⟨#[]⟩) i = zs.take i
  | 0, _ => rfl
  | i + 1, h => by
    have ih := d5 hd i (by omega);have hi : i < zs.length := by omega
    have e : zs.getD i ⟨#[]⟩ = zs[i] := by simp [Zk, hi]
    show (if zs.getD i ⟨#[]⟩ ∈ seen (fun j => zs.getD j ⟨#[]⟩) i then _ else seen (fun j => zs.getD j ⟨#[]⟩) i ++ [zs.getD i ⟨#[]⟩]) = _
    rw [ih, e, if_neg, Zq]
    . simp [hi]
    . intro hm
      obtain ⟨j, hj, ej⟩ := Zy hm;rw [Zj] at hj;rw [List.getElem_take] at ej;have := (YC hd).mp ej;omega
theorem jm : kit0 "str" "str" = some true := by decide +kernel
theorem mn : kit0 "list" "list" = some true := by decide +kernel
theorem zdh : kit0 "tuple" "tuple" = some true := by decide +kernel
theorem zds : kit0 "int" "int" = some true := by decide +kernel
theorem zda : kit0 "int" "bool" = some false := by decide +kernel
theorem zdg {c : Nat} (h1 : 97 <= c) (h2 : c <= 122) : (!decide ((chr1 c).cps.toList < (Str.ofString "a").cps.toList)) = true /\ (!decide ((Str.ofString "z").cps.toList < (chr1 c).cps.toList)) = true := by
  have ea : (Str.ofString "a").cps.toList = [97] := by decide +kernel
  have ez : (Str.ofString "z").cps.toList = [122] := by decide +kernel
  have ec : (chr1 c).cps.toList = [c] := rfl;rw [ea, ez, ec]
  constructor
  . rw [decide_eq_false]
    . rfl
    . intro z
      rw [List.cons_lt_cons_iff] at z
      rcases z with z | ⟨_, z⟩
      . omega
      . exact absurd z (by simp)
  . rw [decide_eq_false]
    . rfl
    . intro z
      rw [List.cons_lt_cons_iff] at z
      rcases z with z | ⟨_, z⟩
      . omega
      . exact absurd z (by simp)
def PvNm (H : Hp) (ds : List HD) (i : Nat) (ys : List V) (H' : Hp) : Prop := H' = H /\ ys = ((ds.take i).map HD.name).map V.str
def PvCt (H : Hp) (b : Addr) (ds : List HD) (i : Nat) (σ : L2.St) (H4 : Hp) : Prop := H4 = H /\ ∃ v, σ = [some (.ref b), some (.int (((ds.take i).map fun d => d.words.length).prod : Nat)), v]
section
variable {P : Program} {w : World} {K : Fg} {mg : Str -> Option Value} {base : Heap} {a : Ad}
theorem o8 (B : Bt mg) (D : zl K mg "is_whole" rn ["thing"]) : FnAt P w K mg base "is_whole" 1 ["thing"] zaz := by
  refine FnAt.of D df (fun vs H Q E h => ?_) (fun f cdv A outer s H vs Q E hr h => ?_)
  . obtain ⟨x, rfl, _⟩ := h
    rfl
  . obtain ⟨x, rfl, q⟩ := h
    refine ⟨_, (@zh _ _ _ (@zt _ _ _ _ (@sj _ _ _ _ _ _ _ (zq xc rfl B.isinstance yj (za (pv 0) (za (ur rfl B.int gf) (@zb _)))) (@si _ _ _ _ _ (@az _ _ _ _ (zq xc rfl B.isinstance yj (za (pv 0) (za (ur rfl B.bool zc3) (@zb _))))))))), ?_⟩;rw [show start ["thing"] [V.int x] = [some (V.int x)] from rfl];simp only [zk, zj, ↓reduceIte];exact ⟨_, .int _, true, zds, iteT ⟨_, .int _, false, zda, q⟩⟩
theorem qo (B : Bt mg) (o8 : FnAt P w K mg base "is_whole" 1 ["thing"] zaz) (D : zl K mg "is_bounded" ui ["thing"]) : FnAt P w K mg base "is_bounded" 2 ["thing"] za2 := by
  refine FnAt.of D im (fun vs H Q E h => ?_) (fun f cdv A outer s H vs Q E hr h => ?_)
  . obtain ⟨x, rfl, _⟩ := h
    rfl
  . obtain ⟨x, rfl, g, q⟩ := h
    refine ⟨_, (@zh _ _ _ (@zt _ _ _ _ (@sj _ _ _ _ _ _ _ (zo o8 (hr.mono (by decide)) rfl (za (pv 0) (@zb _))) (@si _ _ _ _ _ (@xy _ _ _ _ _ _ _ _ pb (zq zcp rfl B.abs bt_abs (za (pv 0) (@zb _))) (@zm _ _ _ _ _ _ _ _ op_pow (@zd _ _ _ _) (@zd _ _ _ _)) (z0 _)))))), ?_⟩;rw [show start ["thing"] [V.int x] = [some (V.int x)] from rfl];simp only [zk, zj, ↓reduceIte];refine ⟨x, rfl, _, rfl, iteT ⟨⟨by decide, by decide, by decide⟩, ?_⟩⟩;rw [decide_eq_true]
    . exact q
    . have h1 := g.1
      have h2 := g.2
      show _ < (10 : Int) ^ 60
      split <;> omega
theorem rc (B : Bt mg) (qo : FnAt P w K mg base "is_bounded" 2 ["thing"] za2) (D : zl K mg "is_grid_row" vk ["thing", "width"]) : FnAt P w K mg base "is_grid_row" 3 ["thing", "width"] qRow := by
  refine FnAt.of D jk (fun vs H Q E h => ?_) (fun f cdv A outer s H vs Q E hr h => ?_)
  . obtain ⟨r, ns, n, rfl, _⟩ := h
    rfl
  . obtain ⟨r, ns, n, rfl, hr1, ln, n8, hg, q⟩ := h
    refine ⟨_, (@zg _ _ _ _ _ (@yb _ _ _ _ _ _ _ _ (PW.pt (@vc _ _ _ _ _ _ _ (@xp _ _ _ _ (xq (zq xc rfl B.isinstance yj (za (pv 0) (za (ur rfl B.list mr) (@zb _)))))) (@ve _ _ _ _ (@zw _ _ _ _ _ _ _ _ uy (zq zv rfl B.len yc (za (pv 0) (@zb _))) (pv 1) (z0 _))))) (@zh _ _ _ (@zt _ _ _ _ (@xr _ _ _ _))) (@z5 _)) (@zh _ _ _ (@zt _ _ _ _ (zq (se rfl) rfl B.all n0 (za (yr ["worth"] ["thing", "width"] rfl (@yo _ _ _ _ (pv 0)) (fun _ => (z6 (i := 0) (show (["worth", "thing", "width"] : List Str).Nodup by decide +kernel) rfl (Or.inl rfl))) (fun _ => (@ym _)) (fun _ => (zo qo (hr.mono (by decide)) rfl (za (pv 0) (@zb _)))) rfl (by decide +kernel) rfl rfl) (@zb _)))))), ?_⟩;rw [show start ["thing", "width"] [V.ref r, V.int n] = [some (V.ref r), some (V.int n)] from rfl];simp only [zk, zj, ↓reduceIte];refine ⟨_, .lst hr1, true, mn, iteF ⟨_, .inl (.of hr1), rfl, ?_⟩⟩;rw [Za, ln];refine bq rfl ⟨⟨_, .of hr1⟩, fun d => ?_⟩;refine ye (xs := ns.map V.int) (PvAT H) ⟨Same.refl _, rfl⟩ ?_ ?_ ?_
    . rintro i ys H2 hi ⟨S, rfl⟩
      rw [Za] at hi;exact ⟨by rw [qu]; exact Zd hi (Zd (show ns.length <= 8 by omega) (by decide)), S.seq (.of hr1)⟩
    . rintro i x ys H2 hx ⟨S, rfl⟩
      obtain ⟨y, hy, rfl⟩ := yk hx;simp only [zk, zj, ↓reduceIte];exact ⟨y, rfl, hg y (Zi hy), S, sr i⟩
    . rintro ys H2 ⟨S, rfl⟩ l hl
      refine ⟨_, .of zc, ?_⟩;rw [qv];exact q _ (S.trans (Same.upd (Same.refl _) hl))
theorem t8 (B : Bt mg) (D : zl K mg "is_name" ph ["thing"]) : FnAt P w K mg base "is_name" 1 ["thing"] bx := by
  refine FnAt.of D br (fun vs H Q E h => ?_) (fun f cdv A outer s H vs Q E hr h => ?_)
  . obtain ⟨x, rfl, _⟩ := h
    rfl
  . obtain ⟨z, rfl, g, q⟩ := h
    refine ⟨_, (@zg _ _ _ _ _ (@yb _ _ _ _ _ _ _ _ (PW.pt (@vc _ _ _ _ _ _ _ (@xp _ _ _ _ (xq (zq xc rfl B.isinstance yj (za (pv 0) (za (ur rfl B.str me) (@zb _)))))) (@ve _ _ _ _ (@xp _ _ _ _ (g5 kq kq (@zd _ _ _ _) (zq qg rfl B.len yc (za (pv 0) (@zb _))) (vy rfl B.k_MOST_LETTERS)))))) (@zh _ _ _ (@zt _ _ _ _ (@xr _ _ _ _))) (@z5 _)) (@zh _ _ _ (@zt _ _ _ _ (zq (se rfl) rfl B.all n0 (za (yr ["sign"] ["thing"] rfl (@pi_str _ _ _ _ (pv 0)) (fun _ => (z6 (i := 0) (show (["sign", "thing"] : List Str).Nodup by decide +kernel) rfl (Or.inl rfl))) (fun _ => (@ym _)) (fun _ => (zch zbm zbm (@zp _ _ _ _) (pv 0) (@zp _ _ _ _))) rfl (by decide +kernel) rfl rfl) (@zb _)))))), ?_⟩;rw [show start ["thing"] [V.str z] = [some (V.str z)] from rfl];simp only [zk, zj, ↓reduceIte];obtain ⟨g1, g2, g3⟩ := g;refine ⟨_, .str _, true, jm, iteF ?_⟩;refine ⟨Zd g2 (by decide), ite2 (fun _ => ite2 (fun h => ?_) fun _ => ?_) fun h => (h (decide_eq_true (by omega))).elim⟩
    . rw [decide_eq_true (show (z.length : Int) <= 8 by omega)] at h
      cases h
    . intro d
      refine zcf (PvAT H) ⟨Same.refl _, rfl⟩ ?_ ?_ ?_
      . rintro i ys H' hi ⟨S, rfl⟩
        rw [qu];exact Zd hi (Zd (show z.cps.size <= 8 from g2) (by decide))
      . rintro i c ys H' hc ⟨S, rfl⟩
        have hm : c ∈ z.cps.toList := by
          obtain ⟨hi, e⟩ := Yb.mp hc;rw [<- e];exact Array.getElem_mem_toList hi
        obtain ⟨o1, o2⟩ := zdg (g3 c hm).1 (g3 c hm).2;simp only [zk, zj, ↓reduceIte];rw [if_pos o1, o2];exact ⟨S, sr i⟩
      . rintro ys H' ⟨S, rfl⟩ l hl
        refine ⟨_, .of zc, ?_⟩;rw [qv];exact q _ (S.trans (Same.upd (Same.refl _) hl))
theorem ww (B : Bt mg) (t8 : FnAt P w K mg base "is_name" 1 ["thing"] bx) (D : zl K mg "are_names" ux ["thing", "most"]) : FnAt P w K mg base "are_names" 2 ["thing", "most"] gv := by
  refine FnAt.of D g8 (fun vs H Q E h => ?_) (fun f cdv A outer s H vs Q E hr h => ?_)
  . obtain ⟨l, zs, m, rfl, _⟩ := h
    rfl
  . obtain ⟨l, zs, m, rfl, hl, g1, g2, g3, gG, gD, q⟩ := h
    refine ⟨_, (@zg _ _ _ _ _ (@yb _ _ _ _ _ _ _ _ (PW.pt (@vc _ _ _ _ _ _ _ (@xp _ _ _ _ (xq (zq xc rfl B.isinstance yj (za (pv 0) (za (ur rfl B.list mr) (@zb _)))))) (@ve _ _ _ _ (@xp _ _ _ _ (g5 kq kq (@zd _ _ _ _) (zq zv rfl B.len yc (za (pv 0) (@zb _))) (pv 1)))))) (@zh _ _ _ (@zt _ _ _ _ (@xr _ _ _ _))) (@z5 _)) (@zh _ _ _ (@zt _ _ _ _ (@sj _ _ _ _ _ _ _ (zq (se rfl) rfl B.all n0 (za (yr ["one"] ["thing", "most"] rfl (@yo _ _ _ _ (pv 0)) (fun _ => (z6 (i := 0) (show (["one", "thing", "most"] : List Str).Nodup by decide +kernel) rfl (Or.inl rfl))) (fun _ => (@ym _)) (fun _ => (zo t8 (hr.mono (by decide)) rfl (za (pv 0) (@zb _)))) rfl (by decide +kernel) rfl rfl) (@zb _))) (@si _ _ _ _ _ (@xy _ _ _ _ _ _ _ _ y9 (zbi rfl rfl B.len rfl B.set (za (pv 0) (@zb _))) (zq zv rfl B.len yc (za (pv 0) (@zb _))) (z0 _))))))), ?_⟩;rw [show start ["thing", "most"] [V.ref l, V.int m] = [some (V.ref l), some (V.int m)] from rfl];simp only [zk, zj, ↓reduceIte];refine ⟨_, .lst hl, true, mn, iteF ⟨_, .inl (.of hl), ?_⟩⟩;rw [Za];refine ite2 (fun _ => ite2 (fun h => ?_) fun _ => ?_) fun h => (h (decide_eq_true (by omega))).elim
    . rw [decide_eq_true (show (zs.length : Int) <= m by omega)] at h
      cases h
    . refine ⟨⟨_, .of hl⟩, fun d => ?_⟩
      refine ye (xs := zs.map V.str) (PvAT H) ⟨Same.refl _, rfl⟩ ?_ ?_ ?_
      . rintro i ys H2 hi ⟨S, rfl⟩
        rw [Za] at hi;exact ⟨by rw [qu]; exact Zd hi (Zd (show zs.length <= 8 by omega) (by decide)), S.seq (.of hl)⟩
      . rintro i x ys H2 hx ⟨S, rfl⟩
        obtain ⟨y, hy, rfl⟩ := yk hx;simp only [zk, zj, ↓reduceIte];exact ⟨y, rfl, gG y (Zi hy), fun H3 S3 => ⟨S.trans S3, sr i⟩⟩
      . rintro ys H2 ⟨S, rfl⟩ p hp
        have S2 : Same H (upd H2 p (.lst ((allT (zs.map V.str).length).map V.bl))) := S.trans (Same.upd (Same.refl _) hp);refine ⟨_, .of zc, ?_⟩;rw [qv];generalize upd H2 p (.lst ((allT (zs.map V.str).length).map V.bl)) = H3 at *;refine ⟨zs, S2.seq (.of hl), by omega, _, .inl (S2.seq (.of hl)), rfl, ?_⟩;rw [d5 gD _ (Zm _), Zt, Za, decide_eq_true rfl];exact q _ S2
theorem qf (B : Bt mg) (rc : FnAt P w K mg base "is_grid_row" 3 ["thing", "width"] qRow) (D : zl K mg "are_worths" ub ["thing", "height", "width"]) : FnAt P w K mg base "are_worths" 4 ["thing", "height", "width"] cz := by
  refine FnAt.of D ii (fun vs H Q E h => ?_) (fun f cdv A outer s H vs Q E hr h => ?_)
  . obtain ⟨g, gs, rows, ht, n, rfl, _⟩ := h
    rfl
  . obtain ⟨g, gs, rows, ht, n, rfl, hg, l1, l2, b1, b2, hrow, hG, q⟩ := h
    refine ⟨_, (@zg _ _ _ _ _ (@yb _ _ _ _ _ _ _ _ (PW.pt (@vc _ _ _ _ _ _ _ (@xp _ _ _ _ (xq (zq xc rfl B.isinstance yj (za (pv 0) (za (ur rfl B.list mr) (@zb _)))))) (@ve _ _ _ _ (@zw _ _ _ _ _ _ _ _ uy (zq zv rfl B.len yc (za (pv 0) (@zb _))) (pv 1) (z0 _))))) (@zh _ _ _ (@zt _ _ _ _ (@xr _ _ _ _))) (@z5 _)) (@zh _ _ _ (@zt _ _ _ _ (zq (se rfl) rfl B.all n0 (za (yr ["row"] ["thing", "height", "width"] rfl (@yo _ _ _ _ (pv 0)) (fun _ => (z6 (i := 0) (show (["row", "thing", "height", "width"] : List Str).Nodup by decide +kernel) rfl (Or.inl rfl))) (fun _ => (@ym _)) (fun _ => (zo rc (hr.mono (by decide)) rfl (za (pv 0) (za (pv 3) (@zb _))))) rfl (by decide +kernel) rfl rfl) (@zb _)))))), ?_⟩;rw [show start ["thing", "height", "width"] [V.ref g, V.int ht, V.int n] = [some (V.ref g), some (V.int ht), some (V.int n)] from rfl];simp only [zk, zj, ↓reduceIte];refine ⟨_, .lst hg, true, mn, iteF ⟨_, .inl (.of hg), rfl, ?_⟩⟩;rw [Za, l1];refine bq rfl ⟨⟨_, .of hg⟩, fun d => ?_⟩;refine ye (xs := gs.map V.ref) (PvAT H) ⟨Same.refl _, rfl⟩ ?_ ?_ ?_
    . rintro i ys H2 hi ⟨S, rfl⟩
      rw [Za] at hi;exact ⟨by rw [qu]; exact Zd hi (Zd (show gs.length <= 8 by omega) (by decide)), S.seq (.of hg)⟩
    . rintro i x ys H2 hx ⟨S, rfl⟩
      obtain ⟨r, hr', rfl⟩ := yk hx;have hi : i < rows.length := by have := (Zc.mp hr').1; omega
      have e2 : rows[i]? = some rows[i] := by simp [hi]
      have hm := hG rows[i] (Zl hi);simp only [zk, zj, ↓reduceIte];exact ⟨r, rows[i], n, rfl, S _ _ (hrow i r rows[i] hr' e2), hm.1, b2, hm.2, fun H3 S3 => ⟨S.trans S3, sr i⟩⟩
    . rintro ys H2 ⟨S, rfl⟩ l hl
      refine ⟨_, .of zc, ?_⟩;rw [qv];exact q _ (S.trans (Same.upd (Same.refl _) hl))
theorem mf (B : Bt mg) (t8 : FnAt P w K mg base "is_name" 1 ["thing"] bx) (ww : FnAt P w K mg base "are_names" 2 ["thing", "most"] gv) (qf : FnAt P w K mg base "are_worths" 4 ["thing", "height", "width"] cz) (D : zl K mg "is_hand" qy ["thing", "width"]) : FnAt P w K mg base "is_hand" 5 ["thing", "width"] qHand := by
  refine FnAt.of D ag (fun vs H Q E h => ?_) (fun f cdv A outer s H vs Q E hr h => ?_)
  . obtain ⟨x, d, n, rfl, _⟩ := h
    rfl
  . obtain ⟨x, d, n, rfl, hx, g, n8, q⟩ := h
    refine ⟨_, (@zg _ _ _ _ _ (@yb _ _ _ _ _ _ _ _ (PW.pt (@vc _ _ _ _ _ _ _ (@xp _ _ _ _ (xq (zq xc rfl B.isinstance yj (za (pv 0) (za (ur rfl B.tuple xv) (@zb _)))))) (@ve _ _ _ _ (@zw _ _ _ _ _ _ _ _ uy (zq zv rfl B.len yc (za (pv 0) (@zb _))) (@zd _ _ _ _) (z0 _))))) (@zh _ _ _ (@zt _ _ _ _ (@xr _ _ _ _))) (@z5 _)) (@zh _ _ _ (@zt _ _ _ _ (@sj _ _ _ _ _ _ _ (zo t8 (hr.mono (by decide)) rfl (za (@zr _ _ _ _ _ _ _ z9 (pv 0) (@zd _ _ _ _) (fun _ _ => rfl)) (@zb _))) (@sj _ _ _ _ _ _ _ (zo ww (hr.mono (by decide)) rfl (za (@zr _ _ _ _ _ _ _ z9 (pv 0) (@zd _ _ _ _) (fun _ _ => rfl)) (za (vy rfl B.k_MOST_WORDS) (@zb _)))) (@si _ _ _ _ _ (zo qf (hr.mono (by decide)) rfl (za (@zr _ _ _ _ _ _ _ z9 (pv 0) (@zd _ _ _ _) (fun _ _ => rfl)) (za (zq zv rfl B.len yc (za (@zr _ _ _ _ _ _ _ z9 (pv 0) (@zd _ _ _ _) (fun _ _ => rfl)) (@zb _))) (za (pv 1) (@zb _))))))))))), ?_⟩;rw [show start ["thing", "width"] [V.ref x.t, V.int n] = [some (V.ref x.t), some (V.int n)] from rfl];simp only [zk, zj, ↓reduceIte];refine ⟨_, .tup hx.tup, true, zdh, iteF ⟨_, .inr (.of hx.tup), rfl, bq rfl ?_⟩⟩;refine ⟨_, .of hx.tup, _, zn (j := 0) rfl, d.name, rfl, g.name, fun H1 S1 => ?_⟩;have hx1 := hx.mono S1;refine ⟨_, rfl, iteT ⟨_, .of hx1.tup, _, zn (j := 1) rfl, x.w, d.words, 8, rfl, hx1.words, g.words.1, g.words.2, Zm _, g.wordsG, g.wordsD, fun H2 S2 => ?_⟩⟩;have hx2 := hx1.mono S2;refine ⟨_, rfl, iteT ⟨_, .of hx2.tup, _, zn (j := 2) rfl, _, .of hx2.tup, _, zn (j := 1) rfl, x.w, rfl, _, .inl (.of hx2.words), ?_⟩⟩;rw [Za];have hw := g.words.2;have hr2 := g.rows;exact ⟨x.g, x.gs, d.worths, d.words.length, n, rfl, hx2.grid, by rw [hx2.len]; exact hr2, hr2, hw, n8, hx2.row, g.cols, fun H3 S3 => q H3 (S1.trans (S2.trans S3))⟩
theorem xh (D : zl K mg "name_of" sk ["hand"]) : FnAt P w K mg base "name_of" 1 ["hand"] (uj fun _ d => .str d.name) := by
  refine FnAt.of D jc (fun vs H Q E h => ?_) (fun f cdv A outer s H vs Q E hr h => ?_)
  . obtain ⟨x, d, rfl, _⟩ := h
    rfl
  . obtain ⟨x, d, rfl, hx, q⟩ := h
    refine ⟨_, (@zh _ _ _ (@zt _ _ _ _ (@zr _ _ _ _ _ _ _ z9 (pv 0) (@zd _ _ _ _) (fun _ _ => rfl)))), ?_⟩;rw [show start ["hand"] [V.ref x.t] = [some (V.ref x.t)] from rfl];simp only [zk, zj, ↓reduceIte];exact ⟨_, .of hx.tup, _, zn (j := 0) rfl, q⟩
theorem yq (D : zl K mg "words_of_hand" wa ["hand"]) : FnAt P w K mg base "words_of_hand" 1 ["hand"] (uj fun x _ => .ref x.w) := by
  refine FnAt.of D qm (fun vs H Q E h => ?_) (fun f cdv A outer s H vs Q E hr h => ?_)
  . obtain ⟨x, d, rfl, _⟩ := h
    rfl
  . obtain ⟨x, d, rfl, hx, q⟩ := h
    refine ⟨_, (@zh _ _ _ (@zt _ _ _ _ (@zr _ _ _ _ _ _ _ z9 (pv 0) (@zd _ _ _ _) (fun _ _ => rfl)))), ?_⟩;rw [show start ["hand"] [V.ref x.t] = [some (V.ref x.t)] from rfl];simp only [zk, zj, ↓reduceIte];exact ⟨_, .of hx.tup, _, zn (j := 1) rfl, q⟩
theorem xu (D : zl K mg "worths_of_hand" wp ["hand"]) : FnAt P w K mg base "worths_of_hand" 1 ["hand"] (uj fun x _ => .ref x.g) := by
  refine FnAt.of D mz (fun vs H Q E h => ?_) (fun f cdv A outer s H vs Q E hr h => ?_)
  . obtain ⟨x, d, rfl, _⟩ := h
    rfl
  . obtain ⟨x, d, rfl, hx, q⟩ := h
    refine ⟨_, (@zh _ _ _ (@zt _ _ _ _ (@zr _ _ _ _ _ _ _ z9 (pv 0) (@zd _ _ _ _) (fun _ _ => rfl)))), ?_⟩;rw [show start ["hand"] [V.ref x.t] = [some (V.ref x.t)] from rfl];simp only [zk, zj, ↓reduceIte];exact ⟨_, .of hx.tup, _, zn (j := 2) rfl, q⟩
theorem ud (B : Bt mg) (yq : FnAt P w K mg base "words_of_hand" 1 ["hand"] (uj fun x _ => .ref x.w)) (D : zl K mg "count_of_rows" wx ["hands"]) : FnAt P w K mg base "count_of_rows" 2 ["hands"] zad := by
  refine FnAt.of D sc_count_of_rows (fun vs H Q E h => ?_) (fun f cdv A outer s H vs Q E hr h => ?_)
  . obtain ⟨b, xs, ds, rfl, _⟩ := h
    rfl
  . obtain ⟨b, xs, ds, rfl, hh, h8, h4, q⟩ := h
    refine ⟨_, (@zg _ _ _ _ _ (zu (i := 1) sc_count_of_rows.nd rfl (Or.inl rfl) (@zd _ _ _ _)) (@zg _ _ _ _ _ (sf PassesOwn.never rfl (@yo _ _ _ _ (pv 0)) (z6 (i := 2) sc_count_of_rows.nd rfl (Or.inl rfl)) (@zh _ _ _ (zu (i := 1) sc_count_of_rows.nd rfl (Or.inl rfl) (@zm _ _ _ _ _ _ _ _ oi (pv 1) (zq zv rfl B.len yc (za (zo yq (hr.mono (by decide)) rfl (za (pv 2) (@zb _))) (@zb _))))))) (@zh _ _ _ (@zt _ _ _ _ (pv 1))))), ?_⟩;rw [show start ["hands", "count", "hand"] [V.ref b] = [some (V.ref b), none, none] from rfl];simp only [zk, zj, ↓reduceIte];refine ⟨⟨_, .of hh.at'⟩, ?_⟩;refine ou (xs := xs.map fun x => V.ref x.t) (PvCt H b ds) ⟨rfl, _, rfl⟩ ?_ ?_ ?_
    . rintro i σ H4 hi ⟨rfl, v, rfl⟩
      exact .of hh.at'
    . rintro i x σ H4 hx ⟨rfl, v, rfl⟩
      obtain ⟨y, hy, rfl⟩ := yk hx;have hi : i < ds.length := by have := (Zc.mp hy).1; have := hh.len; omega
      have e2 : ds[i]? = some ds[i] := by simp [hi]
      have hd := hh.hand i y ds[i] hy e2;have hw := h8 ds[i] (Zl hi);simp only [zk, zj, ↓reduceIte];refine ⟨y, ds[i], rfl, hd, ?_⟩;simp only [zk, zj, ↓reduceIte];refine ⟨_, .inl (.of hd.words), ?_⟩;rw [Za];refine ⟨.inr ⟨by omega, by omega⟩, rfl, some (V.ref y.t), ?_⟩;rw [Zq, e2, Zn, List.prod_append];simp only [Option.toList, ZM, List.map_nil, List.prod_cons, List.prod_nil, Nat.mul_one, Int.natCast_mul]
    . rintro σ H4 ⟨rfl, v, rfl⟩
      simp only [zk, zj, ↓reduceIte];rw [Za, hh.len, Zt];exact q
def gx : Sp := fun vs H Q _ => ∃ (b : Addr) (xs : List HX) (ds : List HD), vs = [.ref b] /\ HandsL H b xs ds /\ ds.length <= 4 /\ ∀ l, H l = none -> Q (.ref l) (upd H l (.lst ((ds.map HD.name).map V.str)))
theorem ug (xh : FnAt P w K mg base "name_of" 1 ["hand"] (uj fun _ d => .str d.name)) (D : zl K mg "names_of" ue ["hands"]) : FnAt P w K mg base "names_of" 2 ["hands"] gx := by
  refine FnAt.of D m6 (fun vs H Q E h => ?_) (fun f cdv A outer s H vs Q E hr h => ?_)
  . obtain ⟨b, xs, ds, rfl, _⟩ := h
    rfl
  . obtain ⟨b, xs, ds, rfl, hh3, g4, q⟩ := h
    refine ⟨_, (@zh _ _ _ (@zt _ _ _ _ (yr ["hand"] ["hands"] rfl (@i6 _ _ _ _ (pv 0)) (fun _ => (z6 (i := 0) (show (["hand", "hands"] : List Str).Nodup by decide +kernel) rfl (Or.inl rfl))) (fun _ => (@ym _)) (fun _ => (zo xh (hr.mono (by decide)) rfl (za (pv 0) (@zb _)))) rfl (by decide +kernel) rfl rfl))), ?_⟩;rw [show start ["hands"] [V.ref b] = [some (V.ref b)] from rfl];simp only [zk, zj, ↓reduceIte];refine .inl ⟨⟨_, .of hh3.at'⟩, fun d2 => ?_⟩;refine ye (xs := xs.map fun x => V.ref x.t) (PvNm H ds) ⟨rfl, rfl⟩ ?_ ?_ ?_
    . rintro i ys H4 hi ⟨rfl, rfl⟩
      refine ⟨?_, .of hh3.at'⟩;rw [Za, Za, Zj];exact Zd (ZB _ _) (Zd g4 (by decide))
    . rintro i x ys H4 hx ⟨rfl, rfl⟩
      obtain ⟨y, hy, rfl⟩ := yk hx;have hi : i < ds.length := by have := (Zc.mp hy).1; have := hh3.len; omega
      have e2 : ds[i]? = some ds[i] := by simp [hi]
      simp only [zk, zj, ↓reduceIte];refine ⟨y, ds[i], rfl, hh3.hand i y ds[i] hy e2, rfl, ?_⟩;rw [Zq, e2, Zn, Zn];rfl
    . rintro ys H4 ⟨rfl, rfl⟩ l hl
      rw [Za, hh3.len, Zt];exact q l hl
theorem wu (B : Bt mg) (ww : FnAt P w K mg base "are_names" 2 ["thing", "most"] gv) (mf : FnAt P w K mg base "is_hand" 5 ["thing", "width"] qHand) (ug : FnAt P w K mg base "names_of" 2 ["hands"] gx) (ud : FnAt P w K mg base "count_of_rows" 2 ["hands"] zad)
    (D : zl K mg "makes_house" vo ["outcomes", "hands"]) : FnAt P w K mg base "makes_house" 6 ["outcomes", "hands"] gg := by
  refine FnAt.of D ji (fun vs H Q E h => ?_) (fun f cdv A outer s H vs Q E hr h => ?_)
  . obtain ⟨o, b, outs, xs, ds, rfl, _⟩ := h
    rfl
  . obtain ⟨o, b, outs, xs, ds, rfl, ho, hh, g, q⟩ := h
    refine ⟨_, (@zg _ _ _ _ _ (@yb _ _ _ _ _ _ _ _ (PW.pt (@vc _ _ _ _ _ _ _ (@xp _ _ _ _ (xq (zo ww (hr.mono (by decide)) rfl (za (pv 0) (za (vy rfl B.k_MOST_OUTCOMES) (@zb _)))))) (@ve _ _ _ _ (@xp _ _ _ _ (xq (zq xc rfl B.isinstance yj (za (pv 1) (za (ur rfl B.list mr) (@zb _))))))))) (@zh _ _ _ (@zt _ _ _ _ (@xr _ _ _ _))) (@z5 _)) (@zg _ _ _ _ _ (@yb _ _ _ _ _ _ _ _ (@xp _ _ _ _ (xq (zq (se rfl) rfl B.all n0 (za (yr ["hand"] ["outcomes", "hands"] rfl (@yo _ _ _ _ (pv 1)) (fun _ => (z6 (i := 0) (show (["hand", "outcomes", "hands"] : List Str).Nodup by decide +kernel) rfl (Or.inl rfl))) (fun _ => (@ym _)) (fun _ => (zo mf (hr.mono (by decide)) rfl (za (pv 0) (za (zq zv rfl B.len yc (za (pv 1) (@zb _))) (@zb _))))) rfl (by decide +kernel) rfl rfl) (@zb _))))) (@zh _ _ _ (@zt _ _ _ _ (@xr _ _ _ _))) (@z5 _)) (@zh _ _ _ (@zt _ _ _ _ (@sj _ _ _ _ _ _ _ (zo ww (hr.mono (by decide)) rfl (za (zo ug (hr.mono (by decide)) rfl (za (pv 1) (@zb _))) (za (vy rfl B.k_MOST_HANDS) (@zb _)))) (@si _ _ _ _ _ (@xy _ _ _ _ _ _ _ _ kq (zo ud (hr.mono (by decide)) rfl (za (pv 1) (@zb _))) (vy rfl B.k_MOST_ROWS) (z0 _)))))))), ?_⟩;rw [show start ["outcomes", "hands"] [V.ref o, V.ref b] = [some (V.ref o), some (V.ref b)] from rfl];simp only [zk, zj, ↓reduceIte];have g1 := g.outs1;have g2 := g.hands;refine ⟨o, outs, 8, rfl, ho, g1.1, g1.2, Zm _, g.outsG, g.outsD, fun H1 S1 => ?_⟩;simp only [zk, zj, ↓reduceIte];have hh1 := hh.mono S1;have ho1 := S1 _ _ ho;refine iteF ⟨_, .lst hh1.at', true, mn, iteF ⟨⟨_, .of hh1.at'⟩, fun d => ?_⟩⟩;refine ye (xs := xs.map fun x => V.ref x.t) (PvAT H1) ⟨Same.refl _, rfl⟩ ?_ ?_ ?_
    . rintro i ys H2 hi ⟨S, rfl⟩
      rw [Za, hh.len] at hi;exact ⟨by rw [qu]; exact Zd hi (Zd g2.2 (by decide)), S.seq (.of hh1.at')⟩
    . rintro i x ys H2 hx ⟨S, rfl⟩
      obtain ⟨y, hy, rfl⟩ := yk hx;have hi : i < ds.length := by have := (Zc.mp hy).1; have := hh.len; omega
      have e2 : ds[i]? = some ds[i] := by simp [hi]
      simp only [zk, zj, ↓reduceIte];refine ⟨_, .inl (S.seq (.of ho1)), ?_⟩;rw [Za];exact ⟨y, ds[i], outs.length, rfl, (hh1.hand i y ds[i] hy e2).mono S, g.hand (Zl hi), g1.2, fun H3 S3 => ⟨S.trans S3, sr i⟩⟩
    . rintro ys H2 ⟨S, rfl⟩ p hp
      have S2 : Same H1 (upd H2 p (.lst ((allT (xs.map fun x => V.ref x.t).length).map V.bl))) := S.trans (Same.upd (Same.refl _) hp);refine ⟨_, .of zc, ?_⟩;rw [qv];generalize upd H2 p (.lst ((allT (xs.map fun x => V.ref x.t).length).map V.bl)) = H3 at *;have hh3 := hh1.mono S2;refine iteF ⟨b, xs, ds, rfl, hh3, g2.2, fun l hl => ?_⟩;have S5 : Same H3 (upd H3 l (.lst ((ds.map HD.name).map V.str))) := Same.upd (Same.refl _) hl;refine ⟨l, ds.map HD.name, 4, rfl, zc, by rw [Za]; exact g2.1, by rw [Za]; exact g2.2, by decide, fun z hz => ?_, g.handsD, fun H6 S6 => ?_⟩
      . obtain ⟨d, hd, rfl⟩ := Zp.mp hz
        exact g.handsG d hd
      . generalize upd H3 l (.lst ((ds.map HD.name).map V.str)) = H5 at *
        have S36 := S5.trans S6;have few := g.few;refine ⟨_, rfl, iteT ⟨b, xs, ds, rfl, hh3.mono S36, fun d hd => (g.words1 d hd).2, g2.2, _, rfl, ?_⟩⟩;rw [decide_eq_true (by omega)];exact q _ (S1.trans (S2.trans S36))
theorem tq (B : Bt mg) (xh : FnAt P w K mg base "name_of" 1 ["hand"] (uj fun _ d => .str d.name)) (yq : FnAt P w K mg base "words_of_hand" 1 ["hand"] (uj fun x _ => .ref x.w)) (xu : FnAt P w K mg base "worths_of_hand" 1 ["hand"] (uj fun x _ => .ref x.g))
    (D : zl K mg "kept_hand" vh ["hand"]) : FnAt P w K mg base "kept_hand" 2 ["hand"] (qKept K) := by
  refine FnAt.of D sc_kept_hand (fun vs H Q E h => ?_) (fun f cdv A outer s H vs Q E hr h => ?_)
  . obtain ⟨x, d, rfl, _⟩ := h
    rfl
  . obtain ⟨x, d, rfl, hx, h8, q⟩ := h
    refine ⟨_, (@zg _ _ _ _ _ (zu (i := 1) sc_kept_hand.nd rfl (Or.inl rfl) (y8 xt rfl B.tuple xv (za (yr ["row"] ["hand", "worths"] rfl (@yo _ _ _ _ (zo xu (hr.mono (by decide)) rfl (za (pv 0) (@zb _)))) (fun _ => (z6 (i := 0) (show (["row", "hand", "worths"] : List Str).Nodup by decide +kernel) rfl (Or.inl rfl))) (fun _ => (@ym _)) (fun _ => (y8 xt rfl B.tuple xv (za (pv 0) (@zb _)))) rfl (by decide +kernel) rfl rfl) (@zb _)))) (@zh _ _ _ (@zt _ _ _ _ (@yl _ _ _ _ _ (za (zo xh (hr.mono (by decide)) rfl (za (pv 0) (@zb _))) (za (y8 xt rfl B.tuple xv (za (zo yq (hr.mono (by decide)) rfl (za (pv 0) (@zb _))) (@zb _))) (za (pv 1) (@zb _)))))))), ?_⟩;rw [show start ["hand", "worths"] [V.ref x.t] = [some (V.ref x.t), none] from rfl];simp only [zk, zj, ↓reduceIte];refine ⟨x, d, rfl, hx, ?_⟩;simp only [zk, zj, ↓reduceIte];refine ⟨⟨_, .of hx.grid⟩, fun dd => ?_⟩;refine ye (xs := x.gs.map V.ref) (PvE K d.worths H) ⟨Same.refl _, rfl, TrsAt.nil⟩ ?_ ?_ ?_
    . rintro i ys H2 hi ⟨S, ly, _⟩
      rw [Za, hx.len] at hi;exact ⟨by rw [ly]; exact Zd hi (Zd h8 (by decide)), S.seq (.of hx.grid)⟩
    . rintro i y ys H2 hy ⟨S, ly, ty⟩
      obtain ⟨r, hr', rfl⟩ := yk hy;have hi : i < d.worths.length := by have := (Zc.mp hr').1; have := hx.len; omega
      have e2 : d.worths[i]? = some d.worths[i] := by simp [hi]
      simp only [zk, zj, ↓reduceIte];refine ⟨_, S.seq (.of (hx.row i r _ hr' e2)), fun l hl => ?_⟩;have S3 : Same H2 (upd H2 l (.tup ((d.worths[i]).map V.int))) := Same.upd (Same.refl _) hl;refine ⟨S.trans S3, by simp [ly], ?_⟩;rw [Zq, e2, Zn];exact TrsAt.append (TrsAt.mono S3 ty) (TrsAt.cons (TrAt.tp (.of zc) (cg _)) TrsAt.nil)
    . rintro ys H2 ⟨S, ly, ty⟩ l hl
      rw [Za, hx.len, Zt] at ty;have S3 : Same H2 (upd H2 l (.lst ys)) := Same.upd (Same.refl _) hl;refine ⟨_, .of zc, fun l1 hl1 => ?_⟩;generalize upd H2 l (.lst ys) = H3 at *;have S4 : Same H3 (upd H3 l1 (.tup ys)) := Same.upd (Same.refl _) hl1;have h4 : upd H3 l1 (.tup ys) l1 = some (.tup ys) := zc;generalize upd H3 l1 (.tup ys) = H4 at *;have S24 := S.trans (S3.trans S4);refine ⟨x, d, rfl, hx.mono S24, x, d, rfl, hx.mono S24, x.w, rfl, _, .of (hx.mono S24).words, fun l2 hl2 => ⟨by decide, fun p hp => ?_⟩⟩;have S5 : Same H4 (upd H4 l2 (.tup (d.words.map V.str))) := Same.upd (Same.refl _) hl2;have h5 : upd H4 l2 (.tup (d.words.map V.str)) l2 = some (.tup (d.words.map V.str)) := zc;generalize upd H4 l2 (.tup (d.words.map V.str)) = H5 at *;have S6 : Same H5 (upd H5 p (.tup [V.str d.name, V.ref l2, V.ref l1])) := Same.upd (Same.refl _) hp;refine q _ p (S24.trans (S5.trans S6)) (TrAt.tp (.of zc) (TrsAt.cons (TrAt.lf rfl) (TrsAt.cons (TrAt.tp (.of (S6 _ _ h5)) (js _)) (TrsAt.cons (TrAt.tp (.of ((S5.trans S6) _ _ h4)) (TrsAt.mono (S3.trans (S4.trans (S5.trans S6))) ty)) TrsAt.nil))))
theorem ki (B : Bt mg) (C : Ct K mg a) (wu : FnAt P w K mg base "makes_house" 6 ["outcomes", "hands"] gg) (tq : FnAt P w K mg base "kept_hand" 2 ["hand"] (qKept K)) (D : zl K mg "house_of" ua ["outcomes", "hands"]) : FnAtX P w K mg base "house_of" 7 ["outcomes", "hands"] (zcz K) := by
  refine FnAtX.of D ll (fun vs H Q E h => ?_) (fun f cdv A outer s H vs Q E hr h => ?_)
  . obtain ⟨o, b, outs, xs, ds, rfl, _⟩ := h
    rfl
  . obtain ⟨o, b, outs, xs, ds, rfl, ho, hh, g, q⟩ := h
    refine ⟨_, (@zg _ _ _ _ _ (@yb _ _ _ _ _ _ _ _ (@xp _ _ _ _ (xq (zo wu (hr.mono (by decide)) rfl (za (pv 0) (za (pv 1) (@zb _)))))) (@zh _ _ _ (xm rfl C.q_NoHouse.toErr rfl C.m_NoHouse (y6 rfl) (za (@zp _ _ _ _) (@zb _)))) (@z5 _)) (@zh _ _ _ (PS.nox (@zt _ _ _ _ (@yl _ _ _ _ _ (za (y8 xt rfl B.tuple xv (za (pv 0) (@zb _))) (za (y8 xt rfl B.tuple xv (za (yr ["hand"] ["outcomes", "hands"] rfl (@yo _ _ _ _ (pv 1)) (fun _ => (z6 (i := 0) (show (["hand", "outcomes", "hands"] : List Str).Nodup by decide +kernel) rfl (Or.inl rfl))) (fun _ => (@ym _)) (fun _ => (zo tq (hr.mono (by decide)) rfl (za (pv 0) (@zb _)))) rfl (by decide +kernel) rfl rfl) (@zb _))) (@zb _)))))))), ?_⟩;rw [show start ["outcomes", "hands"] [V.ref o, V.ref b] = [some (V.ref o), some (V.ref b)] from rfl];simp only [zk, zj, ↓reduceIte];have g2 := g.hands;refine ⟨o, b, outs, xs, ds, rfl, ho, hh, g, fun H1 S1 => ?_⟩;simp only [zk, zj, ↓reduceIte];have hh1 := hh.mono S1;have ho1 := S1 _ _ ho;refine iteF ⟨_, .of ho1, fun l hl => ?_⟩;have S2 : Same H1 (upd H1 l (.tup (outs.map V.str))) := Same.upd (Same.refl _) hl;have h2 : upd H1 l (.tup (outs.map V.str)) l = some (.tup (outs.map V.str)) := zc;generalize upd H1 l (.tup (outs.map V.str)) = H2 at *;have hh2 := hh1.mono S2;refine ⟨⟨_, .of hh2.at'⟩, fun d => ?_⟩;refine ye (xs := xs.map fun x => V.ref x.t) (PvD K ds H2) ⟨Same.refl _, rfl, TrsAt.nil⟩ ?_ ?_ ?_
    . rintro i ys H3 hi ⟨S, ly, _⟩
      rw [Za, hh.len] at hi;exact ⟨by rw [ly]; exact Zd hi (Zd g2.2 (by decide)), S.seq (.of hh2.at')⟩
    . rintro i y ys H3 hy ⟨S, ly, ty⟩
      obtain ⟨x, hx, rfl⟩ := yk hy;have hi : i < ds.length := by have := (Zc.mp hx).1; have := hh.len; omega
      have e2 : ds[i]? = some ds[i] := by simp [hi]
      have hm := Zl hi;have r8 : (ds[i]).worths.length <= 8 := by rw [g.rows _ hm]; exact (g.words1 _ hm).2
      simp only [zk, zj, ↓reduceIte];refine ⟨x, ds[i], rfl, (hh2.hand i x ds[i] hx e2).mono S, r8, fun H4 p S4 tp => ?_⟩;refine ⟨S.trans S4, by simp [ly], ?_⟩;rw [Zq, e2, Zn];exact TrsAt.append (TrsAt.mono S4 ty) (TrsAt.cons tp TrsAt.nil)
    . rintro ys H3 ⟨S, ly, ty⟩ l1 hl1
      rw [Za, hh.len, Zt] at ty;have S4 : Same H3 (upd H3 l1 (.lst ys)) := Same.upd (Same.refl _) hl1;refine ⟨_, .of zc, fun l2 hl2 => ⟨by decide, fun p hp => ?_⟩⟩;generalize upd H3 l1 (.lst ys) = H4 at *;have S5 : Same H4 (upd H4 l2 (.tup ys)) := Same.upd (Same.refl _) hl2;have h5 : upd H4 l2 (.tup ys) l2 = some (.tup ys) := zc;generalize upd H4 l2 (.tup ys) = H5 at *;have S6 : Same H5 (upd H5 p (.tup [V.ref l, V.ref l2])) := Same.upd (Same.refl _) hp;have S36 := S4.trans (S5.trans S6);exact q _ p _ (S1.trans (S2.trans (S.trans S36))) zc (TrAt.tp (.of zc) (TrsAt.cons (TrAt.tp (.of ((S.trans S36) _ _ h2)) (js _)) (TrsAt.cons (TrAt.tp (.of (S6 _ _ h5)) (TrsAt.mono S36 ty)) TrsAt.nil)))
end
section
variable {α : Type}
def vb (r : List α) (ws : List α) : List (List α) := ws.map fun w => r ++ [w]
def wt (rs : List (List α)) (ws : List α) : List (List α) := (rs.map fun r => vb r ws).flatten
def xi (wss : List (List α)) : List (List α) := wss.foldl wt [[]]
theorem ba (wss : List (List α)) (ws : List α) : xi (wss ++ [ws]) = wt (xi wss) ws := by simp [xi]
theorem bz (r : List α) (rs : List (List α)) (ws : List α) : wt (r :: rs) ws = vb r ws ++ wt rs ws := by simp [wt]
theorem ah (rs : List (List α)) (r : List α) (ws : List α) : wt (rs ++ [r]) ws = wt rs ws ++ vb r ws := by simp [wt]
theorem pz (r : List α) (ws : List α) : (vb r ws).length = ws.length := by simp [vb]
theorem qz (ws : List α) : ∀ rs : List (List α), (wt rs ws).length = rs.length * ws.length
  | [] => by simp [wt]
  | r :: rs => by rw [bz, Zo, pz, qz ws rs, ZL, Nat.succ_mul, Nat.add_comm]
theorem qc {wss : List (List α)} {j : Nat} {ws : List α} (h : wss[j]? = some ws) : xi (wss.take (j + 1)) = wt (xi (wss.take j)) ws := by
  rw [Zq, h];exact ba _ _
theorem zah (wss : List (List α)) : (xi wss).length = (wss.map List.length).prod := by
  have : ∀ n, n <= wss.length -> (xi (wss.take n)).length = ((wss.take n).map List.length).prod := by
    intro n
    induction n with
    | zero => intro _; rfl
    | succ n ih =>
      intro h;have e : wss[n]? = some wss[n] := Zb (by omega);rw [qc e, qz, ih (by omega), Zq, e, Zn, List.prod_append];simp
  have := this wss.length (Zm _)
  rwa [Zt] at this
theorem ay {rs : List (List α)} {ws : List α} {row : List α} (h : row ∈ wt rs ws) : ∃ r w, r ∈ rs /\ w ∈ ws /\ row = r ++ [w] := by
  simp only [wt, vb, List.mem_flatten, Zp] at h;obtain ⟨l, ⟨r, hr, rfl⟩, h⟩ := h;obtain ⟨w, hw, rfl⟩ := Zp.mp h;exact ⟨r, w, hr, hw, rfl⟩
theorem m8 (wss : List (List α)) : ∀ n, n <= wss.length -> ∀ row ∈ xi (wss.take n), row.length = n := by
  intro n
  induction n with
  | zero => intro _ row h; simp [xi] at h; simp [h]
  | succ n ih =>
    intro h row hr;have e : wss[n]? = some wss[n] := Zb (by omega);rw [qc e] at hr;obtain ⟨r, w, h1, _, rfl⟩ := ay hr;simp [ih (by omega) r h1]
theorem aq {wss : List (List α)} {row : List α} (h : row ∈ xi wss) : row.length = wss.length := m8 wss wss.length (Zm _) row (by rw [Zt]; exact h)
end
structure TupsAt (H : Hp) (as : List Addr) (rs : List (List Str)) : Prop where
  len : as.length = rs.length
  at' : ∀ (i : Nat) (a : Addr) (r : List Str), as[i]? = some a -> rs[i]? = some r -> H a = some (.tup (r.map V.str))
theorem TupsAt.nil {H : Hp} : TupsAt H [] [] := ⟨rfl, fun i a r e => by simp at e⟩
theorem TupsAt.mono {H H' : Hp} {as : List Addr} {rs : List (List Str)} (S : Same H H') (h : TupsAt H as rs) : TupsAt H' as rs := ⟨h.len, fun i a r e1 e2 => S _ _ (h.at' i a r e1 e2)⟩
theorem TupsAt.append {H : Hp} {as bs : List Addr} {rs qs : List (List Str)} (h1 : TupsAt H as rs) (h2 : TupsAt H bs qs) : TupsAt H (as ++ bs) (rs ++ qs) := by
  refine ⟨by simp [h1.len, h2.len], fun i a r e1 e2 => ?_⟩
  by_cases hi : i < as.length
  . rw [Zg hi] at e1
    rw [Zg (by rw [<- h1.len]; exact hi)] at e2;exact h1.at' i a r e1 e2
  . rw [Zf (ZD.mp hi)] at e1
    rw [Zf (by rw [<- h1.len]; exact ZD.mp hi)] at e2;rw [h1.len] at e1;exact h2.at' _ a r e1 e2
theorem TupsAt.one {H : Hp} {a : Addr} {r : List Str} (h : H a = some (.tup (r.map V.str))) : TupsAt H [a] [r] := ⟨rfl, fun i b q e1 e2 => by
  cases i with
  | zero =>
    simp at e1 e2;subst e1 e2;exact h
  | succ i => simp at e1⟩
theorem TupsAt.past {H : Hp} {p : Addr} {xs ys : List V} {as : List Addr} {rs : List (List Str)} (hp : H p = some (.lst xs)) (h : TupsAt H as rs) : TupsAt (upd H p (.lst ys)) as rs :=
  ⟨h.len, fun i a r e1 e2 => by
    have := h.at' i a r e1 e2;rw [zy (fun e => by rw [e, hp] at this; cases this)]
    exact this⟩
structure RwsAt (H : Hp) (l : Addr) (as : List Addr) (rs : List (List Str)) : Prop where
  lst : H l = some (.lst (as.map V.ref))
  tups : TupsAt H as rs
theorem RwsAt.mono {H H' : Hp} {l : Addr} {as : List Addr} {rs : List (List Str)} (S : Same H H') (h : RwsAt H l as rs) : RwsAt H' l as rs := ⟨S _ _ h.lst, h.tups.mono S⟩
structure KHand (K : Fg) (H : Hp) (t : Addr) (d : HD) (w g : Addr) (gs : List Addr) : Prop where
  tup : SqT K H t [.str d.name, .ref w, .ref g]
  words : SqT K H w (d.words.map V.str)
  grid : SqT K H g (gs.map V.ref)
  len : gs.length = d.worths.length
  row : ∀ (i : Nat) (r : Addr) (ns : List Int), gs[i]? = some r -> d.worths[i]? = some ns -> SqT K H r (ns.map V.int)
def KHands (K : Fg) (H : Hp) (hs : List Addr) (ds : List HD) : Prop := hs.length = ds.length /\ ∀ (i : Nat) (t : Addr) (d : HD), hs[i]? = some t -> ds[i]? = some d -> ∃ w g gs, KHand K H t d w g gs
structure KHouse (K : Fg) (H : Hp) (p o h : Addr) (hs : List Addr) (outs : List Str) (ds : List HD) : Prop where
  tup : SqT K H p [.ref o, .ref h]
  outs : SqT K H o (outs.map V.str)
  hands : SqT K H h (hs.map V.ref)
  hand : KHands K H hs ds
theorem KHand.mono {K : Fg} {H H' : Hp} {t : Addr} {d : HD} {w g : Addr} {gs : List Addr} (S : Same H H') (h : KHand K H t d w g gs) : KHand K H' t d w g gs :=
  ⟨S.seqT h.tup, S.seqT h.words, S.seqT h.grid, h.len, fun i r ns e1 e2 => S.seqT (h.row i r ns e1 e2)⟩
theorem KHands.mono {K : Fg} {H H' : Hp} {hs : List Addr} {ds : List HD} (S : Same H H') (h : KHands K H hs ds) : KHands K H' hs ds :=
  ⟨h.1, fun i t d e1 e2 => by
    obtain ⟨w, g, gs, q⟩ := h.2 i t d e1 e2
    exact ⟨w, g, gs, q.mono S⟩⟩
theorem KHouse.mono {K : Fg} {H H' : Hp} {p o h : Addr} {hs : List Addr} {outs : List Str} {ds : List HD} (S : Same H H') (q : KHouse K H p o h hs outs ds) : KHouse K H' p o h hs outs ds :=
  ⟨S.seqT q.tup, S.seqT q.outs, S.seqT q.hands, q.hand.mono S⟩
def xw (K : Fg) (j : Nat) : Sp := fun vs H Q _ => ∃ (t : Addr) (us : List V) (v : V), vs = [.ref t] /\ SqT K H t us /\ us[j]? = some v /\ Q v H
def PvLong (r ws : List Str) (H : Hp) (i : Nat) (ys : List V) (H' : Hp) : Prop := ∃ as' : List Addr, ys = as'.map V.ref /\ TupsAt H' as' (vb r (ws.take i)) /\ Same H H'
theorem zcd {wss : List (List Str)} (h4 : wss.length <= 4) (h8 : ∀ ws ∈ wss, ws.length <= 8) (n : Nat) (hn : n <= wss.length) : (xi (wss.take n)).length <= 4096 := by
  have : ∀ m, m <= wss.length -> (xi (wss.take m)).length <= 8 ^ m := by
    intro m
    induction m with
    | zero => intro _; exact Zm _
    | succ m ih =>
      intro h;have e : wss[m]? = some wss[m] := Zb (by omega);rw [qc e, qz, Nat.pow_succ];exact YR (ih (by omega)) (h8 _ (Zl (by omega)))
  exact Zd (this n hn) (Nat.pow_le_pow_right (by decide) (show n <= 4 by omega))
section
variable {P : Program} {w : World} {K : Fg} {mg : Str -> Option Value} {base : Heap}
theorem am (D : zl K mg "hands_of" rf ["house"]) : FnAt P w K mg base "hands_of" 1 ["house"] (xw K 1) := by
  refine FnAt.of D e8 (fun vs H Q E h => ?_) (fun f cdv A outer s H vs Q E hr h => ?_)
  . obtain ⟨t, us, v, rfl, _⟩ := h
    rfl
  . obtain ⟨t, us, v, rfl, ht, e, q⟩ := h
    refine ⟨_, (@zh _ _ _ (@zt _ _ _ _ (@zr _ _ _ _ _ _ _ z9 (pv 0) (@zd _ _ _ _) (fun _ _ => rfl)))), ?_⟩;rw [show start ["house"] [V.ref t] = [some (V.ref t)] from rfl];simp only [zk, zj, ↓reduceIte];exact ⟨_, ht, _, zn (j := 1) e, q⟩
theorem kx (D : zl K mg "words_of_hand" wa ["hand"]) : FnAt P w K mg base "words_of_hand" 1 ["hand"] (xw K 1) := by
  refine FnAt.of D qm (fun vs H Q E h => ?_) (fun f cdv A outer s H vs Q E hr h => ?_)
  . obtain ⟨t, us, v, rfl, _⟩ := h
    rfl
  . obtain ⟨t, us, v, rfl, ht, e, q⟩ := h
    refine ⟨_, (@zh _ _ _ (@zt _ _ _ _ (@zr _ _ _ _ _ _ _ z9 (pv 0) (@zd _ _ _ _) (fun _ _ => rfl)))), ?_⟩;rw [show start ["hand"] [V.ref t] = [some (V.ref t)] from rfl];simp only [zk, zj, ↓reduceIte];exact ⟨_, ht, _, zn (j := 1) e, q⟩
end
structure HHand (H : Hp) (t : Addr) (d : HD) (w g : Addr) (gs : List Addr) : Prop where
  tup : H t = some (.tup [.str d.name, .ref w, .ref g])
  words : H w = some (.tup (d.words.map V.str))
  grid : H g = some (.tup (gs.map V.ref))
  len : gs.length = d.worths.length
  row : ∀ (i : Nat) (r : Addr) (ns : List Int), gs[i]? = some r -> d.worths[i]? = some ns -> H r = some (.tup (ns.map V.int))
theorem HHand.mono {H H' : Hp} {t : Addr} {d : HD} {w g : Addr} {gs : List Addr} (S : Same H H') (h : HHand H t d w g gs) : HHand H' t d w g gs :=
  ⟨S _ _ h.tup, S _ _ h.words, S _ _ h.grid, h.len, fun i r ns e1 e2 => S _ _ (h.row i r ns e1 e2)⟩
theorem HHand.k {K : Fg} {H : Hp} {t : Addr} {d : HD} {w g : Addr} {gs : List Addr} (h : HHand H t d w g gs) : KHand K H t d w g gs :=
  ⟨.of h.tup, .of h.words, .of h.grid, h.len, fun i r ns e1 e2 => .of (h.row i r ns e1 e2)⟩
def HHands (H : Hp) (hs : List Addr) (ds : List HD) : Prop := hs.length = ds.length /\ ∀ (i : Nat) (t : Addr) (d : HD), hs[i]? = some t -> ds[i]? = some d -> ∃ w g gs, HHand H t d w g gs
theorem HHands.mono {H H' : Hp} {hs : List Addr} {ds : List HD} (S : Same H H') (h : HHands H hs ds) : HHands H' hs ds :=
  ⟨h.1, fun i t d e1 e2 => by
    obtain ⟨w, g, gs, q⟩ := h.2 i t d e1 e2
    exact ⟨w, g, gs, q.mono S⟩⟩
theorem HHands.snoc {H : Hp} {hs : List Addr} {ds : List HD} {t : Addr} {d : HD} {w g : Addr} {gs : List Addr} (h : HHands H hs ds) (q : HHand H t d w g gs) : HHands H (hs ++ [t]) (ds ++ [d]) := by
  refine ⟨by simp [h.1], fun i a e e1 e2 => ?_⟩
  by_cases hi : i < hs.length
  . rw [Zg hi] at e1
    rw [Zg (by rw [<- h.1]; exact hi)] at e2;exact h.2 i a e e1 e2
  . rw [Zf (ZD.mp hi)] at e1
    rw [Zf (by rw [<- h.1]; exact ZD.mp hi)] at e2
    have h0 : i - hs.length = 0 := by
      have := (Zc.mp e1).1;simp at this;omega
    rw [h0] at e1;rw [<- h.1, h0] at e2;simp at e1 e2;subst e1 e2;exact ⟨w, g, gs, q⟩
structure HHouse (H : Hp) (p o h : Addr) (hs : List Addr) (outs : List Str) (ds : List HD) : Prop where
  tup : H p = some (.tup [.ref o, .ref h])
  outs : H o = some (.tup (outs.map V.str))
  hands : H h = some (.tup (hs.map V.ref))
  hand : HHands H hs ds
theorem HHouse.mono {H H' : Hp} {p o h : Addr} {hs : List Addr} {outs : List Str} {ds : List HD} (S : Same H H') (q : HHouse H p o h hs outs ds) : HHouse H' p o h hs outs ds :=
  ⟨S _ _ q.tup, S _ _ q.outs, S _ _ q.hands, q.hand.mono S⟩
theorem HHouse.k {K : Fg} {H : Hp} {p o h : Addr} {hs : List Addr} {outs : List Str} {ds : List HD} (q : HHouse H p o h hs outs ds) : KHouse K H p o h hs outs ds :=
  ⟨.of q.tup, .of q.outs, .of q.hands, q.hand.1, fun i t d e1 e2 => by
    obtain ⟨w, g, gs, z⟩ := q.hand.2 i t d e1 e2
    exact ⟨w, g, gs, z.k⟩⟩
structure IntTs (H : Hp) (ls : List Addr) (ps : List (List Int)) : Prop where
  len : ls.length = ps.length
  at' : ∀ (i : Nat) (l : Addr) (p : List Int), ls[i]? = some l -> ps[i]? = some p -> H l = some (.tup (p.map V.int))
theorem IntTs.mono {H H' : Hp} {ls : List Addr} {ps : List (List Int)} (S : Same H H') (h : IntTs H ls ps) : IntTs H' ls ps := ⟨h.len, fun i l p e1 e2 => S _ _ (h.at' i l p e1 e2)⟩
theorem IntTs.snoc {H : Hp} {ls : List Addr} {ps : List (List Int)} {l : Addr} {p : List Int} (h : IntTs H ls ps) (hl : H l = some (.tup (p.map V.int))) : IntTs H (ls ++ [l]) (ps ++ [p]) := by
  refine ⟨by simp [h.len], fun i a q e1 e2 => ?_⟩
  by_cases hi : i < ls.length
  . rw [Zg hi] at e1
    rw [Zg (by rw [<- h.len]; exact hi)] at e2;exact h.at' i a q e1 e2
  . rw [Zf (ZD.mp hi)] at e1
    rw [Zf (by rw [<- h.len]; exact ZD.mp hi)] at e2
    have h0 : i - ls.length = 0 := by
      have := (Zc.mp e1).1;simp at this;omega
    rw [h0] at e1;rw [<- h.len, h0] at e2;simp at e1 e2;subst e1 e2;exact hl
def zbf : Sp := fun vs H Q _ => ∃ (x : HX) (d : HD), vs = [.ref x.t] /\ HandAt H x d /\ d.worths.length <= 8 /\ ∀ H' t w g gs, Same H H' -> HHand H' t d w g gs -> Q (.ref t) H'
def gi : Sp := fun vs H Q _ => ∃ (o b : Addr) (outs : List Str) (xs : List HX) (ds : List HD), vs = [.ref o, .ref b] /\ H o = some (.lst (outs.map V.str)) /\ HandsL H b xs ds /\ GoodHouse outs ds /\ ∀ H' p o' h hs, Same H H' -> HHouse H' p o' h hs outs ds -> Q (.ref p) H'
def PvEH (rows : List (List Int)) (H1 : Hp) (i : Nat) (ys : List V) (H' : Hp) : Prop := Same H1 H' /\ ∃ gs : List Addr, ys = gs.map V.ref /\ IntTs H' gs (rows.take i)
def PvDH (ds : List HD) (H1 : Hp) (i : Nat) (ys : List V) (H' : Hp) : Prop := Same H1 H' /\ ∃ hs : List Addr, ys = hs.map V.ref /\ HHands H' hs (ds.take i)
section
variable {P : Program} {w : World} {K : Fg} {mg : Str -> Option Value} {base : Heap} {a : Ad}
theorem e5 (B : Bt mg) (xh : FnAt P w K mg base "name_of" 1 ["hand"] (uj fun _ d => .str d.name)) (yq : FnAt P w K mg base "words_of_hand" 1 ["hand"] (uj fun x _ => .ref x.w)) (xu : FnAt P w K mg base "worths_of_hand" 1 ["hand"] (uj fun x _ => .ref x.g))
    (D : zl K mg "kept_hand" vh ["hand"]) : FnAt P w K mg base "kept_hand" 2 ["hand"] zbf := by
  refine FnAt.of D sc_kept_hand (fun vs H Q E h => ?_) (fun f cdv A outer s H vs Q E hr h => ?_)
  . obtain ⟨x, d, rfl, _⟩ := h
    rfl
  . obtain ⟨x, d, rfl, hx, h8, q⟩ := h
    refine ⟨_, (@zg _ _ _ _ _ (zu (i := 1) sc_kept_hand.nd rfl (Or.inl rfl) (y8 xt rfl B.tuple xv (za (yr ["row"] ["hand", "worths"] rfl (@yo _ _ _ _ (zo xu (hr.mono (by decide)) rfl (za (pv 0) (@zb _)))) (fun _ => (z6 (i := 0) (show (["row", "hand", "worths"] : List Str).Nodup by decide +kernel) rfl (Or.inl rfl))) (fun _ => (@ym _)) (fun _ => (y8 xt rfl B.tuple xv (za (pv 0) (@zb _)))) rfl (by decide +kernel) rfl rfl) (@zb _)))) (@zh _ _ _ (@zt _ _ _ _ (@yl _ _ _ _ _ (za (zo xh (hr.mono (by decide)) rfl (za (pv 0) (@zb _))) (za (y8 xt rfl B.tuple xv (za (zo yq (hr.mono (by decide)) rfl (za (pv 0) (@zb _))) (@zb _))) (za (pv 1) (@zb _)))))))), ?_⟩;rw [show start ["hand", "worths"] [V.ref x.t] = [some (V.ref x.t), none] from rfl];simp only [zk, zj, ↓reduceIte];refine ⟨x, d, rfl, hx, ?_⟩;simp only [zk, zj, ↓reduceIte];refine ⟨⟨_, .of hx.grid⟩, fun dd => ?_⟩;refine ye (xs := x.gs.map V.ref) (PvEH d.worths H) ⟨Same.refl _, [], rfl, rfl, fun i l p e => by simp at e⟩ ?_ ?_ ?_
    . rintro i ys H2 hi ⟨S, gs, rfl, ty⟩
      rw [Za, hx.len] at hi;have ly : gs.length = i := by rw [ty.len, Zj]; omega
      exact ⟨by rw [Za, ly]; exact Zd hi (Zd h8 (by decide)), S.seq (.of hx.grid)⟩
    . rintro i y ys H2 hy ⟨S, gs, rfl, ty⟩
      obtain ⟨r, hr', rfl⟩ := yk hy;have hi : i < d.worths.length := by have := (Zc.mp hr').1; have := hx.len; omega
      have e2 : d.worths[i]? = some d.worths[i] := by simp [hi]
      simp only [zk, zj, ↓reduceIte];refine ⟨_, S.seq (.of (hx.row i r _ hr' e2)), fun l hl => ?_⟩;have S3 : Same H2 (upd H2 l (.tup ((d.worths[i]).map V.int))) := Same.upd (Same.refl _) hl;refine ⟨S.trans S3, gs ++ [l], by simp, ?_⟩;rw [Zq, e2];exact (ty.mono S3).snoc zc
    . rintro ys H2 ⟨S, gs, rfl, ty⟩ l hl
      rw [Za, hx.len, Zt] at ty;have S3 : Same H2 (upd H2 l (.lst (gs.map V.ref))) := Same.upd (Same.refl _) hl;refine ⟨_, .of zc, fun l1 hl1 => ?_⟩;generalize upd H2 l (.lst (gs.map V.ref)) = H3 at *;have S4 : Same H3 (upd H3 l1 (.tup (gs.map V.ref))) := Same.upd (Same.refl _) hl1;have h4 : upd H3 l1 (.tup (gs.map V.ref)) l1 = some (.tup (gs.map V.ref)) := zc;generalize upd H3 l1 (.tup (gs.map V.ref)) = H4 at *;have S24 := S.trans (S3.trans S4);refine ⟨x, d, rfl, hx.mono S24, x, d, rfl, hx.mono S24, x.w, rfl, _, .of (hx.mono S24).words, fun l2 hl2 => ⟨by decide, fun p hp => ?_⟩⟩;have S5 : Same H4 (upd H4 l2 (.tup (d.words.map V.str))) := Same.upd (Same.refl _) hl2;have h5 : upd H4 l2 (.tup (d.words.map V.str)) l2 = some (.tup (d.words.map V.str)) := zc;generalize upd H4 l2 (.tup (d.words.map V.str)) = H5 at *;have S6 : Same H5 (upd H5 p (.tup [V.str d.name, V.ref l2, V.ref l1])) := Same.upd (Same.refl _) hp;exact q _ p l2 l1 gs (S24.trans (S5.trans S6)) ⟨zc, S6 _ _ h5, (S5.trans S6) _ _ h4, ty.len, fun i r ns e1 e2 => (S3.trans (S4.trans (S5.trans S6))) _ _ (ty.at' i r ns e1 e2)⟩
theorem bv (B : Bt mg) (C : Ct K mg a) (wu : FnAt P w K mg base "makes_house" 6 ["outcomes", "hands"] gg) (tq : FnAt P w K mg base "kept_hand" 2 ["hand"] zbf) (D : zl K mg "house_of" ua ["outcomes", "hands"]) : FnAtX P w K mg base "house_of" 7 ["outcomes", "hands"] gi := by
  refine FnAtX.of D ll (fun vs H Q E h => ?_) (fun f cdv A outer s H vs Q E hr h => ?_)
  . obtain ⟨o, b, outs, xs, ds, rfl, _⟩ := h
    rfl
  . obtain ⟨o, b, outs, xs, ds, rfl, ho, hh, g, q⟩ := h
    refine ⟨_, (@zg _ _ _ _ _ (@yb _ _ _ _ _ _ _ _ (@xp _ _ _ _ (xq (zo wu (hr.mono (by decide)) rfl (za (pv 0) (za (pv 1) (@zb _)))))) (@zh _ _ _ (xm rfl C.q_NoHouse.toErr rfl C.m_NoHouse (y6 rfl) (za (@zp _ _ _ _) (@zb _)))) (@z5 _)) (@zh _ _ _ (PS.nox (@zt _ _ _ _ (@yl _ _ _ _ _ (za (y8 xt rfl B.tuple xv (za (pv 0) (@zb _))) (za (y8 xt rfl B.tuple xv (za (yr ["hand"] ["outcomes", "hands"] rfl (@yo _ _ _ _ (pv 1)) (fun _ => (z6 (i := 0) (show (["hand", "outcomes", "hands"] : List Str).Nodup by decide +kernel) rfl (Or.inl rfl))) (fun _ => (@ym _)) (fun _ => (zo tq (hr.mono (by decide)) rfl (za (pv 0) (@zb _)))) rfl (by decide +kernel) rfl rfl) (@zb _))) (@zb _)))))))), ?_⟩;rw [show start ["outcomes", "hands"] [V.ref o, V.ref b] = [some (V.ref o), some (V.ref b)] from rfl];simp only [zk, zj, ↓reduceIte];have g2 := g.hands;refine ⟨o, b, outs, xs, ds, rfl, ho, hh, g, fun H1 S1 => ?_⟩;simp only [zk, zj, ↓reduceIte];have hh1 := hh.mono S1;have ho1 := S1 _ _ ho;refine iteF ⟨_, .of ho1, fun l hl => ?_⟩;have S2 : Same H1 (upd H1 l (.tup (outs.map V.str))) := Same.upd (Same.refl _) hl;have h2 : upd H1 l (.tup (outs.map V.str)) l = some (.tup (outs.map V.str)) := zc;generalize upd H1 l (.tup (outs.map V.str)) = H2 at *;have hh2 := hh1.mono S2;refine ⟨⟨_, .of hh2.at'⟩, fun d => ?_⟩;refine ye (xs := xs.map fun x => V.ref x.t) (PvDH ds H2) ⟨Same.refl _, [], rfl, rfl, fun i t d e => by simp at e⟩ ?_ ?_ ?_
    . rintro i ys H3 hi ⟨S, hs, rfl, ty⟩
      rw [Za, hh.len] at hi;have ly : hs.length = i := by rw [ty.1, Zj]; omega
      exact ⟨by rw [Za, ly]; exact Zd hi (Zd g2.2 (by decide)), S.seq (.of hh2.at')⟩
    . rintro i y ys H3 hy ⟨S, hs, rfl, ty⟩
      obtain ⟨x, hx, rfl⟩ := yk hy;have hi : i < ds.length := by have := (Zc.mp hx).1; have := hh.len; omega
      have e2 : ds[i]? = some ds[i] := by simp [hi]
      have hm := Zl hi;have r8 : (ds[i]).worths.length <= 8 := by rw [g.rows _ hm]; exact (g.words1 _ hm).2
      simp only [zk, zj, ↓reduceIte];refine ⟨x, ds[i], rfl, (hh2.hand i x ds[i] hx e2).mono S, r8, fun H4 p wd g' gs S4 tp => ?_⟩;refine ⟨S.trans S4, hs ++ [p], by simp, ?_⟩;rw [Zq, e2];exact (ty.mono S4).snoc tp
    . rintro ys H3 ⟨S, hs, rfl, ty⟩ l1 hl1
      rw [Za, hh.len, Zt] at ty;have S4 : Same H3 (upd H3 l1 (.lst (hs.map V.ref))) := Same.upd (Same.refl _) hl1;refine ⟨_, .of zc, fun l2 hl2 => ⟨by decide, fun p hp => ?_⟩⟩;generalize upd H3 l1 (.lst (hs.map V.ref)) = H4 at *;have S5 : Same H4 (upd H4 l2 (.tup (hs.map V.ref))) := Same.upd (Same.refl _) hl2;have h5 : upd H4 l2 (.tup (hs.map V.ref)) l2 = some (.tup (hs.map V.ref)) := zc;generalize upd H4 l2 (.tup (hs.map V.ref)) = H5 at *;have S6 : Same H5 (upd H5 p (.tup [V.ref l, V.ref l2])) := Same.upd (Same.refl _) hp;have S36 := S4.trans (S5.trans S6);exact q _ p l l2 hs (S1.trans (S2.trans (S.trans S36))) ⟨zc, (S.trans S36) _ _ h2, S6 _ _ h5, ty.mono S36⟩
end
theorem oj {α : Type} {xs : List α} {k : Nat} {x : α} (h1 : 1 <= k) (h2 : k <= xs.length) (h : xs[xs.length - k]? = some x) : atI xs (-(k : Int)) = some x := by
  unfold atI ixN;rw [if_neg (by omega), if_pos (by omega)]
  show xs[(-(k : Int) + xs.length).toNat]? = some x
  rw [show (-(k : Int) + xs.length).toNat = xs.length - k by omega];exact h
theorem l6 {xs : List V} {k : Nat} (h1 : 1 <= k) (h2 : k <= xs.length) : cutV xs none (some (-(k : Int))) = xs.take (xs.length - k) := by
  have e : HT.sIx xs.length xs.length (some (-(k : Int))) = xs.length - k := by
    show (if (-(k : Int)) < 0 then ((-(k : Int)) + (xs.length : Int)).toNat else min (-(k : Int)).toNat xs.length) = _
    rw [if_pos (by omega)];omega
  unfold cutV;rw [HT.sIx_none, e];simp
theorem gb : ∀ {zs : List Str} {m : Nat} {z : Str}, zs[m]? = some z -> zs.idxOf z <= m
  | [], m, z, h => by simp at h
  | y :: zs, 0, z, h => by
    simp at h;subst h;simp
  | y :: zs, m + 1, z, h => by
    rw [List.idxOf_cons]
    cases y == z with
    | true => exact ZE _
    | false => exact Nat.succ_le_succ (gb (by simpa using h))
theorem d3 (y z : Str) : eqV (V.str y) (V.str z) = decide (y = z) := rfl
theorem zaj {zs : List Str} {z : Str} (h : z ∈ zs) : FirstAt (zs.map V.str) (V.str z) (zs.idxOf z) := by
  have hl := Zz.mpr h;refine ⟨rfl, ?_, ⟨V.str z, ?_, ?_⟩, fun m y hm e => ?_⟩
  . rw [ZQ]
    intro x hx;obtain ⟨y, _, rfl⟩ := Zp.mp hx;rfl
  . rw [Ze, Zb hl, List.getElem_idxOf]
    rfl
  . rw [d3]
    exact decide_eq_true rfl
  . rw [Ze] at e
    have hml : m < zs.length := by omega
    rw [Zb hml] at e;cases e;rw [d3, decide_eq_false];intro ez;have := Zz.mpr h
    have hle : zs.idxOf z <= m := by
      exact gb (by rw [Zb hml, ez])
    omega
section
variable {P : Program} {w : World} {K : Fg} {mg : Str -> Option Value} {base : Heap} {a : Ad}
theorem iu (D : zl K mg "outcomes_of" vj ["house"]) : FnAt P w K mg base "outcomes_of" 1 ["house"] (xw K 0) := by
  refine FnAt.of D jg (fun vs H Q E h => ?_) (fun f cdv A outer s H vs Q E hr h => ?_)
  . obtain ⟨t, us, v, rfl, _⟩ := h
    rfl
  . obtain ⟨t, us, v, rfl, ht, e, q⟩ := h
    refine ⟨_, (@zh _ _ _ (@zt _ _ _ _ (@zr _ _ _ _ _ _ _ z9 (pv 0) (@zd _ _ _ _) (fun _ _ => rfl)))), ?_⟩;rw [show start ["house"] [V.ref t] = [some (V.ref t)] from rfl];simp only [zk, zj, ↓reduceIte];exact ⟨_, ht, _, zn (j := 0) e, q⟩
end
def fig (n : Nat) : Str := chr1 (48 + n)
def nmAt (ds : List HD) (k : Nat) : Str := (ds.map HD.name).getD k ⟨#[]⟩
def wd (ds : List HD) : Cd -> List Str
  | .says k w => [Str.ofString "says", nmAt ds k, w]
  | .count n w => [Str.ofString "count", fig n, w]
  | .no c => Str.ofString "not" :: wd ds c
  | .an c d => Str.ofString "and" :: (wd ds c ++ wd ds d)
  | .orr c d => Str.ofString "or" :: (wd ds c ++ wd ds d)
def okc (ct : Prop) (ds : List HD) : Cd -> Prop
  | .says k w => ∃ d, ds[k]? = some d /\ w ∈ d.words
  | .count n w => ct /\ 1 <= n /\ n <= 4 /\ ∃ d ∈ ds, w ∈ d.words
  | .no c => okc ct ds c
  | .an c d => okc ct ds c /\ okc ct ds d
  | .orr c d => okc ct ds c /\ okc ct ds d
theorem fq {α : Type} {ws : List α} {pl : Nat} {x : α} {r : List α} (h : ws.drop pl = x :: r) : ws.drop (pl + 1) = r := by
  rw [<- Yw, h]; rfl
def gz : Sp := fun vs H Q _ => ∃ (h : Addr) (hs : List Addr) (ds : List HD), vs = [.ref h] /\ H h = some (.tup (hs.map V.ref)) /\ HHands H hs ds /\ ds.length <= 4 /\ ∀ l, H l = none -> Q (.ref l) (upd H l (.lst ((ds.map HD.name).map V.str)))
def clW (ds : List HD) (c : Cd × Str) : List Str := Str.ofString "when" :: (wd ds c.1 ++ [Str.ofString "deal", c.2])
structure TextOf (z : Str) (css : List (List Str)) : Prop where
  eq : z = Str.join (Str.ofString "; ") (css.map (Str.join (Str.ofString " ")))
  ne : css ≠ []
  cne : ∀ cs ∈ css, cs ≠ []
  free : ∀ cs ∈ css, ∀ w ∈ cs, 32 ∉ w.cps.toList /\ 59 ∉ w.cps.toList
  few : css.length <= 40
  wide : ∀ cs ∈ css, cs.length <= 60
  len : z.length <= sizeLine
theorem af (y p q : Str) (ps : List Str) : Str.join y (p :: q :: ps) = p ++ y ++ Str.join y (q :: ps) := rfl
structure WordsAt (H : Hp) (l : Addr) (ls : List Addr) (css : List (List Str)) : Prop where
  at' : H l = some (.lst (ls.map V.ref))
  len : ls.length = css.length
  row : ∀ (i : Nat) (b : Addr) (cs : List Str), ls[i]? = some b -> css[i]? = some cs -> H b = some (.lst (cs.map V.str))
theorem WordsAt.mono {H H' : Hp} {l : Addr} {ls : List Addr} {css : List (List Str)} (S : Same H H') (h : WordsAt H l ls css) : WordsAt H' l ls css := ⟨S _ _ h.at', h.len, fun i b cs e1 e2 => S _ _ (h.row i b cs e1 e2)⟩
def fine (css : List (List Str)) : Prop := css.length <= 20 /\ ∀ cs ∈ css, cs.length <= 40
def PvSp (H : Hp) (css : List (List Str)) (i : Nat) (ys : List V) (H' : Hp) : Prop := Same H H' /\ ∃ ls : List Addr, ys = ls.map V.ref /\ ls.length = i /\ ∀ (j : Nat) (b : Addr) (cs : List Str), ls[j]? = some b -> css[j]? = some cs -> H' b = some (.lst (cs.map V.str))
def PvLn (H : Hp) (css : List (List Str)) (i : Nat) (ys : List V) (H' : Hp) : Prop := H' = H /\ ys = ((css.take i).map fun cs => (cs.length : Int)).map V.int
def rlW (ds : List HD) (cls : List (Cd × Str)) (z : Str) : List (List Str) := cls.map (clW ds) ++ [[Str.ofString "deal", z]]
theorem v6 {xs : List V} {k : Nat} (h : k <= xs.length) : cutV xs (some (k : Int)) none = xs.drop k := by
  unfold cutV;rw [HT.sIx_none, HT.sIx_nat, Yj h];exact ZG (by rw [ZO]; omega)
theorem xx {ws : List Str} {w : Str} (h : w ∈ ws) : inV (V.str w) (ws.map V.str) = true := by
  unfold inV;rw [YE];exact ⟨V.str w, Zp.mpr ⟨w, h, rfl⟩, decide_eq_true rfl⟩
section
variable {P : Program} {w : World} {K : Fg} {mg : Str -> Option Value} {base : Heap} {a : Ad} {ct : Prop}
theorem j0 (D : zl K mg "name_of" sk ["hand"]) : FnAt P w K mg base "name_of" 1 ["hand"] (xw K 0) := by
  refine FnAt.of D jc (fun vs H Q E h => ?_) (fun f cdv A outer s H vs Q E hr h => ?_)
  . obtain ⟨t, us, v, rfl, _⟩ := h
    rfl
  . obtain ⟨t, us, v, rfl, ht, e, q⟩ := h
    refine ⟨_, (@zh _ _ _ (@zt _ _ _ _ (@zr _ _ _ _ _ _ _ z9 (pv 0) (@zd _ _ _ _) (fun _ _ => rfl)))), ?_⟩;rw [show start ["hand"] [V.ref t] = [some (V.ref t)] from rfl];simp only [zk, zj, ↓reduceIte];exact ⟨_, ht, _, zn (j := 0) e, q⟩
theorem xb (D : zl K mg "condition_of" va ["told"]) : FnAt P w K mg base "condition_of" 1 ["told"] (xw K 0) := by
  refine FnAt.of D kg (fun vs H Q E h => ?_) (fun f cdv A outer s H vs Q E hr h => ?_)
  . obtain ⟨t, us, v, rfl, _⟩ := h
    rfl
  . obtain ⟨t, us, v, rfl, ht, e, q⟩ := h
    refine ⟨_, (@zh _ _ _ (@zt _ _ _ _ (@zr _ _ _ _ _ _ _ z9 (pv 0) (@zd _ _ _ _) (fun _ _ => rfl)))), ?_⟩;rw [show start ["told"] [V.ref t] = [some (V.ref t)] from rfl];simp only [zk, zj, ↓reduceIte];exact ⟨_, ht, _, zn (j := 0) e, q⟩
theorem x6 (D : zl K mg "place_of" rj ["told"]) : FnAt P w K mg base "place_of" 1 ["told"] (xw K 1) := by
  refine FnAt.of D e7 (fun vs H Q E h => ?_) (fun f cdv A outer s H vs Q E hr h => ?_)
  . obtain ⟨t, us, v, rfl, _⟩ := h
    rfl
  . obtain ⟨t, us, v, rfl, ht, e, q⟩ := h
    refine ⟨_, (@zh _ _ _ (@zt _ _ _ _ (@zr _ _ _ _ _ _ _ z9 (pv 0) (@zd _ _ _ _) (fun _ _ => rfl)))), ?_⟩;rw [show start ["told"] [V.ref t] = [some (V.ref t)] from rfl];simp only [zk, zj, ↓reduceIte];exact ⟨_, ht, _, zn (j := 1) e, q⟩
theorem aj (xh : FnAt P w K mg base "name_of" 1 ["hand"] (xw K 0)) (D : zl K mg "names_of" ue ["hands"]) : FnAt P w K mg base "names_of" 2 ["hands"] gz := by
  refine FnAt.of D m6 (fun vs H Q E h => ?_) (fun f cdv A outer s H vs Q E hr h => ?_)
  . obtain ⟨h, hs, ds, rfl, _⟩ := h
    rfl
  . obtain ⟨h, hs, ds, rfl, hh, hH, g4, q⟩ := h
    refine ⟨_, (@zh _ _ _ (@zt _ _ _ _ (yr ["hand"] ["hands"] rfl (@i6 _ _ _ _ (pv 0)) (fun _ => (z6 (i := 0) (show (["hand", "hands"] : List Str).Nodup by decide +kernel) rfl (Or.inl rfl))) (fun _ => (@ym _)) (fun _ => (zo xh (hr.mono (by decide)) rfl (za (pv 0) (@zb _)))) rfl (by decide +kernel) rfl rfl))), ?_⟩;rw [show start ["hands"] [V.ref h] = [some (V.ref h)] from rfl];simp only [zk, zj, ↓reduceIte];refine .inr ⟨⟨_, .of hh⟩, fun d2 => ?_⟩;refine ft (xs := hs.map V.ref) (PvNm H ds) ⟨rfl, rfl⟩ ?_ ?_ ?_
    . rintro i ys H4 hi ⟨rfl, rfl⟩
      refine ⟨?_, .of hh⟩;rw [Za, Za, Zj];exact Zd (ZB _ _) (Zd g4 (by decide))
    . rintro i x ys H4 hx ⟨rfl, rfl⟩
      obtain ⟨y, hy, rfl⟩ := yk hx;have hi : i < ds.length := by have := (Zc.mp hy).1; have := hH.1; omega
      have e2 : ds[i]? = some ds[i] := by simp [hi]
      obtain ⟨wd', g', gs', hK⟩ := hH.2 i y _ hy e2;simp only [zk, zj, ↓reduceIte];refine ⟨y, _, _, rfl, .of hK.tup, rfl, rfl, ?_⟩;rw [Zq, e2, Zn, Zn];rfl
    . rintro ys H4 ⟨rfl, rfl⟩ l hl
      rw [Za, hH.1, Zt];exact q l hl
end
section
variable {α : Type}
end
theorem wo (z : Str) (n : Nat) : (xj z n).length = z.length * n := by
  unfold xj Str.length;simp [List.length_flatten, Nat.mul_comm]
theorem vf (y z : Str) : (y ++ z).length = y.length + z.length := by
  show (y.cps ++ z.cps).size = _
  simp [Str.length]
theorem zam {i : Int} (h0 : 0 <= i) (h1 : i < 26) : atI (Str.ofString "abcdefghijklmnopqrstuvwxyz").cps.toList i = some (97 + i.toNat) := by
  have h : ∀ j : Fin 26, (Str.ofString "abcdefghijklmnopqrstuvwxyz").cps.toList[j.val]? = some (97 + j.val) := by decide +kernel
  have := zn (xs := (Str.ofString "abcdefghijklmnopqrstuvwxyz").cps.toList) (j := i.toNat) (v := 97 + i.toNat) (h ⟨i.toNat, by omega⟩)
  rwa [ZX h0] at this
theorem yp (a : Int) {n : Int} (h : 0 < n) : 0 <= a % n /\ a % n < n := ⟨YL _ (by omega), Yu _ h⟩
def o5 (zs : List Str) : Prop := ∀ z ∈ zs, z.length <= 8
theorem GoodN.short {zs : List Str} (h : ∀ z ∈ zs, GoodN z) : o5 zs := fun z hz => (h z hz).2.1
def w7 : List Str := [Str.ofString "when", Str.ofString "deal", Str.ofString "says", Str.ofString "count", Str.ofString "not", Str.ofString "and", Str.ofString "or"]
def w7n (j : Nat) : Str := w7.getD j ⟨#[]⟩
theorem zc8 : ∀ j : Fin 7, GoodN (w7n j.val) := by unfold GoodN; decide +kernel
theorem w7_inj : ∀ i j : Fin 7, w7n i.val = w7n j.val -> i = j := by decide +kernel
theorem w7_at : ∀ j : Fin 7, (w7.map V.str)[j.val]? = some (V.str (w7n j.val)) := fun j => by
  rw [Ze, w7n, Zk]
  match j with
  | ⟨0, _⟩ => rfl
  | ⟨1, _⟩ => rfl
  | ⟨2, _⟩ => rfl
  | ⟨3, _⟩ => rfl
  | ⟨4, _⟩ => rfl
  | ⟨5, _⟩ => rfl
  | ⟨6, _⟩ => rfl
def ak (m : Int) (k : Nat) : Str := w7n ((m + k) % 7).toNat
def iz (fi : Str) (p q : Nat) (b st : Int) (k : Nat) : Str := xj fi p ++ chr1 (97 + ((b + st * k) % 26).toNat) ++ xj fi q
def ot : List Int := [1, 3, 5, 7, 9, 11, 15, 17, 19, 21, 23, 25]
theorem d7 {f : Nat -> Str} {n : Nat} (hg : ∀ k, k < n -> GoodN (f k)) (hi : ∀ i j, i < n -> j < n -> f i = f j -> i = j) : (∀ z ∈ (List.range n).map f, GoodN z) /\ ((List.range n).map f).Nodup := by
  refine ⟨fun z hz => ?_, ?_⟩
  . obtain ⟨i, h, rfl⟩ := Zp.mp hz
    exact hg i (ZY.mp h)
  . refine List.pairwise_map.mpr (List.Pairwise.imp_of_mem ?_ (List.nodup_range (n := n)))
    intro i j h1 h2 hne e;exact hne (hi i j (ZY.mp h1) (ZY.mp h2) e)
theorem poolW (m : Int) {n : Nat} (hn : n <= 7) : (∀ z ∈ (List.range n).map (ak m), GoodN z) /\ ((List.range n).map (ak m)).Nodup := by
  refine d7 (fun k _ => ?_) (fun i j hi hj e => ?_)
  . have := yp (m + k) (show (0 : Int) < 7 by decide)
    exact zc8 ⟨((m + k) % 7).toNat, by omega⟩
  . have h1 := yp (m + i) (show (0 : Int) < 7 by decide)
    have h2 := yp (m + j) (show (0 : Int) < 7 by decide);have := w7_inj ⟨((m + i) % 7).toNat, by omega⟩ ⟨((m + j) % 7).toNat, by omega⟩ e;have h3 : ((m + i) % 7).toNat = ((m + j) % 7).toNat := congrArg Fin.val this;omega
theorem poolL {fi : Str} {p q : Nat} {b st : Int} {n c : Nat} (hf : fi = chr1 c) (hc : 97 <= c /\ c <= 122) (hpq : p + q <= 7) (hs : st ∈ ot) (hn : n <= 7) : (∀ z ∈ (List.range n).map (iz fi p q b st), GoodN z) /\ ((List.range n).map (iz fi p q b st)).Nodup := by
  have hl : fi.length = 1 := by rw [hf]; rfl
  have hm : ∀ d ∈ fi.cps.toList, 97 <= d /\ d <= 122 := fun d hd => by
    have : d = c := by rw [hf] at hd; simpa [chr1] using hd
    omega
  refine d7 (fun k _ => ?_) (fun i j hi hj e => ?_)
  . have := yp (b + st * k) (show (0 : Int) < 26 by decide)
    unfold iz;refine ⟨?_, ?_, fun d hd => ?_⟩
    . rw [vf, vf, wo, wo, hl]
      show 1 <= _ + 1 + _
      omega
    . rw [vf, vf, wo, wo, hl]
      show _ + 1 + _ <= 8
      omega
    . rcases m7 hd with z | z
      . rcases m7 z with z | z
        . exact hm d (ja z)
        . have : d = 97 + ((b + st * k) % 26).toNat := by simpa [chr1] using z
          omega
      . exact hm d (ja z)
  . have h := zc2 _ e
    have h1 := yp (b + st * i) (show (0 : Int) < 26 by decide);have h2 := yp (b + st * j) (show (0 : Int) < 26 by decide);have h3 : (b + st * i) % 26 = (b + st * j) % 26 := by omega
    simp only [ot, ZK, Zx, or_false] at hs
    rcases hs with rfl | rfl | rfl | rfl | rfl | rfl | rfl | rfl | rfl | rfl | rfl | rfl <;> omega
def dn : Sp := fun vs H Q _ => ∃ (c : Int) (many : Nat), vs = [.int c, .int many] /\ many <= 7 /\ ∀ (H' : Hp) (l : Addr) (zs : List Str), Same H H' -> H l = none -> H' l = some (.lst (zs.map V.str)) -> zs.length = many -> (∀ z ∈ zs, GoodN z) -> zs.Nodup -> Q (.ref l) H'
def PvPl (H : Hp) (f : Nat -> Str) (i : Nat) (ys : List V) (H' : Hp) : Prop := H' = H /\ ys = ((List.range i).map f).map V.str
theorem ka (f : Nat -> Str) (i : Nat) : ((List.range (i + 1)).map f).map V.str = ((List.range i).map f).map V.str ++ [V.str (f i)] := by rw [List.range_succ]; simp
def HandW (H : Hp) (t : Addr) (ws : List Str) : Prop := ∃ nm wl g, H t = some (.tup [.str nm, .ref wl, g]) /\ H wl = some (.lst (ws.map V.str)) /\ nm.length <= 8
theorem HandW.mono {H H' : Hp} {t : Addr} {ws : List Str} (S : Same H H') (h : HandW H t ws) : HandW H' t ws := by
  obtain ⟨nm, wl, g, h1, h2, h3⟩ := h;exact ⟨nm, wl, g, S _ _ h1, S _ _ h2, h3⟩
structure HandsW (H : Hp) (b : Addr) (hs : List (Addr × List Str)) : Prop where
  at' : H b = some (.lst (hs.map fun h => V.ref h.1))
  hand : ∀ h ∈ hs, HandW H h.1 h.2 /\ 1 <= h.2.length /\ h.2.length <= 7 /\ o5 h.2
theorem HandsW.mono {H H' : Hp} {b : Addr} {hs : List (Addr × List Str)} (S : Same H H') (h : HandsW H b hs) : HandsW H' b hs := ⟨S _ _ h.at', fun x hx => ⟨(h.hand x hx).1.mono S, (h.hand x hx).2⟩⟩
structure OkD (n t : Nat) (d : HD) : Prop where
  len : 1 <= d.words.length /\ d.words.length <= t
  good : ∀ z ∈ d.words, GoodN z
  nd : d.words.Nodup
  worths : d.worths = List.replicate d.words.length (List.replicate n 0)
def HandC (H : Hp) (b : Addr) (x : HX) (d : HD) : Prop := HandAt H x d /\ x.w ≠ b /\ x.g ≠ b /\ ∀ r ∈ x.gs, r ≠ b
theorem HandC.mono {H H' : Hp} {b : Addr} {x : HX} {d : HD} (S : Same H H') (h : HandC H b x d) : HandC H' b x d := ⟨h.1.mono S, h.2⟩
theorem HandC.upd {H : Hp} {b : Addr} {x : HX} {d : HD} {xs ys : List V} (hb : H b = some (.lst xs)) (h : HandC H b x d) : HandC (upd H b (.lst ys)) b x d := by
  obtain ⟨a, h1, h2, h3⟩ := h;refine ⟨⟨?_, ?_, ?_, a.len, fun i r ns e1 e2 => ?_⟩, h1, h2, h3⟩
  . have := a.tup
    rw [zy (fun z => by rw [z, hb] at this; cases this)]; exact this
  . rw [zy h1]; exact a.words
  . rw [zy h2]; exact a.grid
  . rw [zy (h3 r (Zi e1))]; exact a.row i r ns e1 e2
def HandsC (H : Hp) (b : Addr) (xs : List HX) (ds : List HD) : Prop := xs.length = ds.length /\ ∀ (i : Nat) (x : HX) (d : HD), xs[i]? = some x -> ds[i]? = some d -> HandC H b x d
theorem HandsC.mono {H H' : Hp} {b : Addr} {xs : List HX} {ds : List HD} (S : Same H H') (h : HandsC H b xs ds) : HandsC H' b xs ds := ⟨h.1, fun i x d e1 e2 => (h.2 i x d e1 e2).mono S⟩
theorem HandsC.upd {H : Hp} {b : Addr} {xs : List HX} {ds : List HD} {us ys : List V} (hb : H b = some (.lst us)) (h : HandsC H b xs ds) : HandsC (L2.upd H b (.lst ys)) b xs ds := ⟨h.1, fun i x d e1 e2 => (h.2 i x d e1 e2).upd hb⟩
theorem HandsC.snoc {H : Hp} {b : Addr} {xs : List HX} {ds : List HD} {x : HX} {d : HD} (h : HandsC H b xs ds) (q : HandC H b x d) : HandsC H b (xs ++ [x]) (ds ++ [d]) := by
  refine ⟨by simp [h.1], fun i a e e1 e2 => ?_⟩
  by_cases hi : i < xs.length
  . rw [Zg hi] at e1
    rw [Zg (by rw [<- h.1]; exact hi)] at e2;exact h.2 i a e e1 e2
  . rw [Zf (ZD.mp hi)] at e1
    rw [Zf (by rw [<- h.1]; exact ZD.mp hi)] at e2
    have h0 : i - xs.length = 0 := by
      have := (Zc.mp e1).1;simp at this;omega
    rw [h0] at e1;rw [<- h.1, h0] at e2;simp at e1 e2;subst e1 e2;exact q
theorem bc {outs nms : List Str} {ds : List HD} {hn t : Nat} (o1 : 1 <= outs.length /\ outs.length <= 8) (og : ∀ z ∈ outs, GoodN z) (od : outs.Nodup) (h1 : 1 <= hn /\ hn <= 4) (hl : ds.length = hn) (hm : ds.map HD.name = nms.take hn) (ng : ∀ z ∈ nms, GoodN z) (nd : nms.Nodup) (hd : ∀ d ∈ ds, OkD outs.length t d) (ht : t <= 7) (hf : t ^ hn <= 256) : GoodHouse outs ds where
  outs1 := o1
  outsG := og
  outsD := od
  hands := by omega
  handsG := fun d h => ng _ ((YV hn nms).subset (by rw [<- hm]; exact Zp.mpr ⟨d, h, rfl⟩))
  handsD := by rw [hm]; exact nd.sublist (YV _ _)
  words1 := fun d h => ⟨(hd d h).len.1, by have := (hd d h).len.2; omega⟩
  wordsG := fun d h => (hd d h).good
  wordsD := fun d h => (hd d h).nd
  rows := fun d h => by rw [(hd d h).worths, ZI]
  cols := fun d h r hr => by
    rw [(hd d h).worths] at hr;rw [ZV hr, ZI]
  nums := fun d h r hr n hn => by
    rw [(hd d h).worths] at hr;rw [ZV hr] at hn;rw [ZV hn]
    constructor <;> decide
  few := Zd (zc0 (n := hn) (t := t) (fun x hx => by
    obtain ⟨d, h, rfl⟩ := Zp.mp hx
    exact (hd d h).len.2) (by rw [Za, hl])) hf
def i4 (K : Fg) : Sp := fun vs H Q _ => ∃ (a : Addr) (ns : List Int), vs = [.ref a] /\ SqL K H a (ns.map V.int) /\ ∀ H' t o b outs xs ds, Same H H' -> H' t = some (.tup [.ref o, .ref b]) -> H' o = some (.lst (outs.map V.str)) -> HandsL H' b xs ds -> GoodHouse outs ds -> (∀ d ∈ ds, d.words.length <= 7) -> Q (.ref t) H'
def PvHs (a o nm b : Addr) (sh : Int) (nms : List Str) (n t : Nat) (H1 : Hp) (j : Nat) (σ : L2.St) (H' : Hp) : Prop := Same H1 H' /\ ∃ (xs : List HX) (ds : List HD) (t1 t2 t3 : Option V), H' b = some (.lst (xs.map fun x => V.ref x.t)) /\ HandsC H' b xs ds /\ ds.length = j /\ ds.map HD.name = nms.take j /\ (∀ d ∈ ds, OkD n t d) /\ σ = [some (.ref a), some (.int sh), some (.ref o), some (.ref nm), some (.ref b), t1, t2, t3]
def PvGd (H : Hp) (b : Addr) (n : Nat) (i : Nat) (ys : List V) (H' : Hp) : Prop := Same H H' /\ ∃ gs : List Addr, ys = gs.map V.ref /\ gs.length = i /\ ∀ r ∈ gs, H' r = some (.lst ((List.replicate n (0 : Int)).map V.int)) /\ r ≠ b
def PvZr (H : Hp) (i : Nat) (ys : List V) (H' : Hp) : Prop := H' = H /\ ys = (List.replicate i (0 : Int)).map V.int
structure RowsW (H : Hp) (l : Addr) (rs : List (Addr × List Str)) (n : Nat) : Prop where
  at' : H l = some (.lst (rs.map fun r => V.ref r.1))
  row : ∀ r ∈ rs, H r.1 = some (.tup (r.2.map V.str)) /\ r.2.length = n
theorem RowsW.mono {H H' : Hp} {l : Addr} {rs : List (Addr × List Str)} {n : Nat} (S : Same H H') (h : RowsW H l rs n) : RowsW H' l rs n := ⟨S _ _ h.at', fun r hr => ⟨S _ _ (h.row r hr).1, (h.row r hr).2⟩⟩
def cn : Sp := fun vs H Q _ => ∃ (b : Addr) (xs : List HX) (ds : List HD), vs = [.ref b] /\ HandsL H b xs ds /\ ds.length <= 4 /\ (∀ d ∈ ds, d.words.length <= 8) /\ ∀ H' l as, Same H H' -> RwsAt H' l as (xi (ds.map HD.words)) -> Q (.ref l) H'
def PvGw (b l h : Addr) (rs : List (List Str)) (ws : List Str) (H : Hp) (m : Nat) (σ : L2.St) (H' : Hp) : Prop := Same H H' /\ ∃ (p : Addr) (as' : List Addr) (v : Option V), RwsAt H' p as' (wt (rs.take m) ws) /\ σ = [some (.ref b), some (.ref l), some (.ref h), some (.ref p), v]
def PvRo (b : Addr) (H : Hp) (ds : List HD) (i : Nat) (σ : L2.St) (H' : Hp) : Prop := Same H H' /\ ∃ (l : Addr) (as : List Addr) (v1 v2 v3 : Option V), RwsAt H' l as (xi ((ds.map HD.words).take i)) /\ σ = [some (.ref b), some (.ref l), v1, v2, v3]
theorem HandsL.wide {H : Hp} {b : Addr} {xs : List HX} {ds : List HD} (h : HandsL H b xs ds) (hg : ∀ d ∈ ds, GoodN d.name /\ 1 <= d.words.length /\ d.words.length <= 7 /\ ∀ z ∈ d.words, GoodN z) : HandsW H b ((xs.zip ds).map fun p => (p.1.t, p.2.words)) /\ ((xs.zip ds).map fun p => (p.1.t, p.2.words)).length = ds.length := by
  have hl := h.len;refine ⟨⟨?_, fun y hy => ?_⟩, by rw [Za, Yq]; omega⟩
  . rw [h.at', Yv]
    congr 2
    have : xs.map (fun x => V.ref x.t) = (xs.zip ds).map ((fun x => V.ref x.t) ∘ Prod.fst) := by
      rw [<- Yv, List.map_fst_zip (by omega)]
    rw [this];rfl
  . obtain ⟨p, hp, rfl⟩ := Zp.mp hy
    obtain ⟨i, hi, rfl⟩ := Zy hp;rw [Yq] at hi;have e1 : xs[i]? = some xs[i] := Zb (by omega);have e2 : ds[i]? = some ds[i] := Zb (by omega);rw [YY];have a := h.hand i _ _ e1 e2;obtain ⟨g1, g2, g3, g4⟩ := hg _ (Zl (show i < ds.length by omega));exact ⟨⟨_, _, _, a.tup, a.words, g1.2.1⟩, g2, g3, GoodN.short g4⟩
theorem RwsAt.wide {H : Hp} {l : Addr} {as : List Addr} {rows : List (List Str)} {n : Nat} (h : RwsAt H l as rows) (hw : ∀ r ∈ rows, r.length = n) : RowsW H l (as.zip rows) n := by
  have hl := h.tups.len;refine ⟨?_, fun y hy => ?_⟩
  . rw [h.lst]
    congr 2
    have : as = (as.zip rows).map Prod.fst := (List.map_fst_zip (by omega)).symm
    conv => lhs; rw [this]
    rw [Yv];rfl
  . obtain ⟨i, hi, rfl⟩ := Zy hy
    rw [Yq] at hi;have e1 : as[i]? = some as[i] := Zb (by omega);have e2 : rows[i]? = some rows[i] := Zb (by omega);rw [YY];exact ⟨h.tups.at' i _ _ e1 e2, hw _ (Zl _)⟩
section
variable {P : Program} {w : World} {K : Fg} {mg : Str -> Option Value} {base : Heap}
theorem yt (B : Bt mg) (D : zl K mg "_law_cell_at" vn ["script", "k"]) : FnAt P w K mg base "_law_cell_at" 1 ["script", "k"] (kz K) := by
  refine FnAt.of D jq (fun vs H Q E h => ?_) (fun f cdv A outer s H vs Q E hr h => ?_)
  . obtain ⟨a, ns, k, rfl, _⟩ := h
    rfl
  . obtain ⟨a, ns, k, rfl, hS, hk, q⟩ := h
    refine ⟨_, (@zg _ _ _ _ _ (@yb _ _ _ _ _ _ _ _ (@zw _ _ _ _ _ _ _ _ pb (pv 1) (zq zv rfl B.len yc (za (pv 0) (@zb _))) (z0 _)) (@zh _ _ _ (@zt _ _ _ _ (@zr _ _ _ _ _ _ _ z4 (pv 0) (pv 1) (fun _ _ => rfl)))) (@z5 _)) (@zh _ _ _ (@zt _ _ _ _ (@zd _ _ _ _)))), ?_⟩;rw [show start ["script", "k"] [V.ref a, V.int k] = [some (V.ref a), some (V.int k)] from rfl];simp only [zk, zj, ↓reduceIte];refine ⟨ns.map V.int, .inl hS, ?_⟩;rw [Za];refine ite2 (fun h => ?_) (fun h => ?_)
    . have h' : k < ns.length := of_decide_eq_true h
      have hlt : k.toNat < ns.length := by omega
      have e : ns[k.toNat]? = some ns[k.toNat] := by simp [hlt]
      have e2 := zn (xs := ns.map V.int) (j := k.toNat) (v := V.int ns[k.toNat]) (by rw [Ze, e]; rfl);rw [ZX hk] at e2;exact ⟨ns.map V.int, hS, _, e2, q _⟩
    . exact q 0
theorem uv (B : Bt mg) (D : zl K mg "_law_pool" z7 ["cell", "many"]) : FnAt P w K mg base "_law_pool" 1 ["cell", "many"] dn := by
  refine FnAt.of D sc_law_pool (fun vs H Q E h => ?_) (fun f cdv A outer s H vs Q E hr h => ?_)
  . obtain ⟨c, many, rfl, _⟩ := h
    rfl
  . obtain ⟨c, many, rfl, hm, q⟩ := h
    have b11 : PSs (cxOf CX0 P w K mg base ["cell", "many", "letters", "number", "filler", "some", "begin", "step", "size", "place", "front", "back"] "_law_pool" (zf z7) f cdv A outer s H E).nox ((zx z7).drop 11) _ := (@c7 _ _ _ _ _ (@zt _ _ _ _ (yr ["k"] ["cell", "many", "letters", "number", "filler", "some", "begin", "step", "size", "place", "front", "back"] rfl (tw rfl B.range (za (pv 1) (@zb _))) (fun _ => (z6 (i := 0) (show (["k", "cell", "many", "letters", "number", "filler", "some", "begin", "step", "size", "place", "front", "back"] : List Str).Nodup by decide +kernel) rfl (Or.inl rfl))) (fun _ => (@ym _)) (fun _ => (@zm _ _ _ _ _ _ _ _ x8 (@zm _ _ _ _ _ _ _ _ x8 (pv 11) (@zr _ _ _ _ _ _ _ eo (pv 3) (@zm _ _ _ _ _ _ _ _ yf (@zm _ _ _ _ _ _ _ _ yg (pv 7) (@zm _ _ _ _ _ _ _ _ oi (pv 8) (pv 0))) (@zd _ _ _ _)) (fun _ _ => rfl))) (pv 12))) rfl (by decide +kernel) rfl rfl)) rfl rfl);have b10 : PSs (cxOf CX0 P w K mg base ["cell", "many", "letters", "number", "filler", "some", "begin", "step", "size", "place", "front", "back"] "_law_pool" (zf z7) f cdv A outer s H E).nox ((zx z7).drop 10) _ := (@yv _ _ _ _ _ _ (zu (i := 11) sc_law_pool.nd rfl (Or.inr rfl) (@zm _ _ _ _ _ _ _ _ dy (pv 4) (@zm _ _ _ _ _ _ _ _ mj (@zm _ _ _ _ _ _ _ _ mj (pv 8) (@zd _ _ _ _)) (pv 9)))) rfl @b11);have b9 : PSs (cxOf CX0 P w K mg base ["cell", "many", "letters", "number", "filler", "some", "begin", "step", "size", "place", "front", "back"] "_law_pool" (zf z7) f cdv A outer s H E).nox ((zx z7).drop 9) _ := (@yv _ _ _ _ _ _ (zu (i := 10) sc_law_pool.nd rfl (Or.inr rfl) (@zm _ _ _ _ _ _ _ _ dy (pv 4) (pv 9))) rfl @b10);have b8 : PSs (cxOf CX0 P w K mg base ["cell", "many", "letters", "number", "filler", "some", "begin", "step", "size", "place", "front", "back"] "_law_pool" (zf z7) f cdv A outer s H E).nox ((zx z7).drop 8) _ := (@yv _ _ _ _ _ _ (zu (i := 9) sc_law_pool.nd rfl (Or.inl rfl) (@zm _ _ _ _ _ _ _ _ yf (@zm _ _ _ _ _ _ _ _ yn (pv 3) (@zd _ _ _ _)) (pv 8))) rfl @b9);have b7 : PSs (cxOf CX0 P w K mg base ["cell", "many", "letters", "number", "filler", "some", "begin", "step", "size", "place", "front", "back"] "_law_pool" (zf z7) f cdv A outer s H E).nox ((zx z7).drop 7) _ := (@yv _ _ _ _ _ _ (zu (i := 8) sc_law_pool.nd rfl (Or.inl rfl) (@zm _ _ _ _ _ _ _ _ yg (@zd _ _ _ _) (@zm _ _ _ _ _ _ _ _ yf (@zm _ _ _ _ _ _ _ _ yn (pv 3) (@zd _ _ _ _)) (@zd _ _ _ _)))) rfl @b8);have b6 : PSs (cxOf CX0 P w K mg base ["cell", "many", "letters", "number", "filler", "some", "begin", "step", "size", "place", "front", "back"] "_law_pool" (zf z7) f cdv A outer s H E).nox ((zx z7).drop 6) _ := (@yv _ _ _ _ _ _ (zu (i := 7) sc_law_pool.nd rfl (Or.inr rfl) (@zr _ _ _ _ _ _ _ z4 (@yd _ _ _ _ (di (ns := [1, 3, 5, 7, 9, 11, 15, 17, 19, 21, 23, 25]) rfl)) (@zm _ _ _ _ _ _ _ _ yf (@zm _ _ _ _ _ _ _ _ yn (pv 3) (@zd _ _ _ _)) (@zd _ _ _ _)) (fun _ _ => rfl))) rfl @b7);have b5 : PSs (cxOf CX0 P w K mg base ["cell", "many", "letters", "number", "filler", "some", "begin", "step", "size", "place", "front", "back"] "_law_pool" (zf z7) f cdv A outer s H E).nox ((zx z7).drop 5) _ := (@yv _ _ _ _ _ _ (zu (i := 6) sc_law_pool.nd rfl (Or.inr rfl) (@zm _ _ _ _ _ _ _ _ yf (@zm _ _ _ _ _ _ _ _ yn (pv 3) (@zd _ _ _ _)) (@zd _ _ _ _))) rfl @b6);have b4 : PSs (cxOf CX0 P w K mg base ["cell", "many", "letters", "number", "filler", "some", "begin", "step", "size", "place", "front", "back"] "_law_pool" (zf z7) f cdv A outer s H E).nox ((zx z7).drop 4) _ := (@yv _ _ _ _ _ _ (@yb _ _ _ _ _ _ _ _ (@zw _ _ _ _ _ _ _ _ y9 (@zm _ _ _ _ _ _ _ _ yf (@zm _ _ _ _ _ _ _ _ yn (pv 3) (@zd _ _ _ _)) (@zd _ _ _ _)) (@zd _ _ _ _) (z0 _)) (@zh _ _ _ (@zt _ _ _ _ (yr ["k"] ["cell", "many", "letters", "number", "filler", "some", "begin", "step", "size", "place", "front", "back"] rfl (tw rfl B.range (za (pv 1) (@zb _))) (fun _ => (z6 (i := 0) (show (["k", "cell", "many", "letters", "number", "filler", "some", "begin", "step", "size", "place", "front", "back"] : List Str).Nodup by decide +kernel) rfl (Or.inl rfl))) (fun _ => (@ym _)) (fun _ => (@zr _ _ _ _ _ _ _ z4 (pv 6) (@zm _ _ _ _ _ _ _ _ yf (@zm _ _ _ _ _ _ _ _ yg (@zm _ _ _ _ _ _ _ _ yn (pv 4) (@zd _ _ _ _)) (pv 0)) (@zd _ _ _ _)) (fun _ _ => rfl))) rfl (by decide +kernel) rfl rfl))) (@z5 _)) rfl @b5);have b3 : PSs (cxOf CX0 P w K mg base ["cell", "many", "letters", "number", "filler", "some", "begin", "step", "size", "place", "front", "back"] "_law_pool" (zf z7) f cdv A outer s H E).nox ((zx z7).drop 3) _ := (@yv _ _ _ _ _ _ (zu (i := 5) sc_law_pool.nd rfl (Or.inr rfl) (@yd _ _ _ _ (@za _ _ _ _ _ (@zp _ _ _ _) (@za _ _ _ _ _ (@zp _ _ _ _) (@za _ _ _ _ _ (@zp _ _ _ _) (@za _ _ _ _ _ (@zp _ _ _ _) (@za _ _ _ _ _ (@zp _ _ _ _) (@za _ _ _ _ _ (@zp _ _ _ _) (@za _ _ _ _ _ (@zp _ _ _ _) (@zb _) (zi nofun)) (zi nofun)) (zi nofun)) (zi nofun)) (zi nofun)) (zi nofun)) (zi nofun)))) rfl @b4);have b2 : PSs (cxOf CX0 P w K mg base ["cell", "many", "letters", "number", "filler", "some", "begin", "step", "size", "place", "front", "back"] "_law_pool" (zf z7) f cdv A outer s H E).nox ((zx z7).drop 2) _ := (@yv _ _ _ _ _ _ (zu (i := 4) sc_law_pool.nd rfl (Or.inl rfl) (@zr _ _ _ _ _ _ _ eo (pv 2) (@zm _ _ _ _ _ _ _ _ yf (pv 3) (@zd _ _ _ _)) (fun _ _ => rfl))) rfl @b3);have b1 : PSs (cxOf CX0 P w K mg base ["cell", "many", "letters", "number", "filler", "some", "begin", "step", "size", "place", "front", "back"] "_law_pool" (zf z7) f cdv A outer s H E).nox ((zx z7).drop 1) _ := (@yv _ _ _ _ _ _ (zu (i := 3) sc_law_pool.nd rfl (Or.inr rfl) (@zm _ _ _ _ _ _ _ _ yf (@zm _ _ _ _ _ _ _ _ yg (@zm _ _ _ _ _ _ _ _ oi (@zm _ _ _ _ _ _ _ _ yf (pv 0) (@zd _ _ _ _)) (@zd _ _ _ _)) (@zd _ _ _ _)) (@zd _ _ _ _))) rfl @b2);have b0 : PSs (cxOf CX0 P w K mg base ["cell", "many", "letters", "number", "filler", "some", "begin", "step", "size", "place", "front", "back"] "_law_pool" (zf z7) f cdv A outer s H E).nox ((zx z7).drop 0) _ := (@yv _ _ _ _ _ _ (zu (i := 2) sc_law_pool.nd rfl (Or.inr rfl) (@zp _ _ _ _)) rfl @b1);have b_ := @ce _ _ _ @b0;refine ⟨_, @b_, ?_⟩;rw [show start ["cell", "many", "letters", "number", "filler", "some", "begin", "step", "size", "place", "front", "back"] [V.int c, V.int many] = [some (V.int c), some (V.int many), none, none, none, none, none, none, none, none, none, none] from rfl];simp only [zk, zj, ↓reduceIte];have hl1 := zam (YL ((c % 2147483647 * 48271 + 11) % 2147483647) (show (26 : Int) ≠ 0 by decide)) (Yu ((c % 2147483647 * 48271 + 11) % 2147483647) (show (0 : Int) < 26 by decide));refine ⟨by decide, ?_, by decide, by decide, by decide, _, hl1, ?_⟩
    . exact .inr ⟨by decide, by decide⟩
    have hnum : 0 <= (c % 2147483647 * 48271 + 11) % 2147483647 := YL _ (by decide);generalize (c % 2147483647 * 48271 + 11) % 2147483647 = num at *;refine ⟨by decide, fun p hp => ?_⟩;have S1 : Same H (upd H p (.lst [V.str (Str.ofString "when"), V.str (Str.ofString "deal"), V.str (Str.ofString "says"), V.str (Str.ofString "count"), V.str (Str.ofString "not"), V.str (Str.ofString "and"), V.str (Str.ofString "or")])) := Same.upd (Same.refl _) hp;have t1 : upd H p (.lst [V.str (Str.ofString "when"), V.str (Str.ofString "deal"), V.str (Str.ofString "says"), V.str (Str.ofString "count"), V.str (Str.ofString "not"), V.str (Str.ofString "and"), V.str (Str.ofString "or")]) p = some (.lst [V.str (Str.ofString "when"), V.str (Str.ofString "deal"), V.str (Str.ofString "says"), V.str (Str.ofString "count"), V.str (Str.ofString "not"), V.str (Str.ofString "and"), V.str (Str.ofString "or")]) := zc;generalize upd H p (.lst [V.str (Str.ofString "when"), V.str (Str.ofString "deal"), V.str (Str.ofString "says"), V.str (Str.ofString "count"), V.str (Str.ofString "not"), V.str (Str.ofString "and"), V.str (Str.ofString "or")]) = H1 at *;refine ⟨⟨by decide, by decide⟩, by decide, rfl, ite2 (fun h => ?_) (fun h => ?_)⟩
    . refine ⟨by omega, by omega, fun d => ?_⟩
      rw [Zw];refine ky (PvPl H1 (ak (num / 78))) ⟨rfl, rfl⟩ ?_ ?_ ?_
      . rintro i ys H' hi ⟨rfl, rfl⟩
        rw [Za, Za, Yz];exact Zd (show i <= 9 by omega) (by decide)
      . rintro i ys H' hi ⟨rfl, rfl⟩
        simp only [zk, zj, ↓reduceIte];have h7 := yp (num / 78 + i) (show (0 : Int) < 7 by decide);have a7 := zn (w7_at ⟨((num / 78 + (i : Int)) % 7).toNat, by omega⟩);rw [ZX h7.1] at a7;refine ⟨⟨by decide, by decide⟩, by decide, _, .of t1, _, a7, rfl, ?_⟩;rw [ka];rfl
      . rintro ys H' ⟨rfl, rfl⟩ l hl
        have g := poolW (num / 78) hm;exact q _ l _ (S1.trans (Same.upd (Same.refl _) hl)) (S1.free hl) zc (by rw [Za, Yz]) g.1 g.2
    . refine ⟨⟨by decide, by decide⟩, by decide, by decide, fun p2 hp2 => ?_⟩
      have S2 : Same H1 (upd H1 p2 (.lst [V.int 1, V.int 3, V.int 5, V.int 7, V.int 9, V.int 11, V.int 15, V.int 17, V.int 19, V.int 21, V.int 23, V.int 25])) := Same.upd (Same.refl _) hp2;have t2 : upd H1 p2 (.lst [V.int 1, V.int 3, V.int 5, V.int 7, V.int 9, V.int 11, V.int 15, V.int 17, V.int 19, V.int 21, V.int 23, V.int 25]) p2 = some (.lst [V.int 1, V.int 3, V.int 5, V.int 7, V.int 9, V.int 11, V.int 15, V.int 17, V.int 19, V.int 21, V.int 23, V.int 25]) := zc;generalize upd H1 p2 (.lst [V.int 1, V.int 3, V.int 5, V.int 7, V.int 9, V.int 11, V.int 15, V.int 17, V.int 19, V.int 21, V.int 23, V.int 25]) = H2 at *
      have hst : ∃ st : Int, atI [V.int 1, V.int 3, V.int 5, V.int 7, V.int 9, V.int 11, V.int 15, V.int 17, V.int 19, V.int 21, V.int 23, V.int 25] (num / 2028 % 12) = some (V.int st) /\ st ∈ ot := by
        have h1 := yp (num / 2028) (show (0 : Int) < 12 by decide);generalize num / 2028 % 12 = m at h1 ⊢
        have h3 : ∀ j : Fin 12, ∃ st : Int, [V.int 1, V.int 3, V.int 5, V.int 7, V.int 9, V.int 11, V.int 15, V.int 17, V.int 19, V.int 21, V.int 23, V.int 25][j.val]? = some (V.int st) /\ st ∈ ot := by
          intro j;have : ∀ j : Fin 12, [V.int 1, V.int 3, V.int 5, V.int 7, V.int 9, V.int 11, V.int 15, V.int 17, V.int 19, V.int 21, V.int 23, V.int 25][j.val]? = some (V.int (([1, 3, 5, 7, 9, 11, 15, 17, 19, 21, 23, 25] : List Int).getD j.val 0)) /\ ([1, 3, 5, 7, 9, 11, 15, 17, 19, 21, 23, 25] : List Int).getD j.val 0 ∈ ot := by decide
          exact ⟨_, this j⟩
        obtain ⟨st, e1, e2⟩ := h3 ⟨m.toNat, by omega⟩;have h5 := zn e1;rw [ZX h1.1] at h5;exact ⟨st, h5, e2⟩
      obtain ⟨st, e1, e3⟩ := hst
      have e4 : 0 <= st /\ st < 26 := by
        have := e3;simp only [ot, ZK, Zx, or_false] at this;omega
      refine ⟨⟨by decide, by decide⟩, by decide, _, .of t2, _, e1, ⟨by decide, by decide⟩, by decide, ⟨by decide, by decide⟩, ?_⟩;have hs8 := yp (num / 24336) (show (0 : Int) < 8 by decide);have hp8 := yp (num / 194688) (show (0 : Int) < 1 + num / 24336 % 8 by omega);have hf : (⟨#[97 + (num % 26).toNat]⟩ : Str).length = 1 := rfl;have h26 := yp num (show (0 : Int) < 26 by decide);have hfc : (⟨#[97 + (num % 26).toNat]⟩ : Str) = chr1 (97 + (num % 26).toNat) := rfl;generalize (⟨#[97 + (num % 26).toNat]⟩ : Str) = fi at *;generalize num / 194688 % (1 + num / 24336 % 8) = pl at *;generalize num / 24336 % 8 = sz8 at *;rw [hf, Nat.one_mul, Nat.one_mul];refine ⟨by omega, by omega, by omega, ?_, by omega, by omega, ?_, by omega, by omega, fun d => ?_⟩
      . exact Zd (show pl.toNat <= 8 by omega) (by decide)
      . exact Zd (show (1 + sz8 - 1 - pl).toNat <= 8 by omega) (by decide)
      rw [Zw];refine ky (PvPl H2 (iz fi pl.toNat (1 + sz8 - 1 - pl).toNat (num / 78 % 26) st)) ⟨rfl, rfl⟩ ?_ ?_ ?_
      . rintro i ys H' hi ⟨rfl, rfl⟩
        rw [Za, Za, Yz];exact Zd (show i <= 9 by omega) (by decide)
      . rintro i ys H' hi ⟨rfl, rfl⟩
        simp only [zk, zj, ↓reduceIte];have hb := zam (YL (num / 78 % 26 + st * i) (show (26 : Int) ≠ 0 by decide)) (Yu (num / 78 % 26 + st * i) (show (0 : Int) < 26 by decide));refine ⟨.inl ⟨by omega, by omega⟩, by decide, by decide, _, hb, ?_, ?_, rfl, ?_⟩
        . rw [wo, hf]
          exact Zd (show _ <= 20 by show 1 * _ + 1 <= 20; omega) (by decide)
        . rw [vf, wo, wo, hf]
          exact Zd (show _ <= 30 by show 1 * _ + 1 + 1 * _ <= 30; omega) (by decide)
        . rw [ka]
          rfl
      . rintro ys H' ⟨rfl, rfl⟩ l hl
        have g := poolL (fi := fi) (p := pl.toNat) (q := (1 + sz8 - 1 - pl).toNat) (b := num / 78 % 26) (st := st) (n := many) hfc (by omega) (by omega) e3 hm;exact q _ l _ (S1.trans (S2.trans (Same.upd (Same.refl _) hl))) (S1.free (S2.free hl)) zc (by rw [Za, Yz]) g.1 g.2
theorem px (B : Bt mg) (yt : FnAt P w K mg base "_law_cell_at" 1 ["script", "k"] (kz K)) (uv : FnAt P w K mg base "_law_pool" 1 ["cell", "many"] dn) (D : zl K mg "_law_parts" tu ["script"]) : FnAt P w K mg base "_law_parts" 2 ["script"] (i4 K) := by
  refine FnAt.of D sc_law_parts (fun vs H Q E h => ?_) (fun f cdv A outer s H vs Q E hr h => ?_)
  . obtain ⟨a, ns, rfl, _⟩ := h
    rfl
  . obtain ⟨a, ns, rfl, hS, q⟩ := h
    refine ⟨_, (@zg _ _ _ _ _ (zu (i := 1) sc_law_parts.nd rfl (Or.inl rfl) (zo yt (hr.mono (by decide)) rfl (za (pv 0) (za (@zd _ _ _ _) (@zb _))))) (@zg _ _ _ _ _ (zu (i := 2) sc_law_parts.nd rfl (Or.inr rfl) (zo uv (hr.mono (by decide)) rfl (za (zo yt (hr.mono (by decide)) rfl (za (pv 0) (za (@zd _ _ _ _) (@zb _)))) (za (@zm _ _ _ _ _ _ _ _ yg (@zd _ _ _ _) (@zm _ _ _ _ _ _ _ _ yf (pv 1) (@zd _ _ _ _))) (@zb _))))) (@zg _ _ _ _ _ (zu (i := 3) sc_law_parts.nd rfl (Or.inl rfl) (zo uv (hr.mono (by decide)) rfl (za (@zm _ _ _ _ _ _ _ _ yg (@zm _ _ _ _ _ _ _ _ yn (zo yt (hr.mono (by decide)) rfl (za (pv 0) (za (@zd _ _ _ _) (@zb _)))) (@zd _ _ _ _)) (@zd _ _ _ _)) (za (@zd _ _ _ _) (@zb _))))) (@zg _ _ _ _ _ (zu (i := 4) sc_law_parts.nd rfl (Or.inl rfl) (@yd _ _ _ _ (@zb _))) (@zg _ _ _ _ _ (sf PassesOwn.never rfl (tw rfl B.range (za (@zm _ _ _ _ _ _ _ _ yg (@zd _ _ _ _) (@zm _ _ _ _ _ _ _ _ yf (@zm _ _ _ _ _ _ _ _ yn (pv 1) (@zd _ _ _ _)) (@zd _ _ _ _))) (@zb _))) (z6 (i := 5) sc_law_parts.nd rfl (Or.inl rfl)) (@zg _ _ _ _ _ (zu (i := 6) sc_law_parts.nd rfl (Or.inl rfl) (@zm _ _ _ _ _ _ _ _ yg (@zd _ _ _ _) (@zm _ _ _ _ _ _ _ _ yf (@zm _ _ _ _ _ _ _ _ yn (zo yt (hr.mono (by decide)) rfl (za (pv 0) (za (@zd _ _ _ _) (@zb _)))) (@zr _ _ _ _ _ _ _ z4 (@yd _ _ _ _ (za (@zd _ _ _ _) (za (@zd _ _ _ _) (za (@zd _ _ _ _) (za (@zd _ _ _ _) (@zb _)))))) (pv 5) (fun _ _ => rfl))) (@zr _ _ _ _ _ _ _ z4 (@yd _ _ _ _ (za (@zd _ _ _ _) (za (@zd _ _ _ _) (za (@zd _ _ _ _) (za (@zd _ _ _ _) (@zb _)))))) (@zm _ _ _ _ _ _ _ _ yf (@zm _ _ _ _ _ _ _ _ yn (pv 1) (@zd _ _ _ _)) (@zd _ _ _ _)) (fun _ _ => rfl))))) (@zg _ _ _ _ _ (zu (i := 7) sc_law_parts.nd rfl (Or.inl rfl) (zo uv (hr.mono (by decide)) rfl (za (@zr _ _ _ _ _ _ _ z4 (@yd _ _ _ _ (za (@zm _ _ _ _ _ _ _ _ yn (zo yt (hr.mono (by decide)) rfl (za (pv 0) (za (@zd _ _ _ _) (@zb _)))) (@zd _ _ _ _)) (za (@zm _ _ _ _ _ _ _ _ yg (@zm _ _ _ _ _ _ _ _ yn (zo yt (hr.mono (by decide)) rfl (za (pv 0) (za (@zd _ _ _ _) (@zb _)))) (@zd _ _ _ _)) (pv 5)) (@zb _)))) (@zm _ _ _ _ _ _ _ _ yf (@zm _ _ _ _ _ _ _ _ yn (pv 1) (@zd _ _ _ _)) (@zd _ _ _ _)) (fun _ _ => rfl)) (za (pv 6) (@zb _))))) (@zh _ _ _ (qd (x9 PySem.F.plainAttrs_list PySem.F.slot_list_append PySem.F.type_list_append su (pv 4) (@za _ _ _ _ _ (@yl _ _ _ _ _ (@za _ _ _ _ _ (@zr _ _ _ _ _ _ _ z4 (pv 3) (pv 5) (fun _ _ => rfl)) (@za _ _ _ _ _ (pv 7) (@za _ _ _ _ _ (yr ["word"] ["script", "shape", "outcomes", "names", "hands", "j", "size", "words"] rfl (@yo _ _ _ _ (pv 7)) (fun _ => (z6 (i := 0) (show (["word", "script", "shape", "outcomes", "names", "hands", "j", "size", "words"] : List Str).Nodup by decide +kernel) rfl (Or.inl rfl))) (fun _ => (@ym _)) (fun _ => (yr ["one"] ["word", "script", "shape", "outcomes", "names", "hands", "j", "size", "words"] rfl (@yo _ _ _ _ (pv 3)) (fun _ => (z6 (i := 0) (show (["one", "word", "script", "shape", "outcomes", "names", "hands", "j", "size", "words"] : List Str).Nodup by decide +kernel) rfl (Or.inl rfl))) (fun _ => (@ym _)) (fun _ => (@zd _ _ _ _)) rfl (by decide +kernel) rfl rfl)) rfl (by decide +kernel) rfl rfl) (@zb _) (zi nofun)) (zi nofun)) (zi nofun))) (@zb _) (zi nofun)))))))) (@zh _ _ _ (@zt _ _ _ _ (@yl _ _ _ _ _ (za (pv 2) (za (pv 4) (@zb _))))))))))), ?_⟩;rw [show start ["script", "shape", "outcomes", "names", "hands", "j", "size", "words"] [V.ref a] = [some (V.ref a), none, none, none, none, none, none, none] from rfl];simp only [zk, zj, ↓reduceIte];refine ⟨a, ns, 1, rfl, hS, by decide, fun sh => ?_⟩;simp only [zk, zj, ↓reduceIte];refine ⟨a, ns, 0, rfl, hS, by decide, fun c0 => ?_⟩;have h6 := yp sh (show (0 : Int) < 6 by decide);have h64 := yp (sh / 6) (show (0 : Int) < 4 by decide);obtain ⟨m, em⟩ : ∃ m : Nat, 1 + sh % 6 = m := ⟨(1 + sh % 6).toNat, by omega⟩;dsimp only;rw [em];refine ⟨by decide, c0, m, rfl, by omega, fun H1 o outs S1 _ ho1 lo og od => ?_⟩;refine ⟨a, ns, 0, rfl, S1.seq hS, by decide, fun c1 => ⟨c1, rfl, ⟨by decide, by decide⟩, c1 / 3 + 1, 4, rfl, by decide, fun H2 nl nms S2 _ hn2 ln ng nd => ⟨by decide, fun b hb => ⟨⟨by decide, by decide⟩, by decide, by omega, by omega, ?_⟩⟩⟩⟩;have S12 := S1.trans S2;obtain ⟨hn, ehn⟩ : ∃ hn : Nat, 1 + sh / 6 % 4 = hn := ⟨(1 + sh / 6 % 4).toNat, by omega⟩;rw [ehn, Zw]
    have htv : ∃ d : Int, atI [V.int 7, V.int 4, V.int 3, V.int 2] (sh / 6 % 4) = some (V.int d) /\ 0 < d /\ d <= 7 /\ d.toNat ^ hn <= 256 := by
      have : ∀ k : Fin 4, [V.int 7, V.int 4, V.int 3, V.int 2][k.val]? = some (V.int (([7, 4, 3, 2] : List Int).getD k.val 0)) /\ 0 < ([7, 4, 3, 2] : List Int).getD k.val 0 /\ ([7, 4, 3, 2] : List Int).getD k.val 0 <= 7 /\ (([7, 4, 3, 2] : List Int).getD k.val 0).toNat ^ (k.val + 1) <= 256 := by decide
      have h := this ⟨(sh / 6 % 4).toNat, by omega⟩;have h5 := zn h.1;rw [ZX h64.1] at h5;have ek : (sh / 6 % 4).toNat + 1 = hn := by omega
      refine ⟨_, h5, h.2.1, h.2.2.1, ?_⟩;have := h.2.2.2;dsimp only at this;rw [ek] at this;exact this
    obtain ⟨tv, etv, tv0, tv1, tvp⟩ := htv;refine nt (PvHs a o nl b sh nms outs.length tv.toNat H2) ⟨Same.upd (Same.refl _) hb, [], [], _, _, _, zc, ⟨rfl, fun i x d e => by simp at e⟩, rfl, by simp, (fun _ z => nomatch z), rfl⟩ ?_ ?_
    . rintro j σ H3 hj ⟨S3, xs, ds, t1, t2, t3, hb3, hC, lh, hnm, hD, rfl⟩
      have SA := S12.trans S3;simp only [zk, zj, ↓reduceIte];refine ⟨a, ns, 2, rfl, SA.seq hS, by decide, fun c2 => ⟨by decide, fun p1 hp1 => ?_⟩⟩;have S4 : Same H3 (upd H3 p1 (.lst [V.int 1, V.int 5, V.int 29, V.int 149])) := Same.upd (Same.refl _) hp1;have t4 : upd H3 p1 (.lst [V.int 1, V.int 5, V.int 29, V.int 149]) p1 = some (.lst [V.int 1, V.int 5, V.int 29, V.int 149]) := zc;generalize upd H3 p1 (.lst [V.int 1, V.int 5, V.int 29, V.int 149]) = H4 at *
      have hdv : ∃ d : Int, atI [V.int 1, V.int 5, V.int 29, V.int 149] (j : Int) = some (V.int d) /\ 0 < d /\ d < 1073741824 := by
        have : ∀ k : Fin 4, [V.int 1, V.int 5, V.int 29, V.int 149][k.val]? = some (V.int (([1, 5, 29, 149] : List Int).getD k.val 0)) /\ 0 < ([1, 5, 29, 149] : List Int).getD k.val 0 /\ ([1, 5, 29, 149] : List Int).getD k.val 0 < 1073741824 := by decide
        have h := this ⟨j, by omega⟩;exact ⟨_, zn h.1, h.2⟩
      obtain ⟨dv, edv, dv0, dv1⟩ := hdv;refine ⟨_, .of t4, _, edv, _, rfl, _, rfl, ⟨dv0, dv1⟩, by decide, fun p2 hp2 => ?_⟩;have S5 : Same H4 (upd H4 p2 (.lst [V.int 7, V.int 4, V.int 3, V.int 2])) := Same.upd (Same.refl _) hp2;have t5 : upd H4 p2 (.lst [V.int 7, V.int 4, V.int 3, V.int 2]) p2 = some (.lst [V.int 7, V.int 4, V.int 3, V.int 2]) := zc;generalize upd H4 p2 (.lst [V.int 7, V.int 4, V.int 3, V.int 2]) = H5 at *;have SC := SA.trans (S4.trans S5);have hsz := yp (c2 / dv) tv0;obtain ⟨sz, esz⟩ : ∃ sz : Nat, 1 + c2 / dv % tv = sz := ⟨(1 + c2 / dv % tv).toNat, by omega⟩;refine ⟨⟨by decide, by decide⟩, by decide, _, .of t5, _, etv, _, rfl, tv0, a, ns, 2, rfl, SC.seq hS, by decide, fun c3 => ⟨c3, rfl, ⟨by decide, by decide⟩, a, ns, 0, rfl, SC.seq hS, by decide, fun c4 => ⟨c4, rfl, ⟨by decide, by decide⟩, by decide, fun p3 hp3 => ?_⟩⟩⟩;have S6 : Same H5 (upd H5 p3 (.lst [V.int (c3 / 7), V.int (c4 / 5 + j)])) := Same.upd (Same.refl _) hp3;have t6 : upd H5 p3 (.lst [V.int (c3 / 7), V.int (c4 / 5 + j)]) p3 = some (.lst [V.int (c3 / 7), V.int (c4 / 5 + j)]) := zc;generalize upd H5 p3 (.lst [V.int (c3 / 7), V.int (c4 / 5 + j)]) = H6 at *
      have hcc : ∃ cc : Int, atI [V.int (c3 / 7), V.int (c4 / 5 + j)] (sh / 24 % 2) = some (V.int cc) := by
        have h2 := yp (sh / 24) (show (0 : Int) < 2 by decide);have : sh / 24 % 2 = 0 \/ sh / 24 % 2 = 1 := by omega
        rcases this with e | e <;> rw [e]
        . exact ⟨_, zn (j := 0) rfl⟩
        . exact ⟨_, zn (j := 1) rfl⟩
      obtain ⟨cc, ecc⟩ := hcc;rw [esz];refine ⟨⟨by decide, by decide⟩, by decide, _, .of t6, _, ecc, cc, sz, rfl, by omega, fun H7 wl ws S7 hwn hw7 lw wg wd => ?_⟩;have S37 := S4.trans (S5.trans (S6.trans S7));have hb7 := S37 _ _ hb3;have hn7 := (S3.trans S37) _ _ hn2;have ho7 := (S2.trans (S3.trans S37)) _ _ ho1;have hC7 := hC.mono S37
      have hwb : wl ≠ b := fun z => by
        have := (S4.trans (S5.trans S6)) _ _ hb3;rw [<- z, hwn] at this;cases this
      have hjn : j < nms.length := by omega
      have ejn : nms[j]? = some nms[j] := Zb hjn;generalize nms[j] = nmj at *;refine ⟨.inl ⟨rfl, _, .of hb7⟩, _, .of hn7, _, zn (j := j) (by rw [Ze, ejn]; rfl), wl, rfl, ⟨_, .of hw7⟩, fun d => ?_⟩;refine ye (xs := ws.map V.str) (PvGd H7 b outs.length) ⟨Same.refl _, [], rfl, rfl, fun _ z => nomatch z⟩ ?_ ?_ ?_
      . rintro i ys H8 hi ⟨S8, gs, rfl, lg, hg⟩
        rw [Za] at hi;exact ⟨by rw [Za, lg]; exact Zd (show i <= 9 by omega) (by decide), .of (S8 _ _ hw7)⟩
      . rintro i x ys H8 hx ⟨S8, gs, rfl, lg, hg⟩
        simp only [zk, zj, ↓reduceIte];refine ⟨⟨_, .of (S8 _ _ ho7)⟩, fun d2 => ?_⟩;refine ye (xs := outs.map V.str) (PvZr H8) ⟨rfl, rfl⟩ ?_ ?_ ?_
        . rintro k zs H9 hk ⟨rfl, rfl⟩
          rw [Za] at hk;exact ⟨by rw [Za, ZI]; exact Zd (show k <= 9 by omega) (by decide), .of (S8 _ _ ho7)⟩
        . rintro k y zs H9 hy ⟨rfl, rfl⟩
          simp only [zk, zj, ↓reduceIte];refine ⟨rfl, ?_⟩;rw [YK, Zn];rfl
        . rintro zs H9 ⟨rfl, rfl⟩ l hl
          rw [Za];have S9 : Same H9 (upd H9 l (.lst ((List.replicate outs.length (0 : Int)).map V.int))) := Same.upd (Same.refl _) hl;refine ⟨S8.trans S9, gs ++ [l], by simp, by simp [lg], fun r hr' => ?_⟩
          rcases ZH.mp hr' with z | z
          . exact ⟨S9 _ _ (hg r z).1, (hg r z).2⟩
          . rw [ZC.mp z]
            exact ⟨zc, fun z => by rw [z, S8 _ _ hb7] at hl; cases hl⟩
      . rintro ys H8 ⟨S8, gs, rfl, lg, hg⟩ l hl
        rw [Za] at lg;have hlb : l ≠ b := fun z => by rw [z, S8 _ _ hb7] at hl; cases hl
        have S9 : Same H8 (upd H8 l (.lst (gs.map V.ref))) := Same.upd (Same.refl _) hl;have t9 : upd H8 l (.lst (gs.map V.ref)) l = some (.lst (gs.map V.ref)) := zc;generalize upd H8 l (.lst (gs.map V.ref)) = H9 at *;refine ⟨by decide, fun t ht => ?_⟩;have S10 : Same H9 (upd H9 t (.tup [V.str nmj, V.ref wl, V.ref l])) := Same.upd (Same.refl _) ht;have t10 : upd H9 t (.tup [V.str nmj, V.ref wl, V.ref l]) t = some (.tup [V.str nmj, V.ref wl, V.ref l]) := zc;generalize upd H9 t (.tup [V.str nmj, V.ref wl, V.ref l]) = H10 at *;have S710 := S8.trans (S9.trans S10);have hb10 := S710 _ _ hb7;have hC10 := hC7.mono S710
        have new : HandC H10 b ⟨t, wl, l, gs⟩ ⟨nmj, ws, List.replicate ws.length (List.replicate outs.length 0)⟩ := by
          refine ⟨⟨t10, S710 _ _ hw7, S10 _ _ t9, by rw [ZI]; exact lg, fun i r ns e1 e2 => ?_⟩, hwb, hlb, fun r hr' => (hg r hr').2⟩;have := ZV (Zi e2);subst this;exact (S9.trans S10) _ _ (hg r (Zi e1)).1
        refine ⟨_, hb10, ?_, Same.upd (S3.trans (S37.trans S710)) hb, xs ++ [⟨t, wl, l, gs⟩], ds ++ [⟨nmj, ws, List.replicate ws.length (List.replicate outs.length 0)⟩], _, _, _, by rw [zc, Zn]; rfl, (hC10.snoc new).upd hb10, by simp [lh], ?_, fun d hd => ?_, rfl⟩
        . rw [Za, hC.1, lh]
          exact Zh (show j < 9 by omega) (by decide)
        . rw [Zn, hnm, Zq, ejn]
          rfl
        . rcases ZH.mp hd with z | z
          . exact hD d z
          . rw [ZC.mp z]
            exact ⟨by show 1 <= ws.length /\ ws.length <= _; omega, wg, wd, rfl⟩
    . rintro σ H3 ⟨S3, xs, ds, t1, t2, t3, hb3, hC, lh, hnm, hD, rfl⟩
      simp only [zk, zj, ↓reduceIte];refine ⟨by decide, fun t ht => ?_⟩;have S4 : Same H3 (upd H3 t (.tup [V.ref o, V.ref b])) := Same.upd (Same.refl _) ht;refine q _ t o b outs xs ds (S12.trans (S3.trans S4)) zc ((S2.trans (S3.trans S4)) _ _ ho1) ⟨S4 _ _ hb3, hC.1, fun i x d e1 e2 => (hC.2 i x d e1 e2).1.mono S4⟩ (bc (by omega) og od (by omega) lh hnm ng nd hD (by omega) tvp) fun d hd => ?_
      have := (hD d hd).len.2;omega
theorem oy (D : zl K mg "_law_rows" rg ["hands"]) : FnAt P w K mg base "_law_rows" 1 ["hands"] cn := by
  refine FnAt.of D sc_law_rows (fun vs H Q E h => ?_) (fun f cdv A outer s H vs Q E hr h => ?_)
  . obtain ⟨b, xs, ds, rfl, _⟩ := h
    rfl
  . obtain ⟨b, xs, ds, rfl, hH, h4, h8, q⟩ := h
    refine ⟨_, (@zg _ _ _ _ _ (@zu _ _ 1 _ _ _ _ sc_law_rows.nd rfl (Or.inl rfl) (@yd _ _ _ _ (@za _ _ _ _ _ (@yl _ _ _ _ _ (@zb _)) (@zb _) (zi nofun))) rfl (Or.inl rfl)) (@zg _ _ _ _ _ (sf PassesOwn.never rfl (@yo _ _ _ _ (pv 0)) (z6 (i := 2) sc_law_rows.nd rfl (Or.inl rfl)) (@zg _ _ _ _ _ (zu (i := 3) sc_law_rows.nd rfl (Or.inl rfl) (@yd _ _ _ _ (@zb _))) (@zg _ _ _ _ _ (sf PassesOwn.never rfl (@yo _ _ _ _ (pv 1)) (z6 (i := 4) sc_law_rows.nd rfl (Or.inr rfl)) (@zh _ _ _ (zu (i := 3) sc_law_rows.nd rfl (Or.inl rfl) (@zm _ _ _ _ _ _ _ _ xn (pv 3) (yr ["word"] ["hands", "rows", "hand", "grown", "row"] rfl (@yo _ _ _ _ (@zr _ _ _ _ _ _ _ z9 (pv 2) (@zd _ _ _ _) (fun _ _ => rfl))) (fun _ => (z6 (i := 0) (show (["word", "hands", "rows", "hand", "grown", "row"] : List Str).Nodup by decide +kernel) rfl (Or.inl rfl))) (fun _ => (@ym _)) (fun _ => (@zm _ _ _ _ _ _ _ _ zdd (pv 5) (@yl _ _ _ _ _ (za (pv 0) (@zb _))))) rfl (by decide +kernel) rfl rfl))))) (@zh _ _ _ (zu (i := 1) sc_law_rows.nd rfl (Or.inl rfl) (pv 3)))))) (@zh _ _ _ (@zt _ _ _ _ (pv 1))))), ?_⟩;rw [show start ["hands", "rows", "hand", "grown", "row"] [V.ref b] = [some (V.ref b), none, none, none, none] from rfl];simp only [zk, zj, ↓reduceIte];refine ⟨by decide, fun e he => ?_⟩;have S1 : Same H (upd H e (.tup [])) := Same.upd (Same.refl _) he;have t1 : upd H e (.tup []) e = some (.tup []) := zc;generalize upd H e (.tup []) = H1 at *;refine ⟨by decide, fun l hl => ?_⟩;have S2 : Same H1 (upd H1 l (.lst [V.ref e])) := Same.upd (Same.refl _) hl;have t2 : upd H1 l (.lst [V.ref e]) l = some (.lst [V.ref e]) := zc;generalize upd H1 l (.lst [V.ref e]) = H2 at *;have hH2 := hH.mono (S1.trans S2);refine ⟨⟨_, .of hH2.at'⟩, ?_⟩;refine ou (xs := xs.map fun x => V.ref x.t) (PvRo b H2 ds) ⟨Same.refl _, l, [e], _, _, _, ⟨t2, TupsAt.one (S2 _ _ t1)⟩, rfl⟩ ?_ ?_ ?_
    . rintro i σ H3 hi ⟨S3, l3, as, v1, v2, v3, hR, rfl⟩
      exact .of (S3 _ _ hH2.at')
    . rintro i x σ H3 hx ⟨S3, l3, as, v1, v2, v3, hR, rfl⟩
      obtain ⟨h, hh, rfl⟩ := yk hx;have hi : i < ds.length := by have := (Zc.mp hh).1; have := hH.len; omega
      have ed : ds[i]? = some ds[i] := Zb hi;have hA := (hH2.mono S3).hand i h _ hh ed;have w8 := h8 _ (Zl hi);have ew : (ds.map HD.words)[i]? = some ds[i].words := by rw [Ze, ed]; rfl
      have hwid := m8 (ds.map HD.words) i (by rw [Za]; omega)
      have few := zcd (wss := ds.map HD.words) (by rw [Za]; exact h4) (fun ws hws => by
        obtain ⟨d, hd, rfl⟩ := Zp.mp hws
        exact h8 d hd) i (by rw [Za]; omega)
      simp only [zk, zj, ↓reduceIte];refine ⟨by decide, fun p hp => ?_⟩;have S4 : Same H3 (upd H3 p (.lst [])) := Same.upd (Same.refl _) hp;have t4 : upd H3 p (.lst []) p = some (.lst []) := zc;generalize upd H3 p (.lst []) = H4 at *;have hR4 := hR.mono S4;generalize hrs : xi ((ds.map HD.words).take i) = rs at *;refine ⟨⟨_, .of hR4.lst⟩, ?_⟩;refine ou (xs := as.map V.ref) (PvGw b l3 h.t rs ds[i].words H4) ⟨Same.refl _, p, [], _, ⟨t4, TupsAt.nil⟩, rfl⟩ ?_ ?_ ?_
      . rintro m σ H5 hm ⟨S5, p5, as', v, hG, rfl⟩
        exact .of (S5 _ _ hR4.lst)
      . rintro m x σ H5 hx ⟨S5, p5, as', v, hG, rfl⟩
        obtain ⟨r, er, rfl⟩ := yk hx;have hm : m < rs.length := by have := (Zc.mp er).1; have := hR.tups.len; omega
        have er2 : rs[m]? = some rs[m] := Zb hm;have hr5 := (hR4.mono S5).tups.at' m r _ er er2;have lr5 := hwid _ (Zl hm);have h15 := (S4.trans S5) _ _ hA.tup;have h25 := (S4.trans S5) _ _ hA.words;simp only [zk, zj, ↓reduceIte];refine ⟨_, .of h15, _, zn (j := 1) rfl, _, rfl, ⟨_, .of h25⟩, fun d => ?_⟩;refine ye (xs := ds[i].words.map V.str) (PvLong rs[m] ds[i].words H5) ⟨[], rfl, TupsAt.nil, Same.refl _⟩ ?_ ?_ ?_
        . rintro k ys H6 hk ⟨bs, rfl, t6, S6⟩
          refine ⟨?_, .of (S6 _ _ h25)⟩;rw [Za, t6.len, pz, Zj];exact Zd (ZB _ _) (Zd w8 (by decide))
        . rintro k y ys H6 hy ⟨bs, rfl, t6, S6⟩
          obtain ⟨z, ez, rfl⟩ := yk hy;simp only [zk, zj, ↓reduceIte];refine ⟨by decide, fun u hu => ?_⟩;have S7 : Same H6 (upd H6 u (.tup [V.str z])) := Same.upd (Same.refl _) hu;have t7 : upd H6 u (.tup [V.str z]) u = some (.tup [V.str z]) := zc;generalize upd H6 u (.tup [V.str z]) = H7 at *;refine ⟨_, (S6.trans S7) _ _ hr5, _, t7, ?_, fun H8 w S8 hw => ?_⟩
          . rw [Za, lr5]
            exact Zd (show i + 1 <= 9 by omega) (by decide)
          . refine ⟨bs ++ [w], by simp, ?_, S6.trans (S7.trans S8)⟩
            rw [Zq, ez]
            show TupsAt H8 (bs ++ [w]) (vb _ (ds[i].words.take k ++ [z]))
            rw [vb, Zn];exact (t6.mono (S7.trans S8)).append (TupsAt.one (by rw [hw]; simp))
        . rintro ys H6 ⟨bs, rfl, t6, S6⟩ l hl
          rw [Za, Zt] at t6;have S7 : Same H6 (upd H6 l (.lst (bs.map V.ref))) := Same.upd (Same.refl _) hl;have t7 : upd H6 l (.lst (bs.map V.ref)) l = some (.lst (bs.map V.ref)) := zc;generalize upd H6 l (.lst (bs.map V.ref)) = H7 at *;have S57 := S6.trans S7;refine ⟨_, S57 _ _ hG.lst, _, t7, ?_, fun p6 hp6 => ?_⟩
          . rw [Za, Za, hG.tups.len, t6.len, pz, qz, Zj]
            have : min m rs.length * ds[i].words.length <= 4096 * 8 := YR (by omega) w8;exact Zd (show _ <= 4096 * 8 + 8 by omega) (by decide)
          . have S8 : Same H7 (upd H7 p6 (.lst (as'.map V.ref ++ bs.map V.ref))) := Same.upd (Same.refl _) hp6
            refine ⟨S5.trans (S57.trans S8), p6, as' ++ bs, _, ⟨by rw [zc, Zn], ?_⟩, rfl⟩;rw [Zq, er2]
            show TupsAt _ _ (wt (rs.take m ++ [rs[m]]) _)
            rw [ah];exact (hG.tups.mono (S57.trans S8)).append (t6.mono (S7.trans S8))
      . rintro σ H5 ⟨S5, p5, as', v, hG, rfl⟩
        simp only [zk, zj, ↓reduceIte];rw [Za, hR.tups.len, Zt] at hG;refine ⟨S3.trans (S4.trans S5), p5, as', _, _, _, ?_, rfl⟩;rw [qc ew, hrs];exact hG
    . rintro σ H3 ⟨S3, l3, as, v1, v2, v3, hR, rfl⟩
      simp only [zk, zj, ↓reduceIte];rw [Za, hH.len, ZG (by rw [Za]; omega)] at hR;exact q H3 l3 as (S1.trans (S2.trans S3)) hR
end
def Rws3 (rs : List (Addr × List Str)) (c : Cd) : List Bool := rs.map fun r => ev r.2 c
theorem j8 {rs : List (Addr × List Str)} {i : Nat} {r : Addr × List Str} (c : Cd) (h : rs[i]? = some r) : Rws3 (rs.take (i + 1)) c = Rws3 (rs.take i) c ++ [ev r.2 c] := by
  rw [Rws3, Zq, h, Zn]; rfl
structure HandsN (H : Hp) (b : Addr) (hs : List (Addr × List Str)) (ds : List HD) : Prop where
  w : HandsW H b hs
  len : hs.length = ds.length
  nm : ∀ (k : Nat) (h : Addr × List Str) (d : HD), hs[k]? = some h -> ds[k]? = some d -> h.2 = d.words /\ ∃ wl g, H h.1 = some (.tup [.str d.name, wl, g])
theorem HandsN.mono {H H' : Hp} {b : Addr} {hs : List (Addr × List Str)} {ds : List HD} (S : Same H H') (h : HandsN H b hs ds) : HandsN H' b hs ds := ⟨h.w.mono S, h.len, fun k a d e1 e2 => by
  obtain ⟨h1, wl, g, h2⟩ := h.nm k a d e1 e2
  exact ⟨h1, wl, g, S _ _ h2⟩⟩
structure ItemAt (ds : List HD) (H : Hp) (v : V) (c : Cd) (m : Nat) (n : Nat) (rs : List (Addr × List Str)) : Prop where
  ex : ∃ t x wl tl ws, v = .ref t /\ H t = some (.tup [x, .ref wl, .ref tl]) /\ CondAt H c x /\ H wl = some (.lst (ws.map V.str)) /\ ws.length = m /\ o5 ws /\ H tl = some (.lst ((Rws3 rs c).map V.bl)) /\ ws = wd ds c
  ok : okc True ds c
  fit : fit n c
  dep : dep c < m
theorem ItemAt.mono {ds : List HD} {H H' : Hp} {v : V} {c : Cd} {m n : Nat} {rs : List (Addr × List Str)} (S : Same H H') (h : ItemAt ds H v c m n rs) : ItemAt ds H' v c m n rs := by
  obtain ⟨t, x, wl, tl, ws, e, h1, h2, h3, h4, h5, h6, h7⟩ := h.ex;exact ⟨⟨t, x, wl, tl, ws, e, S _ _ h1, h2.mono S, S _ _ h3, h4, h5, S _ _ h6, h7⟩, h.ok, h.fit, h.dep⟩
def zae : Sp := fun vs H Q _ => ∃ (cv : Int) (b l : Addr) (hs rs : List (Addr × List Str)) (ds : List HD), vs = [.int cv, .ref b, .ref l] /\ HandsN H b hs ds /\ 1 <= hs.length /\ hs.length <= 4 /\ RowsW H l rs hs.length /\ rs.length <= 2401 /\
  ∀ H' v c, Same H H' -> ItemAt ds H' v c 3 hs.length rs -> Q v H'
def PvTr (H : Hp) (rs : List (Addr × List Str)) (c : Cd) (i : Nat) (ys : List V) (H' : Hp) : Prop := H' = H /\ ys = (Rws3 (rs.take i) c).map V.bl
def i7 : Sp := fun vs H Q _ => ∃ (hd : Str) (v1 v2 : V) (c1 c2 : Cd) (m1 m2 n : Nat) (rs : List (Addr × List Str)) (ds : List HD), vs = [.str hd, v1, v2] /\ (hd = Str.ofString "and" \/ hd = Str.ofString "or") /\ ItemAt ds H v1 c1 m1 n rs /\ ItemAt ds H v2 c2 m2 n rs /\ m1 + m2 <= 40 /\ rs.length <= 2401 /\
  ∀ H' v c, Same H H' -> ItemAt ds H' v c (1 + m1 + m2) n rs -> Q v H'
def PvJo (hd : Str) (v1 v2 : V) (tl : Addr) (H : Hp) (rs : List (Addr × List Str)) (f : Bool -> Bool -> Bool) (c1 c2 : Cd) (i : Nat) (σ : L2.St) (H' : Hp) : Prop := Same H H' /\ ∃ v, H' tl = some (.lst ((List.zipWith f (Rws3 (rs.take i) c1) (Rws3 (rs.take i) c2)).map V.bl)) /\ σ = [some (.str hd), some v1, some v2, some (.ref tl), v]
section
variable {P : Program} {w : World} {K : Fg} {mg : Str -> Option Value} {base : Heap}
theorem o7 (B : Bt mg) (D : zl K mg "_law_leaf" qb ["cell", "hands", "rows"]) : FnAt P w K mg base "_law_leaf" 1 ["cell", "hands", "rows"] zae := by
  refine FnAt.of D sc_law_leaf (fun vs H Q E h => ?_) (fun f cdv A outer s H vs Q E hr h => ?_)
  . obtain ⟨cv, b, l, hs, rs, ds, rfl, _⟩ := h
    rfl
  . obtain ⟨cv, b, l, hs, rs, ds, rfl, hN, h1, h4, hR, lr, q⟩ := h
    have hH := hN.w;refine ⟨_, (@zg _ _ _ _ _ (zu (i := 3) sc_law_leaf.nd rfl (Or.inr rfl) (@zm _ _ _ _ _ _ _ _ yf (pv 0) (zq zv rfl B.len yc (za (pv 1) (@zb _))))) (@zg _ _ _ _ _ (zu (i := 4) sc_law_leaf.nd rfl (Or.inr rfl) (@zr _ _ _ _ _ _ _ z4 (@zr _ _ _ _ _ _ _ z9 (@zr _ _ _ _ _ _ _ z4 (pv 1) (pv 3) (fun _ _ => rfl)) (@zd _ _ _ _) (fun _ _ => rfl)) (@zm _ _ _ _ _ _ _ _ yf (@zm _ _ _ _ _ _ _ _ yn (pv 0) (@zd _ _ _ _)) (zq zv rfl B.len yc (za (@zr _ _ _ _ _ _ _ z9 (@zr _ _ _ _ _ _ _ z4 (pv 1) (pv 3) (fun _ _ => rfl)) (@zd _ _ _ _) (fun _ _ => rfl)) (@zb _)))) (fun _ _ => rfl))) (@zg _ _ _ _ _ (@yb _ _ _ _ _ _ _ _ (@zw _ _ _ _ _ _ _ _ y9 (@zm _ _ _ _ _ _ _ _ yf (@zm _ _ _ _ _ _ _ _ yn (pv 0) (@zd _ _ _ _)) (@zd _ _ _ _)) (@zd _ _ _ _) (z0 _)) (@zg _ _ _ _ _ (zu (i := 5) sc_law_leaf.nd rfl (Or.inr rfl) (@zm _ _ _ _ _ _ _ _ yg (@zd _ _ _ _) (@zm _ _ _ _ _ _ _ _ yf (@zm _ _ _ _ _ _ _ _ yn (pv 0) (@zd _ _ _ _)) (@zd _ _ _ _)))) (@zg _ _ _ _ _ (jj (i := 6) ["row"] ["cell", "hands", "rows", "k", "word", "n", "truths"] sc_law_leaf.nd rfl rfl rfl (@yo _ _ _ _ (pv 2)) (fun _ => (z6 (i := 0) (show (["row", "cell", "hands", "rows", "k", "word", "n", "truths"] : List Str).Nodup by decide +kernel) rfl (Or.inl rfl))) (fun _ => (@ym _)) (fun _ => (@xy _ _ _ _ _ _ _ _ op_ge (pe_bmT PySem.F.plainAttrs_tuple PySem.F.slot_tuple_count PySem.F.type_tuple_count zav (pv 0) (za (pv 5) (@zb _))) (pv 6) (z0 _))) rfl (by decide +kernel) rfl rfl rfl) (@zh _ _ _ (@zt _ _ _ _ (@yl _ _ _ _ _ (@za _ _ _ _ _ (@yl _ _ _ _ _ (@za _ _ _ _ _ (@zp _ _ _ _) (@za _ _ _ _ _ (pv 5) (@za _ _ _ _ _ (pv 4) (@zb _) (zi nofun)) (zi nofun)) (zi nofun))) (@za _ _ _ _ _ (@yd _ _ _ _ (@za _ _ _ _ _ (@zp _ _ _ _) (@za _ _ _ _ _ (y8 mh rfl B.str me (@za _ _ _ _ _ (pv 5) (@zb _) (zi nofun))) (@za _ _ _ _ _ (pv 4) (@zb _) (zi nofun)) (zi nofun)) (zi nofun))) (@za _ _ _ _ _ (pv 6) (@zb _) (zi nofun)) (zi nofun)) (zi nofun))))))) (@z5 _)) (@zg _ _ _ _ _ (jj (i := 6) ["row"] ["cell", "hands", "rows", "k", "word", "n", "truths"] sc_law_leaf.nd rfl rfl rfl (@yo _ _ _ _ (pv 2)) (fun _ => (z6 (i := 0) (show (["row", "cell", "hands", "rows", "k", "word", "n", "truths"] : List Str).Nodup by decide +kernel) rfl (Or.inl rfl))) (fun _ => (@ym _)) (fun _ => (@xy _ _ _ _ _ _ _ _ y9 (@zr _ _ _ _ _ _ _ z9 (pv 0) (pv 4) (fun _ _ => rfl)) (pv 5) (z0 _))) rfl (by decide +kernel) rfl rfl rfl) (@zh _ _ _ (@zt _ _ _ _ (@yl _ _ _ _ _ (@za _ _ _ _ _ (@yl _ _ _ _ _ (@za _ _ _ _ _ (@zp _ _ _ _) (@za _ _ _ _ _ (pv 3) (@za _ _ _ _ _ (pv 4) (@zb _) (zi nofun)) (zi nofun)) (zi nofun))) (@za _ _ _ _ _ (@yd _ _ _ _ (@za _ _ _ _ _ (@zp _ _ _ _) (@za _ _ _ _ _ (@zr _ _ _ _ _ _ _ z9 (@zr _ _ _ _ _ _ _ z4 (pv 1) (pv 3) (fun _ _ => rfl)) (@zd _ _ _ _) (fun _ _ => rfl)) (@za _ _ _ _ _ (pv 4) (@zb _) (zi nofun)) (zi nofun)) (zi nofun))) (@za _ _ _ _ _ (pv 6) (@zb _) (zi nofun)) (zi nofun)) (zi nofun))))))))), ?_⟩;rw [show start ["cell", "hands", "rows", "k", "word", "n", "truths"] [V.int cv, V.ref b, V.ref l] = [some (V.int cv), some (V.ref b), some (V.ref l), none, none, none, none] from rfl];refine aw fun T hTT => ?_
    simp only [zk, zj, ↓reduceIte];have hk := yp cv (show (0 : Int) < hs.length by omega);obtain ⟨k, ek⟩ : ∃ k : Nat, cv % (hs.length : Int) = k := ⟨(cv % (hs.length : Int)).toNat, by omega⟩;have hkl : k < hs.length := by omega
    have eh : hs[k]? = some hs[k] := Zb hkl;obtain ⟨⟨nm, wl, g, hT, hW, hnm⟩, w1, w7, sw⟩ := hH.hand _ (Zl hkl);have aH : atI (hs.map fun h => V.ref h.1) (k : Int) = some (V.ref (hs[k]).1) := zn (by rw [Ze, eh]; rfl);have hkd : k < ds.length := by rw [<- hN.len]; exact hkl
    have ed : ds[k]? = some ds[k] := Zb hkd;obtain ⟨hw2, wl', g', hT'⟩ := hN.nm k _ _ eh ed
    have enm : nmAt ds k = nm := by
      rw [nmAt, Zk, Ze, ed];rw [hT] at hT'
      injection hT' with e
      injection e with e
      injection e with e
      injection e with e
      exact e.symm
    have hdm := Zl hkd;generalize hs[k] = hd at *;have hw := yp (cv / 4) (show (0 : Int) < hd.2.length by omega);obtain ⟨w0, ew⟩ : ∃ k : Nat, cv / 4 % (hd.2.length : Int) = k := ⟨(cv / 4 % (hd.2.length : Int)).toNat, by omega⟩;have hwl : w0 < hd.2.length := by omega
    have aW : atI (hd.2.map V.str) (w0 : Int) = some (V.str hd.2[w0]) := zn (by rw [Ze, Zb hwl]; rfl);have sz := sw _ (Zl hwl);have zin : hd.2[w0] ∈ ds[k].words := by rw [<- hw2]; exact Zl hwl
    generalize hd.2[w0] = z at *;refine ⟨_, .inl (.of hH.at'), by rw [Za]; omega, ?_⟩;rw [Za, ek];refine ⟨_, .of hH.at', _, aH, hd.1, rfl, _, .of hT, _, zn (j := 1) rfl, ⟨by decide, by decide⟩, _, .of hH.at', _, aH, hd.1, rfl, _, .of hT, _, zn (j := 1) rfl, wl, rfl, _, .inl (.of hW), by rw [Za]; omega, wl, rfl, _, .of hW, V.str z, by rw [Za, ew]; exact aW, ?_⟩;rw [hTT];clear hTT T;refine hideL fun T U hTT hUU => ?_
    simp only [zk, zj, ↓reduceIte];refine ⟨⟨by decide, by decide⟩, by decide, rfl, ite2 (fun _ => ?_) (fun _ => ?_)⟩
    . rw [hTT]
      clear hTT T;simp only [zk, zj, ↓reduceIte];have h96 := yp (cv / 96) (show (0 : Int) < 4 by decide);obtain ⟨n, en⟩ : ∃ n : Nat, 1 + cv / 96 % 4 = n := ⟨(1 + cv / 96 % 4).toNat, by omega⟩;rw [en];refine ⟨⟨by decide, by decide⟩, by decide, ⟨_, .of hR.at'⟩, fun d => ?_⟩;refine ye (xs := rs.map fun r => V.ref r.1) (PvTr H rs (.count n z)) ⟨rfl, rfl⟩ ?_ ?_ ?_
      . rintro i ys H2 hi ⟨rfl, rfl⟩
        refine ⟨?_, .of hR.at'⟩;rw [Za, Rws3, Za, Zj];exact Zd (show _ <= 2401 by omega) (by decide)
      . rintro i x ys H2 hx ⟨rfl, rfl⟩
        obtain ⟨r, er, rfl⟩ := yk hx;have hrow := (hR.row r (Zi er)).1;simp only [zk, zj, ↓reduceIte];refine ⟨⟨_, .of hrow⟩, _, .of hrow, rfl, wm r.2, rfl, ?_⟩;rw [j8 _ er, Zn];rfl
      . rintro ys H2 ⟨rfl, rfl⟩ tl htl
        rw [Za, Zt];have S1 : Same H2 (upd H2 tl (.lst ((Rws3 rs (.count n z)).map V.bl))) := Same.upd (Same.refl _) htl;have t1 : upd H2 tl (.lst ((Rws3 rs (.count n z)).map V.bl)) tl = some (.lst ((Rws3 rs (.count n z)).map V.bl)) := zc;generalize upd H2 tl (.lst ((Rws3 rs (.count n z)).map V.bl)) = H3 at *;refine ⟨by decide, fun p hp => ?_⟩;have S2 : Same H3 (upd H3 p (.tup [V.str (Str.ofString "count"), V.int n, V.str z])) := Same.upd (Same.refl _) hp;have t2 : upd H3 p (.tup [V.str (Str.ofString "count"), V.int n, V.str z]) p = some (.tup [V.str (Str.ofString "count"), V.int n, V.str z]) := zc;generalize upd H3 p (.tup [V.str (Str.ofString "count"), V.int n, V.str z]) = H4 at *;have n4 : n = 1 \/ n = 2 \/ n = 3 \/ n = 4 := by omega
        have hlog : ((n : Int)).natAbs.log2 < 1920 := by rcases n4 with rfl | rfl | rfl | rfl <;> decide
        have hstr : (Str.ofString (toString (n : Int))).length <= 8 := by rcases n4 with rfl | rfl | rfl | rfl <;> decide +kernel
        refine ⟨hlog, by decide, fun p1 hp1 => ?_⟩
        have hfig : Str.ofString (toString (n : Int)) = fig n := by rcases n4 with rfl | rfl | rfl | rfl <;> decide +kernel
        generalize Str.ofString (toString (n : Int)) = sn at *;have S3 : Same H4 (upd H4 p1 (.lst [V.str (Str.ofString "count"), V.str sn, V.str z])) := Same.upd (Same.refl _) hp1;have t3 : upd H4 p1 (.lst [V.str (Str.ofString "count"), V.str sn, V.str z]) p1 = some (.lst [V.str (Str.ofString "count"), V.str sn, V.str z]) := zc;generalize upd H4 p1 (.lst [V.str (Str.ofString "count"), V.str sn, V.str z]) = H5 at *;refine ⟨by decide, fun p2 hp2 => ?_⟩;have S4 : Same H5 (upd H5 p2 (.tup [V.ref p, V.ref p1, V.ref tl])) := Same.upd (Same.refl _) hp2;refine q _ _ (.count n z) (S1.trans (S2.trans (S3.trans S4))) ⟨⟨p2, _, p1, tl, [Str.ofString "count", sn, z], rfl, zc, ⟨p, rfl, (S3.trans S4) _ _ t2⟩, S4 _ _ t3, rfl, fun y hy => ?_, (S2.trans (S3.trans S4)) _ _ t1, by rw [hfig]; rfl⟩, ⟨trivial, by omega, by omega, _, hdm, zin⟩, trivial, (show 0 < 3 by decide)⟩;simp only [ZK, Zx, or_false] at hy
        rcases hy with rfl | rfl | rfl
        . decide +kernel
        . exact hstr
        . exact sz
    . rw [hUU]
      clear hTT T hUU U;simp only [zk, zj, ↓reduceIte];refine ⟨⟨_, .of hR.at'⟩, fun d => ?_⟩;refine ye (xs := rs.map fun r => V.ref r.1) (PvTr H rs (.says k z)) ⟨rfl, rfl⟩ ?_ ?_ ?_
      . rintro i ys H2 hi ⟨rfl, rfl⟩
        refine ⟨?_, .of hR.at'⟩;rw [Za, Rws3, Za, Zj];exact Zd (show _ <= 2401 by omega) (by decide)
      . rintro i x ys H2 hx ⟨rfl, rfl⟩
        obtain ⟨r, er, rfl⟩ := yk hx;obtain ⟨hrow, lrow⟩ := hR.row r (Zi er);have hkr : k < r.2.length := by omega
        simp only [zk, zj, ↓reduceIte];refine ⟨_, .of hrow, _, zn (j := k) (by rw [Ze, Zb hkr]; rfl), rfl, rfl, ?_⟩;rw [j8 _ er, Zn]
        have e : decide (V.str r.2[k] = V.str z) = ev r.2 (.says k z) := by
          show _ = decide (r.2[k]? = some z)
          rw [Zb hkr];simp
        rw [e];rfl
      . rintro ys H2 ⟨rfl, rfl⟩ tl htl
        rw [Za, Zt];have S1 : Same H2 (upd H2 tl (.lst ((Rws3 rs (.says k z)).map V.bl))) := Same.upd (Same.refl _) htl;have t1 : upd H2 tl (.lst ((Rws3 rs (.says k z)).map V.bl)) tl = some (.lst ((Rws3 rs (.says k z)).map V.bl)) := zc;generalize upd H2 tl (.lst ((Rws3 rs (.says k z)).map V.bl)) = H3 at *;refine ⟨by decide, fun p hp => ?_⟩;have S2 : Same H3 (upd H3 p (.tup [V.str (Str.ofString "says"), V.int k, V.str z])) := Same.upd (Same.refl _) hp;have t2 : upd H3 p (.tup [V.str (Str.ofString "says"), V.int k, V.str z]) p = some (.tup [V.str (Str.ofString "says"), V.int k, V.str z]) := zc;generalize upd H3 p (.tup [V.str (Str.ofString "says"), V.int k, V.str z]) = H4 at *;have S14 := S1.trans S2;refine ⟨_, .of (S14 _ _ hH.at'), _, aH, hd.1, rfl, _, .of (S14 _ _ hT), _, zn (j := 0) rfl, by decide, fun p1 hp1 => ?_⟩;have S3 : Same H4 (upd H4 p1 (.lst [V.str (Str.ofString "says"), V.str nm, V.str z])) := Same.upd (Same.refl _) hp1;have t3 : upd H4 p1 (.lst [V.str (Str.ofString "says"), V.str nm, V.str z]) p1 = some (.lst [V.str (Str.ofString "says"), V.str nm, V.str z]) := zc;generalize upd H4 p1 (.lst [V.str (Str.ofString "says"), V.str nm, V.str z]) = H5 at *;refine ⟨by decide, fun p2 hp2 => ?_⟩;have S4 : Same H5 (upd H5 p2 (.tup [V.ref p, V.ref p1, V.ref tl])) := Same.upd (Same.refl _) hp2;refine q _ _ (.says k z) (S1.trans (S2.trans (S3.trans S4))) ⟨⟨p2, _, p1, tl, [Str.ofString "says", nm, z], rfl, zc, ⟨p, rfl, (S3.trans S4) _ _ t2⟩, S4 _ _ t3, rfl, fun y hy => ?_, (S2.trans (S3.trans S4)) _ _ t1, by rw [wd, enm]⟩, ⟨_, ed, zin⟩, hkl, (show 0 < 3 by decide)⟩;simp only [ZK, Zx, or_false] at hy
        rcases hy with rfl | rfl | rfl
        . decide +kernel
        . exact hnm
        . exact sz
theorem qr (B : Bt mg) (D : zl K mg "_law_joined" um ["head", "one", "other"]) : FnAt P w K mg base "_law_joined" 1 ["head", "one", "other"] i7 := by
  refine FnAt.of D sc_law_joined (fun vs H Q E h => ?_) (fun f cdv A outer s H vs Q E hr h => ?_)
  . obtain ⟨hd, v1, v2, c1, c2, m1, m2, n, rs, ds, rfl, _⟩ := h
    rfl
  . obtain ⟨hd, v1, v2, c1, c2, m1, m2, n, rs, ds, rfl, hhd, i1, i2, hm, lr, q⟩ := h
    refine ⟨_, (@zg _ _ _ _ _ (zu (i := 3) sc_law_joined.nd rfl (Or.inl rfl) (@yd _ _ _ _ (@zb _))) (@zg _ _ _ _ _ (sf PassesOwn.never rfl (tw rfl B.range (za (zq zv rfl B.len yc (za (@zr _ _ _ _ _ _ _ z9 (pv 1) (@zd _ _ _ _) (fun _ _ => rfl)) (@zb _))) (@zb _))) (z6 (i := 4) sc_law_joined.nd rfl (Or.inl rfl)) (@zh _ _ _ (@yb _ _ _ _ _ _ _ _ (@zw _ _ _ _ _ _ _ _ y9 (pv 0) (@zp _ _ _ _) (z0 _)) (@zh _ _ _ (qd (x9 PySem.F.plainAttrs_list PySem.F.slot_list_append PySem.F.type_list_append su (pv 3) (za (@sj _ _ _ _ _ _ _ (@zr _ _ _ _ _ _ _ z4 (@zr _ _ _ _ _ _ _ z9 (pv 1) (@zd _ _ _ _) (fun _ _ => rfl)) (pv 4) (fun _ _ => rfl)) (@si _ _ _ _ _ (@zr _ _ _ _ _ _ _ z4 (@zr _ _ _ _ _ _ _ z9 (pv 2) (@zd _ _ _ _) (fun _ _ => rfl)) (pv 4) (fun _ _ => rfl)))) (@zb _))))) (@zh _ _ _ (qd (x9 PySem.F.plainAttrs_list PySem.F.slot_list_append PySem.F.type_list_append su (pv 3) (za (@pe_or _ _ _ _ _ _ _ (@zr _ _ _ _ _ _ _ z4 (@zr _ _ _ _ _ _ _ z9 (pv 1) (@zd _ _ _ _) (fun _ _ => rfl)) (pv 4) (fun _ _ => rfl)) (@si _ _ _ _ _ (@zr _ _ _ _ _ _ _ z4 (@zr _ _ _ _ _ _ _ z9 (pv 2) (@zd _ _ _ _) (fun _ _ => rfl)) (pv 4) (fun _ _ => rfl)))) (@zb _)))))))) (@zh _ _ _ (@zt _ _ _ _ (@yl _ _ _ _ _ (@za _ _ _ _ _ (@yl _ _ _ _ _ (@za _ _ _ _ _ (pv 0) (@za _ _ _ _ _ (@zr _ _ _ _ _ _ _ z9 (pv 1) (@zd _ _ _ _) (fun _ _ => rfl)) (@za _ _ _ _ _ (@zr _ _ _ _ _ _ _ z9 (pv 2) (@zd _ _ _ _) (fun _ _ => rfl)) (@zb _) (zi nofun)) (zi nofun)) (zi nofun))) (@za _ _ _ _ _ (@zm _ _ _ _ _ _ _ _ xn (@zm _ _ _ _ _ _ _ _ xn (@yd _ _ _ _ (@za _ _ _ _ _ (pv 0) (@zb _) (zi nofun))) (@zr _ _ _ _ _ _ _ z9 (pv 1) (@zd _ _ _ _) (fun _ _ => rfl))) (@zr _ _ _ _ _ _ _ z9 (pv 2) (@zd _ _ _ _) (fun _ _ => rfl))) (@za _ _ _ _ _ (pv 3) (@zb _) (zi nofun)) (zi nofun)) (zi nofun))))))), ?_⟩;rw [show start ["head", "one", "other", "truths", "j"] [V.str hd, v1, v2] = [some (V.str hd), some v1, some v2, none, none] from rfl];simp only [zk, zj, ↓reduceIte];obtain ⟨t1, x1, wl1, tl1, ws1, rfl, a1, a2, a3, a4, a5, a6, a7⟩ := i1.ex;obtain ⟨t2, x2, wl2, tl2, ws2, rfl, b1, b2, b3, b4, b5, b6, b7⟩ := i2.ex;refine ⟨ZE _, fun p hp => ?_⟩;have S1 : Same H (upd H p (.lst [])) := Same.upd (Same.refl _) hp;have u1 : upd H p (.lst []) p = some (.lst []) := zc;generalize upd H p (.lst []) = H1 at *;have lt : (Rws3 rs c1).length = rs.length := by rw [Rws3, Za]
    refine ⟨t1, rfl, _, .of (S1 _ _ a1), _, zn (j := 2) rfl, tl1, rfl, _, .inl (.of (S1 _ _ a6)), by omega, ?_, ?_⟩
    . rw [Za, lt]; omega
    rw [Za, lt, Zw];refine nt (PvJo hd (.ref t1) (.ref t2) p H rs (if hd = Str.ofString "and" then and else or) c1 c2) ⟨S1, _, u1, rfl⟩ ?_ ?_
    . rintro i σ H2 hi ⟨S2, v, hp2, rfl⟩
      have e1 : (Rws3 rs c1)[i]? = some (ev (rs[i]).2 c1) := by rw [Rws3, Ze, Zb hi]; rfl
      have e2 : (Rws3 rs c2)[i]? = some (ev (rs[i]).2 c2) := by rw [Rws3, Ze, Zb hi]; rfl
      have a12 := S2 _ _ a1;have a62 := S2 _ _ a6;have b12 := S2 _ _ b1;have b62 := S2 _ _ b6;have at1 : atI ((Rws3 rs c1).map V.bl) (i : Int) = some (V.bl (ev (rs[i]).2 c1)) := zn (by rw [Ze, e1]; rfl);have at2 : atI ((Rws3 rs c2).map V.bl) (i : Int) = some (V.bl (ev (rs[i]).2 c2)) := zn (by rw [Ze, e2]; rfl)
      have hlen : (List.map V.bl (List.zipWith (if hd = Str.ofString "and" then and else or) (Rws3 (rs.take i) c1) (Rws3 (rs.take i) c2))).length < sizeLine := by
        rw [Za, List.length_zipWith, Rws3, Rws3, Za, Za, Zj];exact Ys (show _ <= 2401 by omega) (by decide)
      have fin : ∀ b, b = (if hd = Str.ofString "and" then and else or) (ev (rs[i]).2 c1) (ev (rs[i]).2 c2) -> PvJo hd (.ref t1) (.ref t2) p H rs (if hd = Str.ofString "and" then and else or) c1 c2 (i + 1) [some (V.str hd), some (V.ref t1), some (V.ref t2), some (V.ref p), some (V.int i)] (upd H2 p (.lst (List.map V.bl (List.zipWith (if hd = Str.ofString "and" then and else or) (Rws3 (rs.take i) c1) (Rws3 (rs.take i) c2)) ++ [V.bl b]))) := fun b eb => by
        refine ⟨Same.upd S2 hp, _, ?_, rfl⟩;rw [zc, Rws3, Rws3, Zq, Zb hi]
        show _ = some (HO.lst (List.map V.bl (List.zipWith _ (List.map _ (rs.take i ++ [rs[i]])) (List.map _ (rs.take i ++ [rs[i]])))))
        rw [Zn, Zn, List.zipWith_append (by rw [Za, Za]), Zn, eb];rfl
      simp only [zk, zj, ↓reduceIte];refine ⟨rfl, ite2 (fun z => ?_) (fun z => ?_)⟩
      . have z' := of_decide_eq_true z
        refine ⟨.inl ⟨rfl, _, .of hp2⟩, _, .of a12, _, zn (j := 2) rfl, tl1, rfl, _, .of a62, _, at1, _, rfl, ite2 (fun y => ?_) (fun y => ?_)⟩
        . refine ⟨_, .of b12, _, zn (j := 2) rfl, tl2, rfl, _, .of b62, _, at2, _, hp2, hlen, fin _ ?_⟩
          rw [if_pos z', y]; rfl
        . refine ⟨_, hp2, hlen, fin _ ?_⟩
          rw [if_pos z', Bool.eq_false_iff.mpr y]; rfl
      . have z' : ¬ hd = Str.ofString "and" := fun e => z (decide_eq_true e)
        refine ⟨.inl ⟨rfl, _, .of hp2⟩, _, .of a12, _, zn (j := 2) rfl, tl1, rfl, _, .of a62, _, at1, _, rfl, ite2 (fun y => ?_) (fun y => ?_)⟩
        . refine ⟨_, hp2, hlen, fin _ ?_⟩
          rw [if_neg z', y]; rfl
        . refine ⟨_, .of b12, _, zn (j := 2) rfl, tl2, rfl, _, .of b62, _, at2, _, hp2, hlen, fin _ ?_⟩
          rw [if_neg z', Bool.eq_false_iff.mpr y]; rfl
    . rintro σ H2 ⟨S2, v, hp2, rfl⟩
      rw [Zt] at hp2;simp only [zk, zj, ↓reduceIte];refine ⟨_, .of (S2 _ _ a1), _, zn (j := 0) rfl, _, .of (S2 _ _ b1), _, zn (j := 0) rfl, by decide, fun p1 hp1 => ?_⟩;have S3 : Same H2 (upd H2 p1 (.tup [V.str hd, x1, x2])) := Same.upd (Same.refl _) hp1;have t3 : upd H2 p1 (.tup [V.str hd, x1, x2]) p1 = some (.tup [V.str hd, x1, x2]) := zc;generalize upd H2 p1 (.tup [V.str hd, x1, x2]) = H3 at *;refine ⟨by decide, fun p2 hp2' => ?_⟩;have S4 : Same H3 (upd H3 p2 (.lst [V.str hd])) := Same.upd (Same.refl _) hp2';have t4 : upd H3 p2 (.lst [V.str hd]) p2 = some (.lst [V.str hd]) := zc;generalize upd H3 p2 (.lst [V.str hd]) = H4 at *;have S24 := S2.trans (S3.trans S4);refine ⟨_, .of (S24 _ _ a1), _, zn (j := 1) rfl, wl1, rfl, _, t4, _, S24 _ _ a3, ?_, fun p3 hp3 => ?_⟩
      . rw [Za, a4]
        exact Zd (show 1 + m1 <= 100 by omega) (by decide)
      have S5 : Same H4 (upd H4 p3 (.lst ([V.str hd] ++ ws1.map V.str))) := Same.upd (Same.refl _) hp3;have t5 : upd H4 p3 (.lst ([V.str hd] ++ ws1.map V.str)) p3 = some (.lst ([V.str hd] ++ ws1.map V.str)) := zc;generalize upd H4 p3 (.lst ([V.str hd] ++ ws1.map V.str)) = H5 at *;have S25 := S24.trans S5;refine ⟨_, .of (S25 _ _ b1), _, zn (j := 1) rfl, wl2, rfl, _, t5, _, S25 _ _ b3, ?_, fun p4 hp4 => ?_⟩
      . rw [Zo, Za, Za, a4, b4]
        exact Zd (show 1 + m1 + m2 <= 100 by omega) (by decide)
      have S6 : Same H5 (upd H5 p4 (.lst ([V.str hd] ++ ws1.map V.str ++ ws2.map V.str))) := Same.upd (Same.refl _) hp4;have t6 : upd H5 p4 (.lst ([V.str hd] ++ ws1.map V.str ++ ws2.map V.str)) p4 = some (.lst ([V.str hd] ++ ws1.map V.str ++ ws2.map V.str)) := zc;generalize upd H5 p4 (.lst ([V.str hd] ++ ws1.map V.str ++ ws2.map V.str)) = H6 at *;refine ⟨by decide, fun p5 hp5 => ?_⟩;have S7 : Same H6 (upd H6 p5 (.tup [V.ref p1, V.ref p4, V.ref p])) := Same.upd (Same.refl _) hp5;have t7 : upd H6 p5 (.tup [V.ref p1, V.ref p4, V.ref p]) p5 = some (.tup [V.ref p1, V.ref p4, V.ref p]) := zc;generalize upd H6 p5 (.tup [V.ref p1, V.ref p4, V.ref p]) = H7 at *;have S37 := S4.trans (S5.trans (S6.trans S7));have S07 := S2.trans (S3.trans S37)
      have hsh : o5 (hd :: (ws1 ++ ws2)) := fun y hy => by
        rcases ZK.mp hy with e | e
        . rw [e]
          rcases hhd with rfl | rfl <;> decide +kernel
        . rcases ZH.mp e with e | e
          . exact a5 y e
          . exact b5 y e
      have t67 := S7 _ _ t6;have hp7 := (S3.trans S37) _ _ hp2;have hws : ([V.str hd] ++ ws1.map V.str ++ ws2.map V.str) = (hd :: (ws1 ++ ws2)).map V.str := by simp
      rw [hws] at t67;have hlw : (hd :: (ws1 ++ ws2)).length = 1 + m1 + m2 := by simp [a4, b4]; omega
      have d1 := i1.dep;have d2 := i2.dep
      rcases hhd with e | e
      . rw [e, if_pos rfl] at hp7
        rw [e] at t3 hsh hlw t67;refine q _ _ (.an c1 c2) S07 ⟨⟨p5, _, p4, p, _, rfl, t7, ⟨p1, x1, x2, rfl, S37 _ _ t3, a2.mono S07, b2.mono S07⟩, t67, hlw, hsh, ?_, by rw [wd, a7, b7]⟩, ⟨i1.ok, i2.ok⟩, ⟨i1.fit, i2.fit⟩, (show max (dep c1) (dep c2) + 1 < _ by omega)⟩;rw [hp7]
        congr 3
        rw [Rws3, Rws3, Rws3, List.zipWith_map, List.zipWith_self];rfl
      . have e' : ¬ hd = Str.ofString "and" := by rw [e]; decide
        rw [if_neg e'] at hp7;rw [e] at t3 hsh hlw t67;refine q _ _ (.orr c1 c2) S07 ⟨⟨p5, _, p4, p, _, rfl, t7, ⟨p1, x1, x2, rfl, S37 _ _ t3, a2.mono S07, b2.mono S07⟩, t67, hlw, hsh, ?_, by rw [wd, a7, b7]⟩, ⟨i1.ok, i2.ok⟩, ⟨i1.fit, i2.fit⟩, (show max (dep c1) (dep c2) + 1 < _ by omega)⟩;rw [hp7]
        congr 3
        rw [Rws3, Rws3, Rws3, List.zipWith_map, List.zipWith_self];rfl
end
def ItemsAt (ds : List HD) (H : Hp) (its : List (V × Cd × Nat)) (n : Nat) (rs : List (Addr × List Str)) : Prop := ∀ i ∈ its, ItemAt ds H i.1 i.2.1 i.2.2 n rs /\ i.2.2 <= 34
def zbb : Sp := fun vs H Q _ => ∃ (st : Addr) (cv : Int) (b l : Addr) (its : List (V × Cd × Nat)) (hs rs : List (Addr × List Str)) (ds : List HD), vs = [.ref st, .int cv, .ref b, .ref l] /\ H st = some (.lst (its.map fun i => i.1)) /\ ItemsAt ds H its hs.length rs /\ its.length <= 60 /\ HandsN H b hs ds /\ 1 <= hs.length /\ hs.length <= 4 /\ RowsW H l rs hs.length /\ rs.length <= 2401 /\
  ∀ H' st' its', Same H H' -> H' st' = some (.lst (its'.map fun i => i.1)) -> H st' = none -> ItemsAt ds H' its' hs.length rs -> 1 <= its'.length -> its'.length <= its.length + 1 -> Q (.ref st') H'
theorem ItemsAt.mono {ds : List HD} {H H' : Hp} {its : List (V × Cd × Nat)} {n : Nat} {rs : List (Addr × List Str)} (S : Same H H') (h : ItemsAt ds H its n rs) : ItemsAt ds H' its n rs := fun i hi => ⟨(h i hi).1.mono S, (h i hi).2⟩
theorem ItemsAt.snoc {ds : List HD} {H : Hp} {its : List (V × Cd × Nat)} {n : Nat} {rs : List (Addr × List Str)} {v : V} {c : Cd} {m : Nat} (h : ItemsAt ds H its n rs) (hi : ItemAt ds H v c m n rs) (hm : m <= 34) : ItemsAt ds H (its ++ [(v, c, m)]) n rs := fun i z => by
  rcases ZH.mp z with y | y
  . exact h i y
  . rw [ZC.mp y]; exact ⟨hi, hm⟩
def PvNt (H : Hp) (bs : List Bool) (i : Nat) (ys : List V) (H' : Hp) : Prop := H' = H /\ ys = ((bs.take i).map fun b => !b).map V.bl
section
variable {P : Program} {w : World} {K : Fg} {mg : Str -> Option Value} {base : Heap}
theorem ox (B : Bt mg) (o7 : FnAt P w K mg base "_law_leaf" 1 ["cell", "hands", "rows"] zae) (qr : FnAt P w K mg base "_law_joined" 1 ["head", "one", "other"] i7) (D : zl K mg "_law_step" xz ["stack", "cell", "hands", "rows"]) : FnAt P w K mg base "_law_step" 2 ["stack", "cell", "hands", "rows"] zbb := by
  refine FnAt.of D sc_law_step (fun vs H Q E h => ?_) (fun f cdv A outer s H vs Q E hr h => ?_)
  . obtain ⟨st, cv, b, l, its, hs, rs, ds, rfl, _⟩ := h
    rfl
  . obtain ⟨st, cv, b, l, its, hs, rs, ds, rfl, hst, hI, l60, hH, h1, h4, hR, lr, q⟩ := h
    have rest3 : ∃ tr, PSs (cxOf CX0 P w K mg base ["stack", "cell", "hands", "rows", "way", "one"] "_law_step" (zf xz) f cdv A outer s H E).nox ((zx xz).drop 3) tr /\
        ∀ (v4 v5 : Option V), tr { nx := fun _ H' => Q .non H', rt := Q } [some (.ref st), some (.int cv), some (.ref b), some (.ref l), v4, v5] H := by
      refine ⟨_, (zh (@zt _ _ _ _ (@zm _ _ _ _ _ _ _ _ xn (pv 0) (@yd _ _ _ _ (za (zo o7 (hr.mono (by decide)) rfl (za (@zm _ _ _ _ _ _ _ _ yn (pv 1) (@zd _ _ _ _)) (za (pv 2) (za (pv 3) (@zb _))))) (@zb _)))))), fun v4 v5 => ?_⟩;simp only [zk, zj, ↓reduceIte];refine ⟨⟨by decide, by decide⟩, cv / 6, b, l, hs, rs, ds, rfl, hH, h1, h4, hR, lr, fun H1 v c S1 it => ⟨by decide, fun p hp => ?_⟩⟩;have S2 : Same H1 (upd H1 p (.lst [v])) := Same.upd (Same.refl _) hp;have t2 : upd H1 p (.lst [v]) p = some (.lst [v]) := zc;generalize upd H1 p (.lst [v]) = H2 at *;refine ⟨_, (S1.trans S2) _ _ hst, _, t2, ?_, fun p1 hp1 => ?_⟩
      . rw [Za]
        exact Zd (show its.length + 1 <= 100 by omega) (by decide)
      have S3 : Same H2 (upd H2 p1 (.lst ((its.map fun i => i.1) ++ [v]))) := Same.upd (Same.refl _) hp1;have S03 := S1.trans (S2.trans S3);exact q _ p1 (its ++ [(v, c, 3)]) S03 (by rw [zc, Zn]; rfl) (S1.free (S2.free hp1)) ((hI.mono S03).snoc (it.mono (S2.trans S3)) (by decide)) (by simp) (by simp)
    obtain ⟨tr3, hrest3, hR3⟩ := rest3
    have rest2 : ∃ tr, PSs (cxOf CX0 P w K mg base ["stack", "cell", "hands", "rows", "way", "one"] "_law_step" (zf xz) f cdv A outer s H E).nox ((zx xz).drop 2) tr /\
        ∀ (wy : Int) (v5 : Option V), tr { nx := fun _ H' => Q .non H', rt := Q } [some (.ref st), some (.int cv), some (.ref b), some (.ref l), some (.int wy), v5] H := by
      refine ⟨_, (zg (@yb _ _ _ _ _ _ _ _ (PW.pt (@vi _ _ _ _ _ _ _ (@zw _ _ _ _ _ _ _ _ pb (pv 4) (@zd _ _ _ _) (z0 _)) (@vi _ _ _ _ _ _ _ (@zw _ _ _ _ _ _ _ _ rq (zq zv rfl B.len yc (za (pv 0) (@zb _))) (@zd _ _ _ _) (z0 _)) (@qe _ _ _ _ (@zw _ _ _ _ _ _ _ _ pb (@zm _ _ _ _ _ _ _ _ yg (zq zv rfl B.len yc (za (@zr _ _ _ _ _ _ _ z9 (@zr _ _ _ _ _ _ _ z4 (pv 0) (@ul _ _ _ _ _ _ w5 (@zd _ _ _ _)) (fun _ _ => rfl)) (@zd _ _ _ _) (fun _ _ => rfl)) (@zb _))) (zq zv rfl B.len yc (za (@zr _ _ _ _ _ _ _ z9 (@zr _ _ _ _ _ _ _ z4 (pv 0) (@ul _ _ _ _ _ _ w5 (@zd _ _ _ _)) (fun _ _ => rfl)) (@zd _ _ _ _) (fun _ _ => rfl)) (@zb _)))) (@zd _ _ _ _) (z0 _)))))) (@zh _ _ _ (@zt _ _ _ _ (@zm _ _ _ _ _ _ _ _ xn (@yu _ _ _ _ _ _ _ _ _ _ wf (pv 0) (@xa _) (@yw _ _ _ (@ul _ _ _ _ _ _ w5 (@zd _ _ _ _)))) (@yd _ _ _ _ (za (zo qr (hr.mono (by decide)) rfl (za (@zr _ _ _ _ _ _ _ z4 (@yd _ _ _ _ (za (@zp _ _ _ _) (za (@zp _ _ _ _) (@zb _)))) (@zm _ _ _ _ _ _ _ _ yf (@zm _ _ _ _ _ _ _ _ yn (pv 1) (@zd _ _ _ _)) (@zd _ _ _ _)) (fun _ _ => rfl)) (za (@zr _ _ _ _ _ _ _ z4 (pv 0) (@ul _ _ _ _ _ _ w5 (@zd _ _ _ _)) (fun _ _ => rfl)) (za (@zr _ _ _ _ _ _ _ z4 (pv 0) (@ul _ _ _ _ _ _ w5 (@zd _ _ _ _)) (fun _ _ => rfl)) (@zb _))))) (@zb _)))))) (@z5 _))
      hrest3), fun wy v5 => ?_⟩
      refine hideK fun T hT => ?_
      simp only [zk, zj, ↓reduceIte];refine ite2 (fun _ => ⟨_, .inl (.of hst), ite2 (fun z => ?_) (fun _ => iteF (hR3 _ _))⟩) (fun _ => iteF (hR3 _ _));rw [Za] at z;have z1 : 1 < its.length := by have := of_decide_eq_true z; omega
      have el : its[its.length - 1]? = some its[its.length - 1] := Zb (by omega);have ep : its[its.length - 2]? = some its[its.length - 2] := Zb (by omega);obtain ⟨i1, m1⟩ := hI _ (Zl (show its.length - 1 < its.length by omega));obtain ⟨i2, m2⟩ := hI _ (Zl (show its.length - 2 < its.length by omega));have hlm : (its.map fun i => i.1).length = its.length := Za _;have al : atI (its.map fun i => i.1) (-1) = some (its[its.length - 1]).1 := oj (k := 1) (by decide) (by omega) (by rw [hlm, Ze, el]; rfl);have ap : atI (its.map fun i => i.1) (-2) = some (its[its.length - 2]).1 := oj (k := 2) (by decide) (by omega) (by rw [hlm, Ze, ep]; rfl);generalize its[its.length - 1] = il at *;generalize its[its.length - 2] = ip at *;obtain ⟨t1, x1, wl1, tl1, ws1, e1, a1, a2, a3, a4, a5, a6, a7⟩ := i1.ex;obtain ⟨t2, x2, wl2, tl2, ws2, e2, b1, b2, b3, b4, b5, b6, b7⟩ := i2.ex;refine ⟨_, .of hst, _, al, t1, e1, _, .of a1, _, zn (j := 1) rfl, wl1, rfl, _, .inl (.of a3), _, .of hst, _, ap, t2, e2, _, .of b1, _, zn (j := 1) rfl, wl2, rfl, _, .inl (.of b3), ?_⟩;rw [Za, Za, a4, b4];refine ite2 (fun y => ?_) (fun _ => hR3 _ _);rw [hT];clear hT T;simp only [zk, zj, ↓reduceIte];have y34 : il.2.2 + ip.2.2 < 34 := by have := of_decide_eq_true y; omega
      have ecut : cutV (its.map fun i => i.1) none (some (-2)) = (its.take (its.length - 2)).map fun i => i.1 := by
        rw [show (-2 : Int) = -((2 : Nat) : Int) from rfl, l6 (by decide) (by omega), hlm, Yh]
      refine ⟨_, .of hst, fun p hp => ?_⟩;rw [ecut];have S1 : Same H (upd H p (.lst ((its.take (its.length - 2)).map fun i => i.1))) := Same.upd (Same.refl _) hp;have u1 : upd H p (.lst ((its.take (its.length - 2)).map fun i => i.1)) p = some (.lst ((its.take (its.length - 2)).map fun i => i.1)) := zc;generalize upd H p (.lst ((its.take (its.length - 2)).map fun i => i.1)) = H1 at *;refine ⟨by decide, fun p1 hp1 => ?_⟩;have S2 : Same H1 (upd H1 p1 (.lst [V.str (Str.ofString "and"), V.str (Str.ofString "or")])) := Same.upd (Same.refl _) hp1;have u2 : upd H1 p1 (.lst [V.str (Str.ofString "and"), V.str (Str.ofString "or")]) p1 = some (.lst [V.str (Str.ofString "and"), V.str (Str.ofString "or")]) := zc;generalize upd H1 p1 (.lst [V.str (Str.ofString "and"), V.str (Str.ofString "or")]) = H2 at *;have S02 := S1.trans S2
      have hhd : ∃ hd : Str, atI [V.str (Str.ofString "and"), V.str (Str.ofString "or")] (cv / 6 % 2) = some (V.str hd) /\ (hd = Str.ofString "and" \/ hd = Str.ofString "or") := by
        have h2 := yp (cv / 6) (show (0 : Int) < 2 by decide);have : cv / 6 % 2 = 0 \/ cv / 6 % 2 = 1 := by omega
        rcases this with e | e <;> rw [e]
        . exact ⟨_, zn (j := 0) rfl, .inl rfl⟩
        . exact ⟨_, zn (j := 1) rfl, .inr rfl⟩
      obtain ⟨hd, ehd, hhd⟩ := hhd;refine ⟨⟨by decide, by decide⟩, by decide, _, .of u2, _, ehd, _, .of (S02 _ _ hst), _, ap, _, .of (S02 _ _ hst), _, al, hd, _, _, ip.2.1, il.2.1, ip.2.2, il.2.2, hs.length, rs, ds, rfl, hhd, i2.mono S02, i1.mono S02, by omega, lr, fun H3 v c S3 it => ⟨by decide, fun p2 hp2 => ?_⟩⟩;have S4 : Same H3 (upd H3 p2 (.lst [v])) := Same.upd (Same.refl _) hp2;have u4 : upd H3 p2 (.lst [v]) p2 = some (.lst [v]) := zc;generalize upd H3 p2 (.lst [v]) = H4 at *;refine ⟨_, (S2.trans (S3.trans S4)) _ _ u1, _, u4, ?_, fun p3 hp3 => ?_⟩
      . rw [Za, Zj]
        exact Zd (show _ + 1 <= 100 by omega) (by decide)
      have S5 : Same H4 (upd H4 p3 (.lst (((its.take (its.length - 2)).map fun i => i.1) ++ [v]))) := Same.upd (Same.refl _) hp3;have S05 := S02.trans (S3.trans (S4.trans S5));have hIt : ItemsAt ds H (its.take (its.length - 2)) hs.length rs := fun i hi => hI i (List.mem_of_mem_take hi)
      refine q _ p3 (its.take (its.length - 2) ++ [(v, c, 1 + ip.2.2 + il.2.2)]) S05 (by rw [zc, Zn]; rfl) (S02.free (S3.free (S4.free hp3))) ((hIt.mono S05).snoc (it.mono (S4.trans S5)) (by omega)) (by simp) ?_;rw [Zo, Zj]
      show _ + 1 <= _
      omega
    obtain ⟨tr2, hrest2, hR2⟩ := rest2
    refine ⟨_, (zg (zu (i := 4) sc_law_step.nd rfl (Or.inl rfl) (@zm _ _ _ _ _ _ _ _ yf (pv 1) (@zd _ _ _ _)))
      (zg (@yb _ _ _ _ _ _ _ _ (PW.pt (@vi _ _ _ _ _ _ _ (@zw _ _ _ _ _ _ _ _ y9 (pv 4) (@zd _ _ _ _) (z0 _)) (@vi _ _ _ _ _ _ _ (@zw _ _ _ _ _ _ _ _ rq (zq zv rfl B.len yc (za (pv 0) (@zb _))) (@zd _ _ _ _) (z0 _)) (@qe _ _ _ _ (@zw _ _ _ _ _ _ _ _ pb (zq zv rfl B.len yc (za (@zr _ _ _ _ _ _ _ z9 (@zr _ _ _ _ _ _ _ z4 (pv 0) (@ul _ _ _ _ _ _ w5 (@zd _ _ _ _)) (fun _ _ => rfl)) (@zd _ _ _ _) (fun _ _ => rfl)) (@zb _))) (@zd _ _ _ _) (z0 _)))))) (@zg _ _ _ _ _ (zu (i := 5) sc_law_step.nd rfl (Or.inl rfl) (@zr _ _ _ _ _ _ _ z4 (pv 0) (@ul _ _ _ _ _ _ w5 (@zd _ _ _ _)) (fun _ _ => rfl))) (@zh _ _ _ (@zt _ _ _ _ (@zm _ _ _ _ _ _ _ _ xn (@yu _ _ _ _ _ _ _ _ _ _ wf (pv 0) (@xa _) (@yw _ _ _ (@ul _ _ _ _ _ _ w5 (@zd _ _ _ _)))) (@yd _ _ _ _ (@za _ _ _ _ _ (@yl _ _ _ _ _ (@za _ _ _ _ _ (@yl _ _ _ _ _ (@za _ _ _ _ _ (@zp _ _ _ _) (@za _ _ _ _ _ (@zr _ _ _ _ _ _ _ z9 (pv 5) (@zd _ _ _ _) (fun _ _ => rfl)) (@zb _) (zi nofun)) (zi nofun))) (@za _ _ _ _ _ (@zm _ _ _ _ _ _ _ _ xn (@yd _ _ _ _ (@za _ _ _ _ _ (@zp _ _ _ _) (@zb _) (zi nofun))) (@zr _ _ _ _ _ _ _ z9 (pv 5) (@zd _ _ _ _) (fun _ _ => rfl))) (@za _ _ _ _ _ (yr ["truth"] ["stack", "cell", "hands", "rows", "way", "one"] rfl (@yo _ _ _ _ (@zr _ _ _ _ _ _ _ z9 (pv 5) (@zd _ _ _ _) (fun _ _ => rfl))) (fun _ => (z6 (i := 0) (show (["truth", "stack", "cell", "hands", "rows", "way", "one"] : List Str).Nodup by decide +kernel) rfl (Or.inl rfl))) (fun _ => (@ym _)) (fun _ => (@az _ _ _ _ (pv 0))) rfl (by decide +kernel) rfl rfl) (@zb _) (zi nofun)) (zi nofun)) (zi nofun))) (@zb _) (zi nofun))))))) (@z5 _))
      hrest2)), ?_⟩
    rw [show start ["stack", "cell", "hands", "rows", "way", "one"] [V.ref st, V.int cv, V.ref b, V.ref l] = [some (V.ref st), some (V.int cv), some (V.ref b), some (V.ref l), none, none] from rfl];refine hideJ fun T hT => ?_
    simp only [zk, zj, ↓reduceIte];refine ⟨by decide, rfl, ite2 (fun _ => ⟨_, .inl (.of hst), ite2 (fun z => ?_) (fun _ => iteF (hR2 _ _))⟩) (fun _ => iteF (hR2 _ _))⟩;rw [Za] at z;have z1 : 0 < its.length := by have := of_decide_eq_true z; omega
    have el : its[its.length - 1]? = some its[its.length - 1] := Zb (by omega);obtain ⟨i1, m1⟩ := hI _ (Zl (show its.length - 1 < its.length by omega));have hlm : (its.map fun i => i.1).length = its.length := Za _;have al : atI (its.map fun i => i.1) (-1) = some (its[its.length - 1]).1 := oj (k := 1) (by decide) (by omega) (by rw [hlm, Ze, el]; rfl);generalize its[its.length - 1] = il at *;obtain ⟨t1, x1, wl1, tl1, ws1, e1, a1, a2, a3, a4, a5, a6, a7⟩ := i1.ex;refine ⟨_, .of hst, _, al, t1, e1, _, .of a1, _, zn (j := 1) rfl, wl1, rfl, _, .inl (.of a3), ?_⟩;rw [Za, a4];refine ite2 (fun y => ?_) (fun _ => hR2 _ _);rw [hT];clear hT T;simp only [zk, zj, ↓reduceIte];have y34 : il.2.2 < 34 := by have := of_decide_eq_true y; omega
    have ecut : cutV (its.map fun i => i.1) none (some (-1)) = (its.take (its.length - 1)).map fun i => i.1 := by
      rw [show (-1 : Int) = -((1 : Nat) : Int) from rfl, l6 (by decide) (by omega), hlm, Yh]
    refine ⟨_, .of hst, _, al, _, .of hst, fun p hp => ?_⟩;rw [ecut];have S1 : Same H (upd H p (.lst ((its.take (its.length - 1)).map fun i => i.1))) := Same.upd (Same.refl _) hp;have u1 : upd H p (.lst ((its.take (its.length - 1)).map fun i => i.1)) p = some (.lst ((its.take (its.length - 1)).map fun i => i.1)) := zc;generalize upd H p (.lst ((its.take (its.length - 1)).map fun i => i.1)) = H1 at *;refine ⟨t1, e1, _, .of (S1 _ _ a1), _, zn (j := 0) rfl, by decide, fun p1 hp1 => ?_⟩;have S2 : Same H1 (upd H1 p1 (.tup [V.str (Str.ofString "not"), x1])) := Same.upd (Same.refl _) hp1;have u2 : upd H1 p1 (.tup [V.str (Str.ofString "not"), x1]) p1 = some (.tup [V.str (Str.ofString "not"), x1]) := zc;generalize upd H1 p1 (.tup [V.str (Str.ofString "not"), x1]) = H2 at *;refine ⟨by decide, fun p2 hp2 => ?_⟩;have S3 : Same H2 (upd H2 p2 (.lst [V.str (Str.ofString "not")])) := Same.upd (Same.refl _) hp2;have u3 : upd H2 p2 (.lst [V.str (Str.ofString "not")]) p2 = some (.lst [V.str (Str.ofString "not")]) := zc;generalize upd H2 p2 (.lst [V.str (Str.ofString "not")]) = H3 at *;have S03 := S1.trans (S2.trans S3);refine ⟨t1, e1, _, .of (S03 _ _ a1), _, zn (j := 1) rfl, wl1, rfl, _, u3, _, S03 _ _ a3, ?_, fun p3 hp3 => ?_⟩
    . rw [Za, a4]
      exact Zd (show 1 + _ <= 100 by omega) (by decide)
    have S4 : Same H3 (upd H3 p3 (.lst ([V.str (Str.ofString "not")] ++ ws1.map V.str))) := Same.upd (Same.refl _) hp3;have u4 : upd H3 p3 (.lst ([V.str (Str.ofString "not")] ++ ws1.map V.str)) p3 = some (.lst ([V.str (Str.ofString "not")] ++ ws1.map V.str)) := zc;generalize upd H3 p3 (.lst ([V.str (Str.ofString "not")] ++ ws1.map V.str)) = H4 at *;have S04 := S03.trans S4;have lbs : (Rws3 rs il.2.1).length = rs.length := by rw [Rws3, Za]
    refine ⟨t1, e1, _, .of (S04 _ _ a1), _, zn (j := 2) rfl, tl1, rfl, ⟨_, .of (S04 _ _ a6)⟩, fun d => ?_⟩;refine ye (xs := (Rws3 rs il.2.1).map V.bl) (PvNt H4 (Rws3 rs il.2.1)) ⟨rfl, rfl⟩ ?_ ?_ ?_
    . rintro i ys H5 hi ⟨rfl, rfl⟩
      refine ⟨?_, .of (S04 _ _ a6)⟩;rw [Za, Za, Zj, lbs];exact Zd (show _ <= 2401 by omega) (by decide)
    . rintro i x ys H5 hx ⟨rfl, rfl⟩
      obtain ⟨bb, eb, rfl⟩ := yk hx;simp only [zk, zj, ↓reduceIte];refine ⟨rfl, ?_⟩;rw [Zq, eb, Zn, Zn];rfl
    . rintro ys H5 ⟨rfl, rfl⟩ tl htl
      rw [Za, Zt];have en : ((Rws3 rs il.2.1).map fun b => !b) = Rws3 rs (.no il.2.1) := by rw [Rws3, Rws3, Yv]; rfl
      rw [en];have S5 : Same H5 (upd H5 tl (.lst ((Rws3 rs (.no il.2.1)).map V.bl))) := Same.upd (Same.refl _) htl;have u5 : upd H5 tl (.lst ((Rws3 rs (.no il.2.1)).map V.bl)) tl = some (.lst ((Rws3 rs (.no il.2.1)).map V.bl)) := zc;generalize upd H5 tl (.lst ((Rws3 rs (.no il.2.1)).map V.bl)) = H6 at *;refine ⟨by decide, fun p4 hp4 => ?_⟩;have S6 : Same H6 (upd H6 p4 (.tup [V.ref p1, V.ref p3, V.ref tl])) := Same.upd (Same.refl _) hp4;have u6 : upd H6 p4 (.tup [V.ref p1, V.ref p3, V.ref tl]) p4 = some (.tup [V.ref p1, V.ref p3, V.ref tl]) := zc;generalize upd H6 p4 (.tup [V.ref p1, V.ref p3, V.ref tl]) = H7 at *;refine ⟨by decide, fun p5 hp5 => ?_⟩;have S7 : Same H7 (upd H7 p5 (.lst [V.ref p4])) := Same.upd (Same.refl _) hp5;have u7 : upd H7 p5 (.lst [V.ref p4]) p5 = some (.lst [V.ref p4]) := zc;generalize upd H7 p5 (.lst [V.ref p4]) = H8 at *;have S58 := S5.trans (S6.trans S7);refine ⟨_, (S2.trans (S3.trans (S4.trans S58))) _ _ u1, _, u7, ?_, fun p6 hp6 => ?_⟩
      . rw [Za, Zj]
        exact Zd (show _ + 1 <= 100 by omega) (by decide)
      have S8 : Same H8 (upd H8 p6 (.lst (((its.take (its.length - 1)).map fun i => i.1) ++ [V.ref p4]))) := Same.upd (Same.refl _) hp6;have S08 := S04.trans (S58.trans S8);have hIt : ItemsAt ds H (its.take (its.length - 1)) hs.length rs := fun i hi => hI i (List.mem_of_mem_take hi)
      have S48 := S58.trans S8;have d1 := i1.dep
      have it : ItemAt ds (upd H8 p6 (.lst (((its.take (its.length - 1)).map fun i => i.1) ++ [V.ref p4]))) (.ref p4) (.no il.2.1) (1 + il.2.2) hs.length rs := by
        refine ⟨⟨p4, _, p3, tl, Str.ofString "not" :: ws1, rfl, (S7.trans S8) _ _ u6, ⟨p1, x1, rfl, (S3.trans (S4.trans S48)) _ _ u2, a2.mono S08⟩, ?_, by simp [a4]; omega, fun y hy => ?_, (S6.trans (S7.trans S8)) _ _ u5, by rw [wd, a7]⟩, i1.ok, i1.fit, (show dep il.2.1 + 1 < _ by omega)⟩
        . exact S48 _ _ u4
        . rcases ZK.mp hy with e | e
          . rw [e]; decide +kernel
          . exact a5 y e
      refine q _ p6 (its.take (its.length - 1) ++ [(.ref p4, .no il.2.1, 1 + il.2.2)]) S08 (by rw [zc, Zn]; rfl) (S04.free (S58.free hp6)) ((hIt.mono S08).snoc it (by omega)) (by simp) ?_;rw [Zo, Zj]
      show _ + 1 <= _
      omega
end
theorem CondAt.past {H : Hp} {x : Addr} {xs ys : List V} (hx : H x = some (.lst xs)) : ∀ {c : Cd} {v : V}, CondAt H c v -> CondAt (upd H x (.lst ys)) c v
  | .says _ _, _, h => by obtain ⟨t, e, h⟩ := h; exact ⟨t, e, by rw [zy (fun z => by rw [z, hx] at h; cases h)]; exact h⟩
  | .count _ _, _, h => by obtain ⟨t, e, h⟩ := h; exact ⟨t, e, by rw [zy (fun z => by rw [z, hx] at h; cases h)]; exact h⟩
  | .no _, _, h => by obtain ⟨t, y, e, h, h1⟩ := h; exact ⟨t, y, e, by rw [zy (fun z => by rw [z, hx] at h; cases h)]; exact h, CondAt.past hx h1⟩
  | .an _ _, _, h => by obtain ⟨t, y, z, e, h, h1, h2⟩ := h; exact ⟨t, y, z, e, by rw [zy (fun z => by rw [z, hx] at h; cases h)]; exact h, CondAt.past hx h1, CondAt.past hx h2⟩
  | .orr _ _, _, h => by obtain ⟨t, y, z, e, h, h1, h2⟩ := h; exact ⟨t, y, z, e, by rw [zy (fun z => by rw [z, hx] at h; cases h)]; exact h, CondAt.past hx h1, CondAt.past hx h2⟩
def Refs (xs : List V) : Prop := ∀ y ∈ xs, ∃ t, y = V.ref t
theorem Refs.strs {xs : List V} {ws : List Str} (h : Refs xs) (e : xs = ws.map V.str) (hw : 1 <= ws.length) : False := by
  cases ws with
  | nil => simp at hw
  | cons w ws =>
    obtain ⟨t, et⟩ := h (V.str w) (by rw [e]; simp);cases et
theorem Refs.bls {xs : List V} {ws : List Bool} (h : Refs xs) (e : xs = ws.map V.bl) (hw : 1 <= ws.length) : False := by
  cases ws with
  | nil => simp at hw
  | cons w ws =>
    obtain ⟨t, et⟩ := h (V.bl w) (by rw [e]; simp);cases et
theorem ItemAt.past {ds : List HD} {H : Hp} {x : Addr} {xs ys : List V} {v : V} {c : Cd} {m n : Nat} {rs : List (Addr × List Str)} (hx : H x = some (.lst xs)) (hr : Refs xs) (h1 : 1 <= rs.length) (h : ItemAt ds H v c m n rs) : ItemAt ds (upd H x (.lst ys)) v c m n rs := by
  obtain ⟨t, y, wl, tl, ws, e, a1, a2, a3, a4, a5, a6, a7⟩ := h.ex;have hd := h.dep;refine ⟨⟨t, y, wl, tl, ws, e, ?_, a2.past hx, ?_, a4, a5, ?_, a7⟩, h.ok, h.fit, h.dep⟩
  . rw [zy (fun z => by rw [z, hx] at a1; cases a1)]; exact a1
  . rw [zy (fun z => by rw [z, hx] at a3; injection a3 with a3; injection a3 with a3; exact hr.strs a3 (by omega))]; exact a3
  . rw [zy (fun z => by rw [z, hx] at a6; injection a6 with a6; injection a6 with a6; exact hr.bls a6 (by rw [Rws3, Za]; exact h1))]; exact a6
theorem aa {ds : List HD} {H : Hp} {its : List (V × Cd × Nat)} {n : Nat} {rs : List (Addr × List Str)} (h : ItemsAt ds H its n rs) : Refs (its.map fun i => i.1) := fun y hy => by
  obtain ⟨i, hi, rfl⟩ := Zp.mp hy;obtain ⟨t, _, _, _, _, e, _⟩ := (h i hi).1.ex;exact ⟨t, e⟩
structure ClauseAt (ds : List HD) (outs : List Str) (H : Hp) (v : V) (c : Cd) (o : Str) : Prop where
  ex : ∃ t x y, v = .ref t /\ H t = some (.tup [x, .str o, .str (Str.join (Str.ofString " ") (clW ds (c, o))), y]) /\ CondAt H c x
  ok : okc True ds c
  dep : dep c < 40
  len : (wd ds c).length <= 34
  out : o ∈ outs
theorem ClauseAt.past {ds : List HD} {outs : List Str} {H : Hp} {x : Addr} {xs ys : List V} {v : V} {c : Cd} {o : Str} (hx : H x = some (.lst xs)) (h : ClauseAt ds outs H v c o) : ClauseAt ds outs (upd H x (.lst ys)) v c o := by
  obtain ⟨t, y, z, e, a1, a2⟩ := h.ex;exact ⟨⟨t, y, z, e, by rw [zy (fun z => by rw [z, hx] at a1; cases a1)]; exact a1, a2.past hx⟩, h.ok, h.dep, h.len, h.out⟩
theorem ClauseAt.mono {ds : List HD} {outs : List Str} {H H' : Hp} {v : V} {c : Cd} {o : Str} (S : Same H H') (h : ClauseAt ds outs H v c o) : ClauseAt ds outs H' v c o := by
  obtain ⟨t, y, z, e, a1, a2⟩ := h.ex;exact ⟨⟨t, y, z, e, S _ _ a1, a2.mono S⟩, h.ok, h.dep, h.len, h.out⟩
def ClsAt (ds : List HD) (outs : List Str) (H : Hp) (cs : List (V × Cd × Str)) : Prop := ∀ c ∈ cs, ClauseAt ds outs H c.1 c.2.1 c.2.2
theorem ClsAt.mono {ds : List HD} {outs : List Str} {H H' : Hp} {cs : List (V × Cd × Str)} (S : Same H H') (h : ClsAt ds outs H cs) : ClsAt ds outs H' cs := fun c hc => (h c hc).mono S
theorem zbx {ds : List HD} {outs : List Str} {H : Hp} {cs : List (V × Cd × Str)} (h : ClsAt ds outs H cs) : Refs (cs.map fun i => i.1) := fun y hy => by
  obtain ⟨i, hi, rfl⟩ := Zp.mp hy;obtain ⟨t, _, _, e, _⟩ := (h i hi).ex;exact ⟨t, e⟩
theorem zdp {sep : Str} {zs : List Str} (hs : sep.length <= 8) (hz : o5 zs) (hl : zs.length <= 100) : JoinOk sep zs = true := by
  have key : ∀ (ws : List Str) (n : Nat), o5 ws -> ws.foldl (fun a z => a + z.length + sep.length) n <= n + 16 * ws.length := by
    intro ws
    induction ws with
    | nil => intro n _; simp
    | cons w ws ih =>
      intro n h;have h1 := h w ZA;have h2 := ih (n + w.length + sep.length) fun y hy => h y (Zv _ hy)
      rw [Xb, ZL];omega
  have h0 := key zs 0 hz;have e : Array.foldl (fun x1 x2 => x1 + x2.length + sep.length) 0 zs.toArray = zs.foldl (fun a z => a + z.length + sep.length) 0 := by simp
  have h16 : 1600 <= sizeLine := by decide
  unfold JoinOk;rw [e]
  show (!decide (_ > sizeLine)) = true
  rw [decide_eq_false (by omega)];rfl
def PvCl (ds : List HD) (outs : List Str) (a o b l cl pc : Addr) (ms : List Int) (n : Nat) (rs : List (Addr × List Str)) (H : Hp) (i : Nat) (σ : L2.St) (H' : Hp) : Prop := Same H H' /\ ∃ (st : Addr) (its : List (V × Cd × Nat)) (cs : List (V × Cd × Str)) (sg : Int) (v7 v8 v9 v10 v11 : Option V), σ = [some (.ref a), some (.ref o), some (.ref b), some (.ref l), some (.ref cl), some (.ref st), some (.int sg), v7, v8, v9, v10, v11] /\ H' st = some (.lst (its.map fun i => i.1)) /\ H st = none /\ ItemsAt ds H' its n rs /\ its.length <= i /\
  H' cl = some (.lst (cs.map fun i => i.1)) /\ ClsAt ds outs H' cs /\ cs.length <= 18 /\ st ≠ cl /\ H' pc = some (.lst (ms.map V.int)) /\ pc ≠ cl
def PvTt (H : Hp) (i : Nat) (ys : List V) (H' : Hp) : Prop := H' = H /\ ys = (List.replicate i true).map V.bl
def j4 (K : Fg) : Sp := fun vs H Q _ => ∃ (a o b l : Addr) (ns : List Int) (outs : List Str) (hs rs : List (Addr × List Str)) (ds : List HD), vs = [.ref a, .ref o, .ref b, .ref l] /\ SqL K H a (ns.map V.int) /\ ns.length <= 63 /\ H o = some (.lst (outs.map V.str)) /\ 1 <= outs.length /\ o5 outs /\ HandsN H b hs ds /\ 1 <= hs.length /\ hs.length <= 4 /\ RowsW H l rs hs.length /\ rs.length <= 2401 /\ 1 <= rs.length /\
  ∀ (H' : Hp) (cl : Addr) (cs : List (V × Cd × Str)) (tz : Addr) (z : Str) (y : V), Same H H' -> H' cl = some (.lst ((cs.map fun c => c.1) ++ [.ref tz])) -> ClsAt ds outs H' cs -> cs.length <= 18 -> H' tz = some (.tup [.non, .str z, .str (Str.ofString "deal " ++ z), y]) -> z ∈ outs -> Q (.ref cl) H'
section
variable {P : Program} {w : World} {K : Fg} {mg : Str -> Option Value} {base : Heap}
theorem re (B : Bt mg) (yt : FnAt P w K mg base "_law_cell_at" 1 ["script", "k"] (kz K)) (ox : FnAt P w K mg base "_law_step" 2 ["stack", "cell", "hands", "rows"] zbb) (D : zl K mg "_law_clauses" vq ["script", "outcomes", "hands", "rows"]) : FnAt P w K mg base "_law_clauses" 3 ["script", "outcomes", "hands", "rows"] (j4 K) := by
  refine FnAt.of D sc_law_clauses (fun vs H Q E h => ?_) (fun f cdv A outer s H vs Q E hr h => ?_)
  . obtain ⟨a, o, b, l, ns, outs, hs, rs, ds, rfl, _⟩ := h
    rfl
  . obtain ⟨a, o, b, l, ns, outs, hs, rs, ds, rfl, hS, hlen, ho, lo, so, hH, h1, h4, hR, lr, lr1, q⟩ := h
    refine ⟨_, (@zg _ _ _ _ _ (zu (i := 4) sc_law_clauses.nd rfl (Or.inl rfl) (@yd _ _ _ _ (@zb _))) (@zg _ _ _ _ _ (zu (i := 5) sc_law_clauses.nd rfl (Or.inl rfl) (@yd _ _ _ _ (@zb _))) (@zg _ _ _ _ _ (zu (i := 6) sc_law_clauses.nd rfl (Or.inl rfl) (@zd _ _ _ _)) (@zg _ _ _ _ _ (sf PassesOwn.never rfl (@yo _ _ _ _ (@yu _ _ _ _ _ _ _ _ _ _ wf (pv 0) (@yw _ _ _ (@zd _ _ _ _)) (@yw _ _ _ (@zd _ _ _ _)))) (z6 (i := 7) sc_law_clauses.nd rfl (Or.inl rfl)) (@zg _ _ _ _ _ (zu (i := 5) sc_law_clauses.nd rfl (Or.inl rfl) (zo ox (hr.mono (by decide)) rfl (za (pv 5) (za (pv 7) (za (pv 2) (za (pv 3) (@zb _))))))) (@zh _ _ _ (@yb _ _ _ _ _ _ _ _ (PW.pt (@vi _ _ _ _ _ _ _ (@zw _ _ _ _ _ _ _ _ y9 (@zm _ _ _ _ _ _ _ _ yf (@zm _ _ _ _ _ _ _ _ yn (pv 7) (@zd _ _ _ _)) (@zd _ _ _ _)) (@zd _ _ _ _) (z0 _)) (@vi _ _ _ _ _ _ _ (@zw _ _ _ _ _ _ _ _ pb (@zm _ _ _ _ _ _ _ _ yg (pv 6) (@zm _ _ _ _ _ _ _ _ oi (@zd _ _ _ _) (zq zv rfl B.len yc (za (@zr _ _ _ _ _ _ _ z9 (@zr _ _ _ _ _ _ _ z4 (pv 5) (@ul _ _ _ _ _ _ w5 (@zd _ _ _ _)) (fun _ _ => rfl)) (@zd _ _ _ _) (fun _ _ => rfl)) (@zb _))))) (@zd _ _ _ _) (z0 _)) (@qe _ _ _ _ (@zw _ _ _ _ _ _ _ _ pb (zq zv rfl B.len yc (za (pv 4) (@zb _))) (@zd _ _ _ _) (z0 _)))))) (@zg _ _ _ _ _ (kt (pe_bm0 PySem.F.plainAttrs_list PySem.F.slot_list_pop PySem.F.type_list_pop mt_pop (pv 5)) (f8 rfl (vx (z6 (i := 8) sc_law_clauses.nd rfl (Or.inl rfl)) (vx (z6 (i := 9) sc_law_clauses.nd rfl (Or.inl rfl)) (vx (z6 (i := 10) sc_law_clauses.nd rfl (Or.inl rfl)) (@jp _)))))) (@zg _ _ _ _ _ (zu (i := 11) sc_law_clauses.nd rfl (Or.inl rfl) (@zr _ _ _ _ _ _ _ z4 (pv 1) (@zm _ _ _ _ _ _ _ _ yf (@zm _ _ _ _ _ _ _ _ yn (pv 7) (@zd _ _ _ _)) (zq zv rfl B.len yc (za (pv 1) (@zb _)))) (fun _ _ => rfl))) (@zg _ _ _ _ _ (zu (i := 6) sc_law_clauses.nd rfl (Or.inl rfl) (@zm _ _ _ _ _ _ _ _ yg (@zm _ _ _ _ _ _ _ _ yg (pv 6) (@zm _ _ _ _ _ _ _ _ oi (@zd _ _ _ _) (zq zv rfl B.len yc (za (pv 9) (@zb _))))) (@zd _ _ _ _))) (@zh _ _ _ (qd (x9 PySem.F.plainAttrs_list PySem.F.slot_list_append PySem.F.type_list_append su (pv 4) (@za _ _ _ _ _ (@yl _ _ _ _ _ (@za _ _ _ _ _ (pv 8) (@za _ _ _ _ _ (pv 11) (@za _ _ _ _ _ (x9 PySem.F.plainAttrs_str PySem.F.slot_str_join PySem.F.type_str_join oh (@zp _ _ _ _) (@za _ _ _ _ _ (@zm _ _ _ _ _ _ _ _ xn (@zm _ _ _ _ _ _ _ _ xn (@yd _ _ _ _ (@za _ _ _ _ _ (@zp _ _ _ _) (@zb _) (zi nofun))) (pv 9)) (@yd _ _ _ _ (@za _ _ _ _ _ (@zp _ _ _ _) (@za _ _ _ _ _ (pv 11) (@zb _) (zi nofun)) (zi nofun)))) (@zb _) (zi nofun))) (@za _ _ _ _ _ (pv 10) (@zb _) (zi nofun)) (zi nofun)) (zi nofun)) (zi nofun))) (@zb _) (zi nofun)))))))) (@z5 _))))) (@zg _ _ _ _ _ (zu (i := 11) sc_law_clauses.nd rfl (Or.inl rfl) (@zr _ _ _ _ _ _ _ z4 (pv 1) (@zm _ _ _ _ _ _ _ _ yf (@zm _ _ _ _ _ _ _ _ yn (zo yt (hr.mono (by decide)) rfl (za (pv 0) (za (@zd _ _ _ _) (@zb _)))) (@zd _ _ _ _)) (zq zv rfl B.len yc (za (pv 1) (@zb _)))) (fun _ _ => rfl))) (@zg _ _ _ _ _ (qd (x9 PySem.F.plainAttrs_list PySem.F.slot_list_append PySem.F.type_list_append su (pv 4) (@za _ _ _ _ _ (@yl _ _ _ _ _ (@za _ _ _ _ _ (@uo _ _ _) (@za _ _ _ _ _ (pv 11) (@za _ _ _ _ _ (@zm _ _ _ _ _ _ _ _ x8 (@zp _ _ _ _) (pv 11)) (@za _ _ _ _ _ (yr ["row"] ["script", "outcomes", "hands", "rows", "clauses", "stack", "signs", "cell", "condition", "words", "truths", "outcome"] rfl (@yo _ _ _ _ (pv 3)) (fun _ => (z6 (i := 0) (show (["row", "script", "outcomes", "hands", "rows", "clauses", "stack", "signs", "cell", "condition", "words", "truths", "outcome"] : List Str).Nodup by decide +kernel) rfl (Or.inl rfl))) (fun _ => (@ym _)) (fun _ => (@xr _ _ _ _)) rfl (by decide +kernel) rfl rfl) (@zb _) (zi nofun)) (zi nofun)) (zi nofun)) (zi nofun))) (@zb _) (zi nofun)))) (@zh _ _ _ (@zt _ _ _ _ (pv 4))))))))), ?_⟩;rw [show start ["script", "outcomes", "hands", "rows", "clauses", "stack", "signs", "cell", "condition", "words", "truths", "outcome"] [V.ref a, V.ref o, V.ref b, V.ref l] = [some (V.ref a), some (V.ref o), some (V.ref b), some (V.ref l), none, none, none, none, none, none, none, none] from rfl];refine hide4 fun T hT => ?_
    simp only [zk, zj, ↓reduceIte];refine ⟨ZE _, fun cl hcl => ?_⟩;have S1 : Same H (upd H cl (.lst [])) := Same.upd (Same.refl _) hcl;have u1 : upd H cl (.lst []) cl = some (.lst []) := zc;generalize upd H cl (.lst []) = H1 at *;refine ⟨ZE _, fun st hst => ?_⟩;have S2 : Same H1 (upd H1 st (.lst [])) := Same.upd (Same.refl _) hst;have u2 : upd H1 st (.lst []) st = some (.lst []) := zc;generalize upd H1 st (.lst []) = H2 at *;have hne : st ≠ cl := fun z => by rw [z, u1] at hst; cases hst
    refine ⟨_, (S1.trans S2).seq hS, fun pc hpc => ?_⟩;have S3 : Same H2 (upd H2 pc (.lst (cutV (ns.map V.int) (some 3) (some 63)))) := Same.upd (Same.refl _) hpc;have u3 : upd H2 pc (.lst (cutV (ns.map V.int) (some 3) (some 63))) pc = some (.lst (cutV (ns.map V.int) (some 3) (some 63))) := zc;generalize upd H2 pc (.lst (cutV (ns.map V.int) (some 3) (some 63))) = H3 at *;have S03 := S1.trans (S2.trans S3)
    have hcut : ∃ ms : List Int, cutV (ns.map V.int) (some 3) (some 63) = ms.map V.int /\ ms.length <= 60 := by
      refine ⟨(ns.drop (HT.sIx (ns.map V.int).length 0 (some 3))).take (HT.sIx (ns.map V.int).length (ns.map V.int).length (some 63) - HT.sIx (ns.map V.int).length 0 (some 3)), by unfold cutV; rw [<- Ym, <- Yh], ?_⟩;rw [Zj, ZO, show (3 : Int) = ((3 : Nat) : Int) from rfl, show (63 : Int) = ((63 : Nat) : Int) from rfl, HT.sIx_nat, HT.sIx_nat, Za];omega
    obtain ⟨ms, ems, lms⟩ := hcut;rw [ems] at u3;refine ⟨⟨_, .of u3⟩, ?_⟩;refine ou (xs := ms.map V.int) (PvCl ds outs a o b l cl pc ms hs.length rs H) ⟨S03, st, [], [], 0, _, _, _, _, _, rfl, S3 _ _ u2, S1.free hst, (fun _ z => nomatch z), Zm _, (S2.trans S3) _ _ u1, (fun _ z => nomatch z), ZE _, hne, u3, fun z => by rw [z, S2 _ _ u1] at hpc; cases hpc⟩ ?_ ?_ ?_
    . rintro i σ H4 hi ⟨S4, st4, its, cs, sg, v7, v8, v9, v10, v11, rfl, hst4, hstn, hI, li, hcl4, hC, lc, ne4, hpc4, npc⟩
      exact .of hpc4
    . rintro i x σ H4 hx ⟨S4, st4, its, cs, sg, v7, v8, v9, v10, v11, rfl, hst4, hstn, hI, li, hcl4, hC, lc, ne4, hpc4, npc⟩
      obtain ⟨cv, ecv, rfl⟩ := zbz hx;have him : i < ms.length := (Zc.mp ecv).1;refine e_gName.mpr ?_
      first | refine hideI fun T2 hT2 => ?_ | refine hideJ fun T2 hT2 => ?_
      simp only [zk, zj, ↓reduceIte];refine ⟨st4, cv, b, l, its, hs, rs, ds, rfl, hst4, hI, by omega, hH.mono S4, h1, h4, hR.mono S4, lr, fun H5 st' its' S5 hst' hn' hI' l1 l2 => ?_⟩;have S05 := S4.trans S5;have hcl5 := S5 _ _ hcl4;have hC5 : ClsAt ds outs H5 cs := hC.mono S5;have ne5 : st' ≠ cl := fun z => by rw [z, hcl4] at hn'; cases hn'
      have hpc5 := S5 _ _ hpc4
      have keep : ∀ w7 w8 w9 w10 w11 : Option V, PvCl ds outs a o b l cl pc ms hs.length rs H (i + 1) [some (.ref a), some (.ref o), some (.ref b), some (.ref l), some (.ref cl), some (.ref st'), some (.int sg), w7, w8, w9, w10, w11] H5 := fun w7 w8 w9 w10 w11 =>
        ⟨S05, st', its', cs, sg, _, _, _, _, _, rfl, hst', S4.free hn', hI', by omega, hcl5, hC5, lc, ne5, hpc5, npc⟩
      have el : its'[its'.length - 1]? = some its'[its'.length - 1] := Zb (by omega);obtain ⟨i1, m1⟩ := hI' _ (Zl (show its'.length - 1 < its'.length by omega));have hlm : (its'.map fun i => i.1).length = its'.length := Za _;have ell : (its'.map fun i => i.1)[(its'.map fun i => i.1).length - 1]? = some (its'[its'.length - 1]).1 := by rw [hlm, Ze, el]; rfl
      have al : atI (its'.map fun i => i.1) (-1) = some (its'[its'.length - 1]).1 := oj (k := 1) (by decide) (by omega) ell;generalize its'[its'.length - 1] = il at *;obtain ⟨t1, x1, wl1, tl1, ws1, e1, a1, a2, a3, a4, a5, a6, a7⟩ := i1.ex;refine ⟨⟨by decide, by decide⟩, by decide, rfl, ite2 (fun _ => ⟨st', rfl, _, .of hst', _, al, t1, e1, _, .of a1, _, zn (j := 1) rfl, wl1, rfl, _, .inl (.of a3), .inl ⟨by decide, by decide⟩, ite2 (fun _ => ⟨_, .inl (.of hcl5), ite2 (fun y18 => ?_) (fun _ => keep _ _ _ _ _)⟩) (fun _ => iteF (keep _ _ _ _ _))⟩) (fun _ => iteF (keep _ _ _ _ _))⟩;have S6' : Same H (upd H5 st' (.lst (its'.map fun i => i.1).dropLast)) := Same.upd S05 (S4.free hn');have rI := aa hI';have hI6 : ∀ j ∈ its'.dropLast, ItemAt ds (upd H5 st' (.lst (its'.map fun i => i.1).dropLast)) j.1 j.2.1 j.2.2 hs.length rs /\ j.2.2 <= 34 := fun j hj => ⟨(hI' j ((List.dropLast_sublist its').subset hj)).1.past hst' rI lr1, (hI' j ((List.dropLast_sublist its').subset hj)).2⟩
      have i16 := i1.past (ys := (its'.map fun i => i.1).dropLast) hst' rI lr1;have hC6 : ClsAt ds outs (upd H5 st' (.lst (its'.map fun i => i.1).dropLast)) cs := fun c hc => (hC5 c hc).past hst'
      have hcl6 : upd H5 st' (.lst (its'.map fun i => i.1).dropLast) cl = some (.lst (cs.map fun i => i.1)) := by rw [zy (Ne.symm ne5)]; exact hcl5
      have hpc6 : upd H5 st' (.lst (its'.map fun i => i.1).dropLast) pc = some (.lst (ms.map V.int)) := by rw [zy (fun z => by rw [<- z, hpc4] at hn'; cases hn')]; exact hpc5
      have hst6 : upd H5 st' (.lst (its'.map fun i => i.1).dropLast) st' = some (.lst (its'.dropLast.map fun i => i.1)) := by rw [zc, List.map_dropLast]
      rw [hT2];clear hT2 T2 keep;refine k7 fun T3 hT3 => ?_
      simp only [zk, zj, ↓reduceIte];refine ⟨.inl ⟨rfl, _, .of hst'⟩, _, hst', _, ell, t1, e1, ?_⟩;generalize upd H5 st' (.lst (its'.map fun i => i.1).dropLast) = H6 at *;obtain ⟨t1', x1', wl1', tl1', ws1', e1', b1, b2, b3, b4, b5, b6, b7⟩ := i16.ex;rw [e1] at e1';cases e1';have ho6 := S6' _ _ ho;have hoo := yp (cv / 31676) (show (0 : Int) < outs.length by omega);obtain ⟨on, eon⟩ : ∃ k : Nat, cv / 31676 % (outs.length : Int) = k := ⟨(cv / 31676 % (outs.length : Int)).toNat, by omega⟩;have hon : on < outs.length := by omega
      have aO : atI (outs.map V.str) (on : Int) = some (V.str outs[on]) := zn (by rw [Ze, Zb hon]; rfl);have soz := so _ (Zl hon);have ozin := Zl hon;generalize outs[on] = oz at *;refine ⟨_, .of b1, rfl, _, _, rfl, _, _, rfl, _, _, rfl, rfl, ?_⟩;rw [hT3];clear hT3 T3;refine aw fun T4 hT4 => ?_
      simp only [zk, zj, ↓reduceIte];refine ⟨⟨by decide, by decide⟩, _, .inl (.of ho6), by rw [Za]; omega, _, .of ho6, V.str oz, by rw [Za, eon]; exact aO, _, .inl (.of b3), .inl ⟨by decide, by decide⟩, ?_⟩;rw [hT4];clear hT4 T4;simp only [zk, zj, ↓reduceIte];refine ⟨(.inl ⟨rfl, _, .of hcl6⟩), rfl, by decide, fun p2 hp2 => ?_⟩;have S7 : Same H6 (upd H6 p2 (.lst [V.str (Str.ofString "when")])) := Same.upd (Same.refl _) hp2;have u7 : upd H6 p2 (.lst [V.str (Str.ofString "when")]) p2 = some (.lst [V.str (Str.ofString "when")]) := zc;generalize upd H6 p2 (.lst [V.str (Str.ofString "when")]) = H7 at *;refine ⟨_, u7, _, S7 _ _ b3, ?_, fun p3 hp3 => ?_⟩
      . rw [Za, b4]
        exact Zd (show 1 + _ <= 100 by omega) (by decide)
      have S8 : Same H7 (upd H7 p3 (.lst ([V.str (Str.ofString "when")] ++ ws1'.map V.str))) := Same.upd (Same.refl _) hp3;have u8 : upd H7 p3 (.lst ([V.str (Str.ofString "when")] ++ ws1'.map V.str)) p3 = some (.lst ([V.str (Str.ofString "when")] ++ ws1'.map V.str)) := zc;generalize upd H7 p3 (.lst ([V.str (Str.ofString "when")] ++ ws1'.map V.str)) = H8 at *;refine ⟨by decide, fun p4 hp4 => ?_⟩;have S9 : Same H8 (upd H8 p4 (.lst [V.str (Str.ofString "deal"), V.str oz])) := Same.upd (Same.refl _) hp4;have u9 : upd H8 p4 (.lst [V.str (Str.ofString "deal"), V.str oz]) p4 = some (.lst [V.str (Str.ofString "deal"), V.str oz]) := zc;generalize upd H8 p4 (.lst [V.str (Str.ofString "deal"), V.str oz]) = H9 at *;refine ⟨_, S9 _ _ u8, _, u9, ?_, fun p5 hp5 => ?_⟩
      . rw [Zo, Za, b4]
        exact Zd (show 1 + _ + 2 <= 100 by omega) (by decide)
      have hws : [V.str (Str.ofString "when")] ++ ws1'.map V.str ++ [V.str (Str.ofString "deal"), V.str oz] = (Str.ofString "when" :: (ws1' ++ [Str.ofString "deal", oz])).map V.str := by simp
      rw [hws];have S10 : Same H9 (upd H9 p5 (.lst ((Str.ofString "when" :: (ws1' ++ [Str.ofString "deal", oz])).map V.str))) := Same.upd (Same.refl _) hp5;have u10 : upd H9 p5 (.lst ((Str.ofString "when" :: (ws1' ++ [Str.ofString "deal", oz])).map V.str)) p5 = some (.lst ((Str.ofString "when" :: (ws1' ++ [Str.ofString "deal", oz])).map V.str)) := zc;generalize upd H9 p5 (.lst ((Str.ofString "when" :: (ws1' ++ [Str.ofString "deal", oz])).map V.str)) = H10 at *
      have hj : JoinOk (Str.ofString " ") (Str.ofString "when" :: (ws1' ++ [Str.ofString "deal", oz])) = true := by
        refine zdp (by decide +kernel) (fun y hy => ?_) ?_
        . simp only [ZK, ZH, Zx, or_false] at hy
          rcases hy with rfl | hy | rfl | rfl
          . decide +kernel
          . exact b5 y hy
          . decide +kernel
          . exact soz
        . simp [b4]; omega
      have S610 := S7.trans (S8.trans (S9.trans S10));refine ⟨_, .of u10, hj, ?_⟩;have ejt : Txt.join (Str.ofString " ") (Str.ofString "when" :: (ws1' ++ [Str.ofString "deal", oz])) = Str.join (Str.ofString " ") (clW ds (il.2.1, oz)) := by rw [wb, b7]; rfl
      rw [ejt];clear hj;generalize ejt2 : Str.join (Str.ofString " ") (clW ds (il.2.1, oz)) = jt at *;refine ⟨by decide, fun p6 hp6 => ?_⟩;have S11 : Same H10 (upd H10 p6 (.tup [x1', V.str oz, V.str jt, V.ref tl1'])) := Same.upd (Same.refl _) hp6;have u11 : upd H10 p6 (.tup [x1', V.str oz, V.str jt, V.ref tl1']) p6 = some (.tup [x1', V.str oz, V.str jt, V.ref tl1']) := zc;generalize upd H10 p6 (.tup [x1', V.str oz, V.str jt, V.ref tl1']) = H11 at *;have S611 := S610.trans S11;have hcl11 := S611 _ _ hcl6;have hC11 : ClsAt ds outs H11 cs := hC6.mono S611;have rC := zbx hC11;have d1 := i1.dep;have new : ClauseAt ds outs H11 (.ref p6) il.2.1 oz := ⟨⟨p6, _, _, rfl, by rw [ejt2]; exact u11, b2.mono S611⟩, i1.ok, by omega, by rw [<- a7, a4]; exact m1, ozin⟩;have hne : cs.length < 18 := by have := of_decide_eq_true y18; rw [Za] at this; omega
      refine ⟨_, hcl11, ?_, Same.upd (S6'.trans S611) hcl, st', its'.dropLast, cs ++ [(.ref p6, il.2.1, oz)], _, _, _, _, _, _, rfl, ?_, S4.free hn', fun j hj => ⟨((hI6 j hj).1.mono S611).past hcl11 rC lr1, (hI6 j hj).2⟩, ?_, ?_, fun c hc => ?_, ?_, ne5, ?_, npc⟩
      . rw [Za]
        exact Zh hne (by decide)
      . rw [zy ne5]; exact S611 _ _ hst6
      . rw [YH]; omega
      . rw [zc, Zn]; rfl
      . rcases ZH.mp hc with z | z
        . exact (hC11 c z).past hcl11
        . rw [ZC.mp z]
          exact new.past hcl11
      . rw [Zo]; show cs.length + 1 <= 18; omega
      . rw [zy npc]; exact S611 _ _ hpc6
    . rintro σ H4 ⟨S4, st4, its, cs, sg, v7, v8, v9, v10, v11, rfl, hst4, hstn, hI, li, hcl4, hC, lc, ne4, hpc4, npc⟩
      rw [hT];simp only [zk, zj, ↓reduceIte];have ho4 := S4 _ _ ho;have hR4 := hR.mono S4;refine ⟨a, ns, 3, rfl, S4.seq hS, by decide, fun c => ⟨c, rfl, ⟨by decide, by decide⟩, _, .inl (.of ho4), by rw [Za]; omega, ?_⟩⟩;rw [Za];have hoo := yp (c / 5) (show (0 : Int) < outs.length by omega);obtain ⟨on, eon⟩ : ∃ k : Nat, c / 5 % (outs.length : Int) = k := ⟨(c / 5 % (outs.length : Int)).toNat, by omega⟩;have hon : on < outs.length := by omega
      have aO : atI (outs.map V.str) (on : Int) = some (V.str outs[on]) := zn (by rw [Ze, Zb hon]; rfl);have soz := so _ (Zl hon);have ozin := Zl hon;generalize outs[on] = oz at *;rw [eon];refine ⟨_, .of ho4, _, aO, .inl ⟨rfl, _, .of hcl4⟩, oz, rfl, ?_, ⟨_, .of hR4.at'⟩, fun d => ?_⟩
      . have : (Str.ofString "deal ").length = 5 := by decide +kernel
        rw [this];exact Zd (show _ <= 13 by omega) (by decide)
      refine ye (xs := rs.map fun r => V.ref r.1) (PvTt H4) ⟨rfl, rfl⟩ ?_ ?_ ?_
      . rintro i ys H5 hi ⟨rfl, rfl⟩
        rw [Za] at hi;exact ⟨by rw [Za, ZI]; exact Zd (show i <= 2401 by omega) (by decide), .of hR4.at'⟩
      . rintro i x ys H5 hx ⟨rfl, rfl⟩
        simp only [zk, zj, ↓reduceIte];refine ⟨rfl, ?_⟩;rw [YK, Zn]; rfl
      . rintro ys H5 ⟨rfl, rfl⟩ tl htl
        rw [Za];have S5 : Same H5 (upd H5 tl (.lst ((List.replicate rs.length true).map V.bl))) := Same.upd (Same.refl _) htl;have u5 : upd H5 tl (.lst ((List.replicate rs.length true).map V.bl)) tl = some (.lst ((List.replicate rs.length true).map V.bl)) := zc;generalize upd H5 tl (.lst ((List.replicate rs.length true).map V.bl)) = H6 at *;refine ⟨by decide, fun t ht => ?_⟩;have S6 : Same H6 (upd H6 t (.tup [V.non, V.str oz, V.str (Str.ofString "deal " ++ oz), V.ref tl])) := Same.upd (Same.refl _) ht;have u6 : upd H6 t (.tup [V.non, V.str oz, V.str (Str.ofString "deal " ++ oz), V.ref tl]) t = some (.tup [V.non, V.str oz, V.str (Str.ofString "deal " ++ oz), V.ref tl]) := zc;generalize upd H6 t (.tup [V.non, V.str oz, V.str (Str.ofString "deal " ++ oz), V.ref tl]) = H7 at *;have S57 := S5.trans S6;have hcl7 := S57 _ _ hcl4;have hC7 : ClsAt ds outs H7 cs := hC.mono S57;refine ⟨_, hcl7, ?_, q _ cl cs t oz (V.ref tl) (Same.upd (S4.trans S57) hcl) zc (fun c hc => (hC7 c hc).past hcl7) lc ?_ ozin⟩
        . rw [Za]
          exact Ys lc (by decide)
        . rw [zy (fun z => by rw [z, hcl7] at u6; cases u6)]
          exact u6
end
def RuleL (H : Hp) (l : Addr) (cls : List (Cd × Str)) (z : Str) : Prop := ∃ (rl : List (Addr × Cd × Str)) (tz : Addr), H l = some (.lst ((rl.map fun r => V.ref r.1) ++ [.ref tz])) /\ rl.map (fun r => r.2) = cls /\ (∀ r ∈ rl, ∃ x, H r.1 = some (.tup [x, .str r.2.2]) /\ CondAt H r.2.1 x) /\ H tz = some (.tup [.non, .str z])
theorem HandsL.named {H : Hp} {b : Addr} {xs : List HX} {ds : List HD} (h : HandsL H b xs ds) (hg : ∀ d ∈ ds, GoodN d.name /\ 1 <= d.words.length /\ d.words.length <= 7 /\ ∀ z ∈ d.words, GoodN z) : HandsN H b ((xs.zip ds).map fun p => (p.1.t, p.2.words)) ds := by
  obtain ⟨hW, lW⟩ := h.wide hg;refine ⟨hW, lW, fun k y d e1 e2 => ?_⟩;have hk : k < ds.length := (Zc.mp e2).1;have hx : k < xs.length := by rw [h.len]; exact hk
  have ex : xs[k]? = some xs[k] := Zb hx
  have ez : (xs.zip ds)[k]? = some (xs[k], ds[k]) := by
    rw [Zb (by rw [Yq]; omega), YY]
  rw [Ze, ez] at e1;rw [Zb hk] at e2;cases e1; cases e2;exact ⟨rfl, _, _, (h.hand k _ _ ex (Zb hk)).tup⟩
def OkW (w : Str) : Prop := w.length <= 8 /\ 32 ∉ w.cps.toList /\ 59 ∉ w.cps.toList
theorem GoodN.okw {w : Str} (h : GoodN w) : OkW w := ⟨h.2.1, fun z => by have := h.2.2 _ z; omega, fun z => by have := h.2.2 _ z; omega⟩
theorem zce : OkW (Str.ofString "says") := by unfold OkW; decide +kernel
theorem zbn : OkW (Str.ofString "count") := by unfold OkW; decide +kernel
theorem zdk : OkW (Str.ofString "not") := by unfold OkW; decide +kernel
theorem zdq : OkW (Str.ofString "and") := by unfold OkW; decide +kernel
theorem okw_or : OkW (Str.ofString "or") := by unfold OkW; decide +kernel
theorem zb5 : OkW (Str.ofString "when") := by unfold OkW; decide +kernel
theorem fm : OkW (Str.ofString "deal") := by unfold OkW; decide +kernel
theorem na {outs : List Str} {ds : List HD} (G : GoodHouse outs ds) : ∀ {c : Cd}, okc True ds c -> ∀ w ∈ wd ds c, OkW w
  | .says k z, h, w, hw => by
    obtain ⟨d, hk, hz⟩ := h;rw [wd] at hw;simp only [ZK, Zx, or_false] at hw
    rcases hw with rfl | rfl | rfl
    . exact zce
    . rw [nmAt, Zk, Ze, hk]
      exact (G.handsG d (Zi hk)).okw
    . exact (G.wordsG d (Zi hk) _ hz).okw
  | .count n z, h, w, hw => by
    obtain ⟨_, n1, n4, d, hd, hz⟩ := h;rw [wd] at hw;simp only [ZK, Zx, or_false] at hw
    rcases hw with rfl | rfl | rfl
    . exact zbn
    . have : n = 1 \/ n = 2 \/ n = 3 \/ n = 4 := by omega
      unfold OkW
      rcases this with rfl | rfl | rfl | rfl <;> decide +kernel
    . exact (G.wordsG d hd _ hz).okw
  | .no c, h, w, hw => by
    rw [wd] at hw
    rcases ZK.mp hw with rfl | e
    . exact zdk
    . exact na G (c := c) h w e
  | .an c d, h, w, hw => by
    rw [wd] at hw
    rcases ZK.mp hw with rfl | e
    . exact zdq
    . rcases ZH.mp e with e | e
      . exact na G h.1 w e
      . exact na G h.2 w e
  | .orr c d, h, w, hw => by
    rw [wd] at hw
    rcases ZK.mp hw with rfl | e
    . exact okw_or
    . rcases ZH.mp e with e | e
      . exact na G h.1 w e
      . exact na G h.2 w e
def txts (ds : List HD) (cls : List (Cd × Str)) (z : Str) : List Str := (rlW ds cls z).map (Str.join (Str.ofString " "))
structure ClsOk (outs : List Str) (ds : List HD) (cls : List (Cd × Str)) (z : Str) : Prop where
  G : GoodHouse outs ds
  ok : ∀ c ∈ cls, okc True ds c.1 /\ dep c.1 < 40 /\ c.2 ∈ outs
  len : ∀ c ∈ cls, (wd ds c.1).length <= 37
  few : cls.length <= 19
  last : z ∈ outs
theorem ClsOk.words {outs : List Str} {ds : List HD} {cls : List (Cd × Str)} {z : Str} (h : ClsOk outs ds cls z) : ∀ cs ∈ rlW ds cls z, cs ≠ [] /\ cs.length <= 40 /\ ∀ w ∈ cs, OkW w := fun cs hcs => by
  rcases ZH.mp hcs with e | e
  . obtain ⟨c, hc, rfl⟩ := Zp.mp e
    have hl := h.len c hc;obtain ⟨h1, _, h3⟩ := h.ok c hc;refine ⟨by rw [clW]; simp, by rw [clW, ZL, Zo]; show _ + 2 + 1 <= 40; omega, fun w hw => ?_⟩;rw [clW] at hw
    rcases ZK.mp hw with rfl | e
    . exact zb5
    . rcases ZH.mp e with e | e
      . exact na h.G h1 w e
      . simp only [ZK, Zx, or_false] at e
        rcases e with rfl | rfl
        . exact fm
        . exact (h.G.outsG _ h3).okw
  . rw [ZC.mp e]
    refine ⟨by simp, by simp, fun w hw => ?_⟩;simp only [ZK, Zx, or_false] at hw
    rcases hw with rfl | rfl
    . exact fm
    . exact (h.G.outsG _ h.last).okw
theorem ClsOk.short {outs : List Str} {ds : List HD} {cls : List (Cd × Str)} {z : Str} (h : ClsOk outs ds cls z) : ∀ y ∈ txts ds cls z, y.length <= 400 := fun y hy => by
  obtain ⟨cs, hcs, rfl⟩ := Zp.mp hy;obtain ⟨_, h37, hw⟩ := h.words cs hcs;have h1 := StrLaws.join_length_le (Str.ofString " ") cs;have h2 := StrLaws.sumLen_le cs (B := 8) fun w hw' => (hw w hw').1
  have e1 : (Str.ofString " ").length = 1 := by decide +kernel
  rw [e1] at h1;omega
theorem ClsOk.rlen {outs : List Str} {ds : List HD} {cls : List (Cd × Str)} {z : Str} (h : ClsOk outs ds cls z) : (rlW ds cls z).length = cls.length + 1 := by rw [rlW, Zo, Za]; rfl
theorem ClsOk.join {outs : List Str} {ds : List HD} {cls : List (Cd × Str)} {z : Str} (h : ClsOk outs ds cls z) : JoinOk (Str.ofString "; ") (txts ds cls z) = true := by
  unfold JoinOk;have hf := h.few;rw [StrLaws.joinFits (B := 400) h.short]
  . rfl
  . have e1 : (Str.ofString "; ").length = 2 := by decide +kernel
    have e2 : (txts ds cls z).length = cls.length + 1 := by rw [txts, Za, h.rlen]
    rw [e1, e2];omega
theorem ClsOk.text {outs : List Str} {ds : List HD} {cls : List (Cd × Str)} {z : Str} (h : ClsOk outs ds cls z) : TextOf (Txt.join (Str.ofString "; ") (txts ds cls z)) (rlW ds cls z) := by
  have hl := h.rlen;have hf := h.few;refine ⟨by rw [wb, txts], (fun e => by rw [e] at hl; cases hl), fun cs hcs => (h.words cs hcs).1, fun cs hcs w hw => ((h.words cs hcs).2.2 w hw).2, by omega, fun cs hcs => by have := (h.words cs hcs).2.1; omega, ?_⟩;rw [wb];have h1 := StrLaws.join_length_le (Str.ofString "; ") (txts ds cls z);have h2 := StrLaws.sumLen_le (txts ds cls z) h.short;have e1 : (Str.ofString "; ").length = 2 := by decide +kernel
  have e2 : (txts ds cls z).length = cls.length + 1 := by rw [txts, Za, hl]
  rw [e1, e2] at h1;rw [e2] at h2;exact Zd (show _ <= 100000 by omega) (by decide)
theorem ClsOk.fine {outs : List Str} {ds : List HD} {cls : List (Cd × Str)} {z : Str} (h : ClsOk outs ds cls z) : fine (rlW ds cls z) := by
  have hl := h.rlen;have hf := h.few;exact ⟨by omega, fun cs hcs => by have := (h.words cs hcs).2.1; omega⟩
theorem jz (z : Str) : Str.ofString "deal " ++ z = Str.join (Str.ofString " ") [Str.ofString "deal", z] := by
  rw [af];have : Str.ofString "deal" ++ Str.ofString " " = Str.ofString "deal " := by decide +kernel
  rw [this];rfl
theorem j2 : ∀ {l : List Nat}, (∀ x ∈ l, 1 <= x) -> 1 <= l.prod
  | [], _ => Zm _
  | x :: l, h => by
    rw [List.prod_cons];exact YR (h x ZA) (j2 fun y hy => h y (Zv _ hy))
structure ItemC (H : Hp) (ds : List HD) (cls : List (Cd × Str)) (z : Str) (i : Nat) (x : V) : Prop where
  ex : ∃ t y0 o0 w0 y1, x = .ref t /\ H t = some (.tup [y0, .str o0, .str w0, y1]) /\ (txts ds cls z)[i]? = some w0 /\ (∀ c, cls[i]? = some c -> o0 = c.2 /\ CondAt H c.1 y0) /\ (i = cls.length -> o0 = z /\ y0 = .non)
def PvTx (H : Hp) (ws : List Str) (i : Nat) (ys : List V) (H' : Hp) : Prop := H' = H /\ ys = (ws.take i).map V.str
theorem RuleL.mono {H H' : Hp} {l : Addr} {cls : List (Cd × Str)} {z : Str} (S : Same H H') (h : RuleL H l cls z) : RuleL H' l cls z := by
  obtain ⟨rl, tz, h1, h2, h3, h4⟩ := h;exact ⟨rl, tz, S _ _ h1, h2, fun r hr => by obtain ⟨x, b1, b2⟩ := h3 r hr; exact ⟨x, S _ _ b1, b2.mono S⟩, S _ _ h4⟩
def spCW (d : Nat) : Sp := fun vs H Q _ => ∃ (p o h : Addr) (hs : List Addr) (outs : List Str) (ds : List HD) (v : V) (c : Cd), vs = [.ref p, v] /\ HHouse H p o h hs outs ds /\ CondAt H c v /\ okc True ds c /\ dep c < d /\ (wd ds c).length <= 37 /\ ∀ H' l, Same H H' -> H l = none -> H' l = some (.lst ((wd ds c).map V.str)) -> Q (.ref l) H'
def PvCw (st : L2.St) (l p2 : Addr) (xs : List V) (ds : List HD) (kd : Str) (cs : List Cd) (H : Hp) (i : Nat) (σ : L2.St) (H' : Hp) : Prop := Same H H' /\ H' p2 = some (.tup xs) /\ ∃ v : Option V, H' l = some (.lst ((kd :: ((cs.take i).map (wd ds)).flatten).map V.str)) /\ σ = st ++ [v]
theorem zbw {H : Hp} : ∀ {c : Cd} {v : V}, CondAt H c v -> ∃ t, v = .ref t
  | .says _ _, _, h => by obtain ⟨t, e, _⟩ := h; exact ⟨t, e⟩
  | .count _ _, _, h => by obtain ⟨t, e, _⟩ := h; exact ⟨t, e⟩
  | .no _, _, h => by obtain ⟨t, x, e, _⟩ := h; exact ⟨t, e⟩
  | .an _ _, _, h => by obtain ⟨t, x, y, e, _⟩ := h; exact ⟨t, e⟩
  | .orr _ _, _, h => by obtain ⟨t, x, y, e, _⟩ := h; exact ⟨t, e⟩
def ctxt (ds : List HD) (c : Option Cd) (z : Str) : Str := match c with
  | none => Str.ofString "deal " ++ z
  | some c => Str.join (Str.ofString " ") (clW ds (c, z))
def spCT : Sp := fun vs H Q _ => ∃ (p o h : Addr) (hs : List Addr) (outs : List Str) (ds : List HD) (v : V) (c : Option Cd) (z : Str), vs = [.ref p, v, .str z] /\ HHouse H p o h hs outs ds /\ OkW z /\ (match c with
    | none => v = .non
    | some c => CondAt H c v /\ okc True ds c /\ dep c < 40 /\ (wd ds c).length <= 37 /\ ∀ w ∈ wd ds c, OkW w) /\ ∀ H', Same H H' -> Q (.str (ctxt ds c z)) H'
def dk : Sp := fun vs H Q _ => ∃ (p o h l : Addr) (hs : List Addr) (outs : List Str) (ds : List HD) (cls : List (Cd × Str)) (z : Str), vs = [.ref p, .ref l] /\ HHouse H p o h hs outs ds /\ ClsOk outs ds cls z /\ RuleL H l cls z /\ ∀ H', Same H H' -> Q (.str (Txt.join (Str.ofString "; ") (txts ds cls z))) H'
section
variable {P : Program} {w : World} {K : Fg} {mg : Str -> Option Value} {base : Heap} {a : Ad}
theorem xg (B : Bt mg) (f_hands_of : FnAt P w K mg base "hands_of" 1 ["house"] (xw K 1)) (xh : FnAt P w K mg base "name_of" 1 ["hand"] (xw K 0)) (D : zl K mg "condition_words" wc ["house", "condition"]) : ∀ d, FnAt P w K mg base "condition_words" (d + 2) ["house", "condition"] (spCW d)
  | 0 => by
    refine FnAt.of D sc_condition_words (fun vs H Q E h => ?_) (fun f cdv A outer s H vs Q E hr h => ?_)
    . obtain ⟨p, o, h, hs, outs, ds, v, c, rfl, _⟩ := h
      rfl
    . obtain ⟨p, o, h, hs, outs, ds, v, c, _, _, _, _, h, _⟩ := h
      omega
  | d + 1 => by
    have xg := xg B f_hands_of xh D d;refine FnAt.of D sc_condition_words (fun vs H Q E h => ?_) (fun f cdv A outer s H vs Q E hr h => ?_)
    . obtain ⟨p, o, h, hs, outs, ds, v, c, rfl, _⟩ := h
      rfl
    . obtain ⟨p, o, h, hs, outs, ds, v, c, rfl, hH, hc, ok, hd, h37, q⟩ := h
      refine ⟨_, (@zg _ _ _ _ _ (zu (i := 2) sc_condition_words.nd rfl (Or.inl rfl) (@zr _ _ _ _ _ _ _ z9 (pv 1) (@zd _ _ _ _) (fun _ _ => rfl))) (@zg _ _ _ _ _ (@yb _ _ _ _ _ _ _ _ (@zw _ _ _ _ _ _ _ _ y9 (pv 2) (@zp _ _ _ _) (z0 _)) (@zh _ _ _ (@zt _ _ _ _ (@yd _ _ _ _ (za (pv 2) (za (zo xh (hr.mono (by omega)) rfl (za (@zr _ _ _ _ _ _ _ z9 (zo f_hands_of (hr.mono (by omega)) rfl (za (pv 0) (@zb _))) (@zr _ _ _ _ _ _ _ z9 (pv 1) (@zd _ _ _ _) (fun _ _ => rfl)) (fun _ _ => rfl)) (@zb _))) (za (@zr _ _ _ _ _ _ _ z9 (pv 1) (@zd _ _ _ _) (fun _ _ => rfl)) (@zb _))))))) (@z5 _)) (@zg _ _ _ _ _ (@yb _ _ _ _ _ _ _ _ (@zw _ _ _ _ _ _ _ _ y9 (pv 2) (@zp _ _ _ _) (z0 _)) (@zh _ _ _ (@zt _ _ _ _ (@yd _ _ _ _ (za (pv 2) (za (y8 mh rfl B.str me (za (@zr _ _ _ _ _ _ _ z9 (pv 1) (@zd _ _ _ _) (fun _ _ => rfl)) (@zb _))) (za (@zr _ _ _ _ _ _ _ z9 (pv 1) (@zd _ _ _ _) (fun _ _ => rfl)) (@zb _))))))) (@z5 _)) (@zg _ _ _ _ _ (zu (i := 3) sc_condition_words.nd rfl (Or.inl rfl) (@yd _ _ _ _ (za (pv 2) (@zb _)))) (@zg _ _ _ _ _ (sf PassesOwn.never rfl (@pi_tup _ _ _ _ (@yu _ _ _ _ _ _ _ _ _ _ zcs (pv 1) (@yw _ _ _ (@zd _ _ _ _)) (@xa _))) (z6 (i := 4) sc_condition_words.nd rfl (Or.inl rfl)) (@zh _ _ _ (qd (x9 PySem.F.plainAttrs_list PySem.F.slot_list_extend PySem.F.type_list_extend zaa (pv 3) (za (zo xg (hr.mono (by omega)) rfl (za (pv 0) (za (pv 4) (@zb _)))) (@zb _)))))) (@zh _ _ _ (@zt _ _ _ _ (pv 3)))))))), ?_⟩;rw [show start ["house", "condition", "kind", "words", "part"] [V.ref p, v] = [some (V.ref p), some v, none, none, none] from rfl];simp only [zk, zj, ↓reduceIte]
      have shape : (∃ k z, c = .says k z) \/ (∃ n z, c = .count n z) \/ ∃ (t : Addr) (kd : Str) (xs : List V) (cs : List Cd), v = .ref t /\ H t = some (.tup (V.str kd :: xs)) /\ xs.length = cs.length /\ (∀ (i : Nat) (x : V) (c : Cd), xs[i]? = some x -> cs[i]? = some c -> CondAt H c x /\ okc True ds c /\ dep c < d) /\ wd ds c = kd :: (cs.map (wd ds)).flatten /\ kd ≠ Str.ofString "says" /\ kd ≠ Str.ofString "count" /\ cs.length <= 2 := by
        cases c with
        | says k z => exact .inl ⟨k, z, rfl⟩
        | count n z => exact .inr (.inl ⟨n, z, rfl⟩)
        | no c =>
          obtain ⟨t, x, rfl, ht, h1⟩ := hc;have hd' : dep c + 1 < d + 1 := hd;refine .inr (.inr ⟨t, _, [x], [c], rfl, ht, rfl, fun i y e e1 e2 => ?_, by simp [wd], by decide, by decide, by simp⟩)
          match i, e1, e2 with
          | 0, e1, e2 => simp at e1 e2; subst e1 e2; exact ⟨h1, ok, by omega⟩
        | an c c' =>
          obtain ⟨t, x, y, rfl, ht, h1, h2⟩ := hc;have hd' : max (dep c) (dep c') + 1 < d + 1 := hd;refine .inr (.inr ⟨t, _, [x, y], [c, c'], rfl, ht, rfl, fun i y e e1 e2 => ?_, by simp [wd], by decide, by decide, by simp⟩)
          match i, e1, e2 with
          | 0, e1, e2 => simp at e1 e2; subst e1 e2; exact ⟨h1, ok.1, by omega⟩
          | 1, e1, e2 => simp at e1 e2; subst e1 e2; exact ⟨h2, ok.2, by omega⟩
        | orr c c' =>
          obtain ⟨t, x, y, rfl, ht, h1, h2⟩ := hc;have hd' : max (dep c) (dep c') + 1 < d + 1 := hd;refine .inr (.inr ⟨t, _, [x, y], [c, c'], rfl, ht, rfl, fun i y e e1 e2 => ?_, by simp [wd], by decide, by decide, by simp⟩)
          match i, e1, e2 with
          | 0, e1, e2 => simp at e1 e2; subst e1 e2; exact ⟨h1, ok.1, by omega⟩
          | 1, e1, e2 => simp at e1 e2; subst e1 e2; exact ⟨h2, ok.2, by omega⟩
      rcases shape with ⟨k, z, rfl⟩ | ⟨n, z, rfl⟩ | ⟨t, kd, xs, cs, rfl, ht, lx, hx, ew, n1, n2, l2⟩
      . obtain ⟨t, rfl, ht⟩ := hc
        obtain ⟨d', hk, hz⟩ := ok;have hkl : k < ds.length := (Zc.mp hk).1;obtain ⟨x, hx⟩ : ∃ x, hs[k]? = some x := ⟨hs[k]'(by rw [hH.hand.1]; exact hkl), by simp⟩;obtain ⟨wd', g, gs, hA⟩ := hH.hand.2 k x d' hx hk;have en : nmAt ds k = d'.name := by rw [nmAt, Zk, Ze, hk]; rfl
        refine ⟨t, rfl, _, .of ht, _, zn (j := 0) rfl, rfl, ite2 (fun _ => ?_) fun h => absurd (decide_eq_true rfl) h⟩;refine ⟨p, _, _, rfl, .of hH.tup, rfl, t, rfl, _, .of ht, _, zn (j := 1) rfl, h, rfl, _, _, rfl, .of hH.hands, _, zn (v := V.ref x) (by rw [Ze, hx]; rfl), x, _, _, rfl, .of hA.tup, rfl, t, rfl, _, .of ht, _, zn (j := 2) rfl, by decide, fun l hl => ?_⟩;refine q _ l (Same.upd (Same.refl _) hl) hl ?_;rw [zc, wd, en];rfl
      . obtain ⟨t, rfl, ht⟩ := hc
        obtain ⟨_, k1, k4, _⟩ := ok;refine ⟨t, rfl, _, .of ht, _, zn (j := 0) rfl, rfl, ite2 (fun h => absurd (V.str.inj (of_decide_eq_true h)) (by decide)) fun _ => ⟨rfl, ite2 (fun _ => ?_) fun h => absurd (decide_eq_true rfl) h⟩⟩;refine ⟨t, rfl, _, .of ht, _, zn (j := 1) rfl, _, rfl, ?_, t, rfl, _, .of ht, _, zn (j := 2) rfl, by decide, fun l hl => ?_⟩
        . have : n = 1 \/ n = 2 \/ n = 3 \/ n = 4 := by omega
          rcases this with rfl | rfl | rfl | rfl <;> decide
        . refine q _ l (Same.upd (Same.refl _) hl) hl ?_
          have ef : fig n = Str.ofString (toString (n : Int)) := by
            have : n = 1 \/ n = 2 \/ n = 3 \/ n = 4 := by omega
            rcases this with rfl | rfl | rfl | rfl <;> decide +kernel
          rw [zc, wd, ef];rfl
      . refine ⟨t, rfl, _, .of ht, _, zn (j := 0) rfl, rfl, ite2 (fun h => absurd (V.str.inj (of_decide_eq_true h)) n1) fun _ => ⟨rfl, ite2 (fun h => absurd (V.str.inj (of_decide_eq_true h)) n2) fun _ => ⟨by decide, fun l hl => ?_⟩⟩⟩
        have S1 : Same H (upd H l (.lst [V.str kd])) := Same.upd (Same.refl _) hl;have t1 : upd H l (.lst [V.str kd]) l = some (.lst [V.str kd]) := zc;generalize upd H l (.lst [V.str kd]) = H1 at *;refine ⟨t, rfl, _, S1 _ _ ht, fun H2 p2 S2 h2 => ?_⟩;rw [show (1 : Int) = ((1 : Nat) : Int) from rfl, v6 (by simp)] at h2;have h2' : H2 p2 = some (.tup xs) := h2;have hlp : p2 ≠ l := fun z => by rw [z, S2 _ _ t1] at h2'; cases h2'
        refine ⟨⟨_, .of h2'⟩, ?_⟩;refine zcy (xs := xs) (PvCw [some (V.ref p), some (V.ref t), some (V.str kd), some (V.ref l)] l p2 xs ds kd cs H) ⟨S1.trans S2, h2', _, S2 _ _ t1, rfl⟩ ?_ ?_ ?_
        . rintro i σ H3 hi ⟨S3, h3p, w, h3, rfl⟩
          exact .of h3p
        . rintro i x σ H3 hx3 ⟨S3, h3p, w, h3, rfl⟩
          have hi : i < cs.length := by rw [<- lx]; exact (Zc.mp hx3).1
          have ec : cs[i]? = some cs[i] := Zb hi;generalize cs[i] = ci at ec;obtain ⟨y1, y2, y3⟩ := hx i x ci hx3 ec
          have hbig : (((cs.take i).map (wd ds)).flatten).length + (wd ds ci).length + 1 <= 37 := by
            have e0 : (wd ds c).length = (((cs.take i).map (wd ds)).flatten).length + (wd ds ci).length + (((cs.drop (i + 1)).map (wd ds)).flatten).length + 1 := by
              rw [ew]
              have es : cs = cs.take i ++ ci :: cs.drop (i + 1) := by
                rw [<- YF i cs]
                congr 1
                . simp
                . rw [YF, Yp hi]
                  congr 1
                  rw [Zb hi] at ec;exact Option.some.inj ec
              conv => lhs; rw [es]
              simp;omega
            omega
          simp only [zk, zj, ↓reduceIte, Yd, YJ];refine ⟨.inl ⟨rfl, _, .of h3⟩, p, o, h, hs, outs, ds, x, ci, rfl, hH.mono S3, y1.mono S3, y2, y3, by omega, fun H4 l4 S4 hl4 h4 => ?_⟩;refine ⟨l4, rfl, _, S4 _ _ h3, _, h4, ?_, Same.upd (S3.trans S4) hl, by rw [zy hlp]; exact S4 _ _ h3p, _, ?_, rfl⟩
          . rw [Za, Za, ZL]
            exact Zd (show _ <= 37 by omega) (by decide)
          . rw [zc, Zq, ec, Zn, List.flatten_append, <- Zn]
            simp
        . rintro σ H3 ⟨S3, h3p, w, h3, rfl⟩
          simp only [zk, zj, ↓reduceIte, Yd, YJ];rw [lx, Zt, <- ew] at h3;exact q H3 l S3 hl h3
theorem rb (B : Bt mg) (xg : FnAt P w K mg base "condition_words" 42 ["house", "condition"] (spCW 40)) (D : zl K mg "clause_text" vm ["house", "condition", "outcome"]) : FnAt P w K mg base "clause_text" 43 ["house", "condition", "outcome"] spCT := by
  refine FnAt.of D jn (fun vs H Q E h => ?_) (fun f cdv A outer s H vs Q E hr h => ?_)
  . obtain ⟨p, o, h, hs, outs, ds, v, c, z, rfl, _⟩ := h
    rfl
  . obtain ⟨p, o, h, hs, outs, ds, v, c, z, rfl, hH, hz, hc, q⟩ := h
    refine ⟨_, (@zg _ _ _ _ _ (@yb _ _ _ _ _ _ _ _ (@zw _ _ _ _ _ _ _ _ fb (pv 1) (@uo _ _ _) (z0 _)) (@zh _ _ _ (@zt _ _ _ _ (@zdy _ _ _ _ _ _ _ (@zp _ _ _ _) (pv 2) (by decide +kernel)))) (@z5 _)) (@zh _ _ _ (@zt _ _ _ _ (x9 PySem.F.plainAttrs_str PySem.F.slot_str_join PySem.F.type_str_join oh (@zp _ _ _ _) (za (@zm _ _ _ _ _ _ _ _ xn (@zm _ _ _ _ _ _ _ _ xn (@yd _ _ _ _ (za (@zp _ _ _ _) (@zb _))) (zo xg (hr.mono (by decide)) rfl (za (pv 0) (za (pv 1) (@zb _))))) (@yd _ _ _ _ (za (@zp _ _ _ _) (za (pv 2) (@zb _))))) (@zb _)))))), ?_⟩;rw [show start ["house", "condition", "outcome"] [V.ref p, v, V.str z] = [some (V.ref p), some v, some (V.str z)] from rfl];simp only [zk, zj, ↓reduceIte]
    cases c with
    | none =>
      have hv : v = .non := hc;subst hv;refine ite2 (fun _ => ⟨?_, q H (Same.refl _)⟩) fun h => absurd (decide_eq_true rfl) h
      have := hz.1;have e1 : (Str.ofString "deal ").length = 5 := by decide +kernel
      rw [strLen_append, e1];exact Zd (show _ <= 13 by omega) (by decide)
    | some c =>
      obtain ⟨y1, y2, y3, y4, y5⟩ : CondAt H c v /\ okc True ds c /\ dep c < 40 /\ (wd ds c).length <= 37 /\ ∀ w ∈ wd ds c, OkW w := hc
      have nv : v ≠ .non := fun e => by
        obtain ⟨t, h⟩ := zbw y1;rw [e] at h;cases h
      refine ite2 (fun h => absurd (of_decide_eq_true h) nv) fun _ => ⟨rfl, by decide, fun l1 hl1 => ?_⟩
      have S1 : Same H (upd H l1 (.lst [V.str (Str.ofString "when")])) := Same.upd (Same.refl _) hl1;have t1 : upd H l1 (.lst [V.str (Str.ofString "when")]) l1 = some (.lst [V.str (Str.ofString "when")]) := zc;generalize upd H l1 (.lst [V.str (Str.ofString "when")]) = H1 at *;refine ⟨p, o, h, hs, outs, ds, v, c, rfl, hH.mono S1, y1.mono S1, y2, y3, y4, fun H2 l2 S2 hl2 h2 => ?_⟩;refine ⟨l2, rfl, _, S2 _ _ t1, _, h2, ?_, fun l3 hl3 => ⟨by decide, fun l4 hl4 => ?_⟩⟩
      . rw [Za]
        exact Zd (show 1 + _ <= 38 by omega) (by decide)
      have S3 : Same H2 (upd H2 l3 (.lst ([V.str (Str.ofString "when")] ++ (wd ds c).map V.str))) := Same.upd (Same.refl _) hl3;have t3 : upd H2 l3 (.lst ([V.str (Str.ofString "when")] ++ (wd ds c).map V.str)) l3 = some (.lst ([V.str (Str.ofString "when")] ++ (wd ds c).map V.str)) := zc;generalize upd H2 l3 (.lst ([V.str (Str.ofString "when")] ++ (wd ds c).map V.str)) = H3 at *;have S4 : Same H3 (upd H3 l4 (.lst [V.str (Str.ofString "deal"), V.str z])) := Same.upd (Same.refl _) hl4;have t4 : upd H3 l4 (.lst [V.str (Str.ofString "deal"), V.str z]) l4 = some (.lst [V.str (Str.ofString "deal"), V.str z]) := zc;generalize upd H3 l4 (.lst [V.str (Str.ofString "deal"), V.str z]) = H4 at *;refine ⟨_, S4 _ _ t3, _, t4, ?_, fun l5 hl5 => ⟨clW ds (c, z), ?_, ?_, ?_⟩⟩
      . rw [Zo, Za]
        exact Zd (show 1 + _ + 2 <= 40 by omega) (by decide)
      . have e : [V.str (Str.ofString "when")] ++ (wd ds c).map V.str ++ [V.str (Str.ofString "deal"), V.str z] = (clW ds (c, z)).map V.str := by rw [clW]; simp
        rw [e];exact .of zc
      . have hsh : ∀ w ∈ clW ds (c, z), w.length <= 8 := fun w hw => by
          rw [clW] at hw
          rcases ZK.mp hw with rfl | hw
          . decide +kernel
          . rcases ZH.mp hw with hw | hw
            . exact (y5 w hw).1
            . rcases ZK.mp hw with rfl | hw
              . decide +kernel
              . rw [ZC.mp hw]; exact hz.1
        have hl : (clW ds (c, z)).length <= 40 := by
          rw [clW, ZL, Zo]
          show (wd ds c).length + 2 + 1 <= 40
          omega
        unfold JoinOk;rw [StrLaws.joinFits (B := 8) hsh]
        . rfl
        . have e1 : (Str.ofString " ").length = 1 := by decide +kernel
          rw [e1];omega
      . rw [wb]
        exact q _ (S1.trans (S2.trans (S3.trans (S4.trans (Same.upd (Same.refl _) hl5)))))
end
def PvSh (H : Hp) (ws : List Str) (i : Nat) (ys : List V) (H' : Hp) : Prop := Same H H' /\ ys = (ws.take i).map V.str
section
variable {P : Program} {w : World} {K : Fg} {mg : Str -> Option Value} {base : Heap} {a : Ad}
theorem jv (B : Bt mg) (rb : FnAt P w K mg base "clause_text" 43 ["house", "condition", "outcome"] spCT) (D : zl K mg "shown" mv ["house", "rule"]) : FnAt P w K mg base "shown" 44 ["house", "rule"] dk := by
  refine FnAt.of D zcj (fun vs H Q E h => ?_) (fun f cdv A outer s H vs Q E hr h => ?_)
  . obtain ⟨p, o, h, l, hs, outs, ds, cls, z, rfl, _⟩ := h
    rfl
  . obtain ⟨p, o, h, l, hs, outs, ds, cls, z, rfl, hH, hOk, hR, q⟩ := h
    refine ⟨_, (@zh _ _ _ (@zt _ _ _ _ (x9 PySem.F.plainAttrs_str PySem.F.slot_str_join PySem.F.type_str_join oh (@zp _ _ _ _) (za (yr ["condition", "outcome"] ["house", "rule"] rfl (@yo _ _ _ _ (pv 1)) (fun _ => (f8 rfl (vx (z6 (i := 0) (show (["condition", "outcome", "house", "rule"] : List Str).Nodup by decide +kernel) rfl (Or.inl rfl)) (vx (z6 (i := 1) (show (["condition", "outcome", "house", "rule"] : List Str).Nodup by decide +kernel) rfl (Or.inl rfl)) (@jp _))))) (fun _ => (@ym _)) (fun _ => (zo rb (hr.mono (by decide)) rfl (za (pv 2) (za (pv 0) (za (pv 1) (@zb _)))))) rfl (by decide +kernel) rfl rfl) (@zb _))))), ?_⟩;rw [show start ["house", "rule"] [V.ref p, V.ref l] = [some (V.ref p), some (V.ref l)] from rfl];simp only [zk, zj, ↓reduceIte];have hf := hOk.few;have hrl := hOk.rlen;obtain ⟨rl, tz, h1, h2, h3, h4⟩ := id hR;have lcl : rl.length = cls.length := by rw [<- h2, Za]
    have ltx : (txts ds cls z).length = cls.length + 1 := by rw [txts, Za, hrl]
    have lxs : ((rl.map fun r => V.ref r.1) ++ [V.ref tz]).length = cls.length + 1 := by rw [Zo, Za, lcl]; rfl
    have items : ∀ (i : Nat) (x : V), ((rl.map fun r => V.ref r.1) ++ [V.ref tz])[i]? = some x -> ∃ (t : Addr) (y : V) (c : Option Cd) (o0 : Str), x = .ref t /\ H t = some (.tup [y, .str o0]) /\ OkW o0 /\ (match c with
        | none => y = .non
        | some c => CondAt H c y /\ okc True ds c /\ dep c < 40 /\ (wd ds c).length <= 37 /\ ∀ w ∈ wd ds c, OkW w) /\ (txts ds cls z)[i]? = some (ctxt ds c o0) := fun i x hx => by
      by_cases hi : i < rl.length
      . rw [Zg (by rw [Za]; exact hi), Ze, Zb hi] at hx
        cases hx;obtain ⟨y, b1, b2⟩ := h3 _ (Zl hi);have ec : cls[i]? = some (rl[i]).2 := by rw [<- h2, Ze, Zb hi]; rfl
        have hm := Zi ec;obtain ⟨k1, k2, k3⟩ := hOk.ok _ hm;refine ⟨_, y, some (rl[i]).2.1, (rl[i]).2.2, rfl, b1, (hOk.G.outsG _ k3).okw, ⟨b2, k1, k2, hOk.len _ hm, na hOk.G k1⟩, ?_⟩;rw [txts, rlW, Ze, Zg (by rw [Za]; omega), Ze, ec];rfl
      . rw [Zf (by rw [Za]; omega), Za] at hx
        have h0 : i - rl.length = 0 := by
          have := (Zc.mp hx).1;simp at this;omega
        rw [h0] at hx;cases hx;have ei : i = cls.length := by omega
        subst ei;refine ⟨tz, .non, none, z, rfl, h4, (hOk.G.outsG _ hOk.last).okw, rfl, ?_⟩;rw [txts, rlW, Ze, Zf (by rw [Za]; exact Zm _), Za, Nat.sub_self]
        show some _ = some (Str.ofString "deal " ++ z)
        rw [jz]
    generalize ((rl.map fun r => V.ref r.1) ++ [V.ref tz]) = cvs at *;refine ⟨rfl, ⟨_, .of h1⟩, fun dd => ?_⟩;refine ye (xs := cvs) (PvSh H (txts ds cls z)) ⟨Same.refl _, rfl⟩ ?_ ?_ ?_
    . rintro i ys H5 hi ⟨S5, rfl⟩
      refine ⟨?_, .of (S5 _ _ h1)⟩;rw [Za, Zj];exact Zd (show _ <= 100 by omega) (by decide)
    . rintro i x ys H5 hx ⟨S5, rfl⟩
      obtain ⟨t, y, c, o0, rfl, k1, k2, k3, k4⟩ := items i x hx;simp only [zk, zj, ↓reduceIte];refine ⟨_, .of (S5 _ _ k1), rfl, _, _, rfl, _, _, rfl, rfl, p, o, h, hs, outs, ds, y, c, o0, rfl, hH.mono S5, k2, ?_, fun H6 S6 => ⟨S5.trans S6, ?_⟩⟩
      . cases c with
        | none => exact k3
        | some c => exact ⟨k3.1.mono S5, k3.2⟩
      . rw [Zq, k4, Zn]
        rfl
    . rintro ys H5 ⟨S5, rfl⟩ l5 hl5
      rw [lxs, <- ltx, Zt];exact ⟨_, .of zc, hOk.join, q _ (S5.trans (Same.upd (Same.refl _) hl5))⟩
end
def figN (f : Str) : Option Nat := if f = fig 1 then some 1 else if f = fig 2 then some 2 else if f = fig 3 then some 3 else if f = fig 4 then some 4 else none
theorem j6 {f : Str} {n : Nat} (h : figN f = some n) : f = fig n /\ 1 <= n /\ n <= 4 := by
  unfold figN at h
  split at h
  . cases h; rename_i e; exact ⟨e, by omega, by omega⟩
  . split at h
    . cases h; rename_i e; exact ⟨e, by omega, by omega⟩
    . split at h
      . cases h; rename_i e; exact ⟨e, by omega, by omega⟩
      . split at h
        . cases h; rename_i e; exact ⟨e, by omega, by omega⟩
        . cases h
def mq (ds : List HD) (t : List Str) : Option (Cd × List Str) := match t with
  | nm :: z :: r => if (∃ d ∈ ds, d.name = nm /\ z ∈ d.words) then some (.says ((ds.map HD.name).idxOf nm) z, r) else none
  | _ => none
def ma (ds : List HD) (t : List Str) : Option (Cd × List Str) := match t with
  | fg :: z :: r => (figN fg).bind fun m => if (∃ d ∈ ds, z ∈ d.words) then some (.count m z, r) else none
  | _ => none
def prs (ds : List HD) : Nat -> List Str -> Option (Cd × List Str)
  | 0, _ => none
  | _ + 1, [] => none
  | n + 1, kd :: t =>
    if kd = Str.ofString "says" then mq ds t
    else if kd = Str.ofString "count" then ma ds t
    else if kd = Str.ofString "not" then (prs ds n t).map fun x => (.no x.1, x.2)
    else if kd = Str.ofString "and" then (prs ds n t).bind fun x => (prs ds n x.2).map fun y => (.an x.1 y.1, y.2)
    else if kd = Str.ofString "or" then (prs ds n t).bind fun x => (prs ds n x.2).map fun y => (.orr x.1 y.1, y.2)
    else none
theorem mm {ds : List HD} (nd : (ds.map HD.name).Nodup) {d : HD} (h : d ∈ ds) : ds[(ds.map HD.name).idxOf d.name]? = some d := by
  have hin : d.name ∈ ds.map HD.name := Zp.mpr ⟨d, h, rfl⟩;obtain ⟨k, hk⟩ := Yl h;have hkn : (ds.map HD.name)[k]? = some d.name := by rw [Ze, hk]; rfl
  have h1 := Zz.mpr hin;have hk1 := (Zc.mp hkn).1;have h2 : (ds.map HD.name)[(ds.map HD.name).idxOf d.name] = (ds.map HD.name)[k] := by rw [List.getElem_idxOf, (Zc.mp hkn).2]
  rw [(YC nd).mp h2];exact hk
theorem qq (ds : List HD) : ∀ c, dep c < (wd ds c).length
  | .says _ _ => by simp [dep, wd]
  | .count _ _ => by simp [dep, wd]
  | .no c => by have := qq ds c; rw [wd, ZL, dep]; omega
  | .an c d => by have := qq ds c; have := qq ds d; rw [wd, ZL, Zo, dep]; omega
  | .orr c d => by have := qq ds c; have := qq ds d; rw [wd, ZL, Zo, dep]; omega
theorem vg {ds : List HD} (nd : (ds.map HD.name).Nodup) : ∀ {n : Nat} {ws : List Str} {c : Cd} {r : List Str}, prs ds n ws = some (c, r) -> ws = wd ds c ++ r /\ okc True ds c
  | 0, _, _, _, h => by cases h
  | _ + 1, [], _, _, h => by cases h
  | n + 1, kd :: t, c, r, h => by
    rw [prs] at h
    split at h
    . rename_i e
      subst e;unfold mq at h
      split at h
      . rename_i nm z r'
        split at h
        . rename_i hd
          obtain ⟨d, hd, rfl, hz⟩ := hd;cases h;have hk := mm nd hd;refine ⟨?_, d, hk, hz⟩;rw [wd, nmAt, Zk, Ze, hk];rfl
        . cases h
      . cases h
    . split at h
      . rename_i e
        subst e;unfold ma at h
        split at h
        . rename_i fg z r'
          cases hm : figN fg with
          | none => rw [hm] at h; cases h
          | some m =>
            rw [hm] at h;obtain ⟨rfl, m1, m4⟩ := j6 hm
            by_cases hd : ∃ d ∈ ds, z ∈ d.words
            . rw [ZN, if_pos hd] at h
              cases h;exact ⟨rfl, trivial, m1, m4, hd⟩
            . rw [ZN, if_neg hd] at h
              cases h
        . cases h
      . split at h
        . rename_i e
          subst e;obtain ⟨x, hx, e⟩ := Yk.mp h;cases e;obtain ⟨e1, o1⟩ := vg nd hx;exact ⟨by rw [e1]; rfl, o1⟩
        . split at h
          . rename_i e
            subst e;obtain ⟨x, hx, h⟩ := Yx.mp h;obtain ⟨y, hy, e⟩ := Yk.mp h;cases e;obtain ⟨e1, o1⟩ := vg nd hx;obtain ⟨e2, o2⟩ := vg nd hy;exact ⟨by rw [e1, e2, wd, Yd, List.append_assoc], o1, o2⟩
          . split at h
            . rename_i e
              subst e;obtain ⟨x, hx, h⟩ := Yx.mp h;obtain ⟨y, hy, e⟩ := Yk.mp h;cases e;obtain ⟨e1, o1⟩ := vg nd hx;obtain ⟨e2, o2⟩ := vg nd hy;exact ⟨by rw [e1, e2, wd, Yd, List.append_assoc], o1, o2⟩
            . cases h
theorem oa {ds : List HD} (nd : (ds.map HD.name).Nodup) {n : Nat} {ws : List Str} {x : Cd × List Str} (h : prs ds n ws = some x) : x.2.length < ws.length := by
  obtain ⟨e, _⟩ := vg nd (c := x.1) (r := x.2) h;have := qq ds x.1;rw [e, Zo];omega
theorem vt {ds : List HD} (nd : (ds.map HD.name).Nodup) : ∀ {n : Nat} {ws : List Str}, ws.length < n -> prs ds (n + 1) ws = prs ds n ws
  | 0, _, h => by omega
  | n + 1, [], _ => rfl
  | n + 1, kd :: t, h => by
    have ht : t.length < n := by simpa using h
    have e1 := vt nd ht
    have e2 : ((prs ds n t).bind fun x => (prs ds (n + 1) x.2).map fun y => (Cd.an x.1 y.1, y.2)) = (prs ds n t).bind fun x => (prs ds n x.2).map fun y => (Cd.an x.1 y.1, y.2) := by
      cases hx : prs ds n t with
      | none => rfl
      | some x =>
        have := oa nd hx
        show (prs ds (n + 1) x.2).map _ = (prs ds n x.2).map _
        rw [vt nd (by omega)]
    have e3 : ((prs ds n t).bind fun x => (prs ds (n + 1) x.2).map fun y => (Cd.orr x.1 y.1, y.2)) = (prs ds n t).bind fun x => (prs ds n x.2).map fun y => (Cd.orr x.1 y.1, y.2) := by
      cases hx : prs ds n t with
      | none => rfl
      | some x =>
        have := oa nd hx
        show (prs ds (n + 1) x.2).map _ = (prs ds n x.2).map _
        rw [vt nd (by omega)]
    rw [prs, prs, e1, e2, e3]
theorem cy {ds : List HD} (nd : (ds.map HD.name).Nodup) {ws : List Str} {n : Nat} (h : ws.length < n) : ∀ m, prs ds (n + m) ws = prs ds n ws
  | 0 => rfl
  | m + 1 => by rw [<- Nat.add_assoc, vt nd (by omega), cy nd h m]
def mp (ds : List HD) (n : Nat) : Nat -> List Str -> Option (List Str)
  | 0, ws => some ws
  | k + 1, ws => (prs ds n ws).bind fun x => mp ds n k x.2
def pdl (outs : List Str) (ws : List Str) : Option Str := match ws with
  | [d, z] => if d = Str.ofString "deal" /\ z ∈ outs then some z else none
  | _ => none
def pcl (ds : List HD) (outs : List Str) (ws : List Str) : Option (Cd × Str) := match ws with
  | [] => none
  | wh :: t => if wh = Str.ofString "when" then (prs ds 41 t).bind fun x => (pdl outs x.2).map fun z => (x.1, z) else none
theorem gl {outs ws : List Str} {z : Str} (h : pdl outs ws = some z) : ws = [Str.ofString "deal", z] /\ z ∈ outs := by
  unfold pdl at h
  split at h
  . split at h
    . rename_i e
      cases h;exact ⟨by rw [e.1], e.2⟩
    . cases h
  . cases h
theorem zcb {ds : List HD} (nd : (ds.map HD.name).Nodup) {outs ws : List Str} {c : Cd × Str} (h : pcl ds outs ws = some c) : ws = clW ds c /\ okc True ds c.1 /\ c.2 ∈ outs := by
  unfold pcl at h
  split at h
  . cases h
  . split at h
    . rename_i e
      obtain ⟨x, hx, h⟩ := Yx.mp h;obtain ⟨z, hz, e'⟩ := Yk.mp h;cases e';obtain ⟨e1, o1⟩ := vg nd (c := x.1) (r := x.2) hx;obtain ⟨e2, o2⟩ := gl hz;exact ⟨by rw [e, e1, e2]; rfl, o1, o2⟩
    . cases h
theorem xl {ws : List Str} {w : Str} (h : w ∉ ws) : inV (V.str w) (ws.map V.str) = false := by
  unfold inV;rw [YU];intro x hx e;obtain ⟨y, hy, rfl⟩ := Zp.mp hx;have : y = w := of_decide_eq_true e;exact h (this ▸ hy)
def g9 (a : Ad) : Sp := fun vs H Q E => ∃ (l : Addr) (ws : List Str) (p : Nat), vs = [.ref l, .int p] /\ H l = some (.lst (ws.map V.str)) /\ (∀ w, ws[p]? = some w -> Q (.str w) H) /\ (ws[p]? = none -> E (.ref a.NoRule) none H)
def zbg (a : Ad) : Sp := fun vs H Q E => ∃ (p o h : Addr) (hs : List Addr) (outs : List Str) (ds : List HD) (nm w : Str), vs = [.ref p, .str nm, .str w] /\ HHouse H p o h hs outs ds /\ GoodHouse outs ds /\
  ((∃ d ∈ ds, d.name = nm /\ w ∈ d.words) -> ∀ H' t, Same H H' -> H' t = some (.tup [.str (Str.ofString "says"), .int ((ds.map HD.name).idxOf nm : Nat), .str w]) -> Q (.ref t) H') /\ ((¬ ∃ d ∈ ds, d.name = nm /\ w ∈ d.words) -> ∀ H', Same H H' -> E (.ref a.NoRule) none H')
def dq (a : Ad) : Sp := fun vs H Q E => ∃ (p o h : Addr) (hs : List Addr) (outs : List Str) (ds : List HD) (fg w : Str), vs = [.ref p, .str fg, .str w] /\ HHouse H p o h hs outs ds /\ GoodHouse outs ds /\
  (∀ n, figN fg = some n -> (∃ d ∈ ds, w ∈ d.words) -> ∀ H' t, Same H H' -> H' t = some (.tup [.str (Str.ofString "count"), .int n, .str w]) -> Q (.ref t) H') /\ ((figN fg = none \/ ¬ ∃ d ∈ ds, w ∈ d.words) -> ∀ H', Same H H' -> E (.ref a.NoRule) none H')
def zba (a : Ad) (dm : Nat) : Sp := fun vs H Q E => ∃ (p o h l : Addr) (hs : List Addr) (outs : List Str) (ds : List HD) (ws : List Str) (pl : Nat), vs = [.ref p, .ref l, .int pl] /\ HHouse H p o h hs outs ds /\ GoodHouse outs ds /\ H l = some (.lst (ws.map V.str)) /\ (ws.drop pl).length < dm /\
  (∀ c r, prs ds dm (ws.drop pl) = some (c, r) -> ∀ H' t x, Same H H' -> H' t = some (.tup [x, .int ((pl + (wd ds c).length : Nat) : Int)]) -> CondAt H' c x -> Q (.ref t) H') /\ (prs ds dm (ws.drop pl) = none -> ∀ H', Same H H' -> E (.ref a.NoRule) none H')
def fu (a : Ad) : Sp := fun vs H Q E => ∃ (p o h l : Addr) (hs : List Addr) (outs : List Str) (ds : List HD) (ws : List Str), vs = [.ref p, .ref l] /\ HHouse H p o h hs outs ds /\ H l = some (.lst (ws.map V.str)) /\ (∀ z, pdl outs ws = some z -> Q (.str z) H) /\ (pdl outs ws = none -> E (.ref a.NoRule) none H)
def ie (a : Ad) : Sp := fun vs H Q E => ∃ (p o h l : Addr) (hs : List Addr) (outs : List Str) (ds : List HD) (ws : List Str), vs = [.ref p, .ref l] /\ HHouse H p o h hs outs ds /\ GoodHouse outs ds /\ H l = some (.lst (ws.map V.str)) /\ ws ≠ [] /\ ws.length <= 40 /\
  (∀ c, pcl ds outs ws = some c -> ∀ H' t x, Same H H' -> H' t = some (.tup [x, .str c.2]) -> CondAt H' c.1 x -> Q (.ref t) H') /\ (pcl ds outs ws = none -> ∀ H', Same H H' -> E (.ref a.NoRule) none H')
section
variable {P : Program} {w : World} {K : Fg} {mg : Str -> Option Value} {base : Heap} {a : Ad}
theorem wj (B : Bt mg) (C : Ct K mg a) (D : zl K mg "word_at" pp ["words", "place"]) : FnAtX P w K mg base "word_at" 1 ["words", "place"] (g9 a) := by
  refine FnAtX.of D av (fun vs H Q E h => ?_) (fun f cdv A outer s H vs Q E hr h => ?_)
  . obtain ⟨l, ws, p, rfl, _⟩ := h
    rfl
  . obtain ⟨l, ws, p, rfl, hl, q, e⟩ := h
    refine ⟨_, (@zg _ _ _ _ _ (@yb _ _ _ _ _ _ _ _ (@zw _ _ _ _ _ _ _ _ op_ge (pv 1) (zq zv rfl B.len yc (za (pv 0) (@zb _))) (z0 _)) (@zh _ _ _ (xm rfl C.q_NoRule.toErr rfl C.m_NoRule (y6 rfl) (za (@zp _ _ _ _) (@zb _)))) (@z5 _)) (@zh _ _ _ (PS.nox (@zt _ _ _ _ (@zr _ _ _ _ _ _ _ z4 (pv 0) (pv 1) (fun _ _ => rfl)))))), ?_⟩;rw [show start ["words", "place"] [V.ref l, V.int p] = [some (V.ref l), some (V.int p)] from rfl];simp only [zk, zj, ↓reduceIte];refine ⟨_, .inl (.of hl), ?_⟩;rw [Za];refine ite2 (fun y => ⟨by decide, e (List.getElem?_eq_none (by have := of_decide_eq_true y; omega))⟩) (fun y => ?_)
    have hp : p < ws.length := by
      have : ¬ (ws.length : Int) <= p := fun z => y (decide_eq_true z)
      omega
    exact ⟨_, .of hl, V.str ws[p], zn (j := p) (by rw [Ze, Zb hp]; rfl), q _ (Zb hp)⟩
theorem u0 (B : Bt mg) (C : Ct K mg a) (f_hands_of : FnAt P w K mg base "hands_of" 1 ["house"] (xw K 1)) (ug : FnAt P w K mg base "names_of" 2 ["hands"] gz) (yq : FnAt P w K mg base "words_of_hand" 1 ["hand"] (xw K 1)) (D : zl K mg "read_says" tj ["house", "name", "word"]) : FnAtX P w K mg base "read_says" 3 ["house", "name", "word"] (zbg a) := by
  refine FnAtX.of D sc_read_says (fun vs H Q E h => ?_) (fun f cdv A outer s H vs Q E hr h => ?_)
  . obtain ⟨p, o, h, hs, outs, ds, nm, z, rfl, _⟩ := h
    rfl
  . obtain ⟨p, o, h, hs, outs, ds, nm, z, rfl, hH, G, q, e⟩ := h
    refine ⟨_, (@zg _ _ _ _ _ (PS.nox (zu (i := 3) sc_read_says.nd rfl (Or.inl rfl) (zo ug (hr.mono (by decide)) rfl (za (zo f_hands_of (hr.mono (by decide)) rfl (za (pv 0) (@zb _))) (@zb _))))) (@zg _ _ _ _ _ (@yb _ _ _ _ _ _ _ _ (@zw _ _ _ _ _ _ _ _ wz (pv 1) (pv 3) (by with_unfolding_all rfl)) (@zh _ _ _ (xm rfl C.q_NoRule.toErr rfl C.m_NoRule (y6 rfl) (za (@zp _ _ _ _) (@zb _)))) (@z5 _)) (@zg _ _ _ _ _ (PS.nox (zu (i := 4) sc_read_says.nd rfl (Or.inl rfl) (x9 PySem.F.plainAttrs_list PySem.F.slot_list_index PySem.F.type_list_index zaf (pv 3) (za (pv 1) (@zb _))))) (@zg _ _ _ _ _ (@yb _ _ _ _ _ _ _ _ (@zw _ _ _ _ _ _ _ _ wz (pv 2) (zo yq (hr.mono (by decide)) rfl (za (@zr _ _ _ _ _ _ _ z9 (zo f_hands_of (hr.mono (by decide)) rfl (za (pv 0) (@zb _))) (pv 4) (fun _ _ => rfl)) (@zb _))) (by with_unfolding_all rfl)) (@zh _ _ _ (xm rfl C.q_NoRule.toErr rfl C.m_NoRule (y6 rfl) (za (@zp _ _ _ _) (@zb _)))) (@z5 _)) (@zh _ _ _ (PS.nox (@zt _ _ _ _ (@yl _ _ _ _ _ (za (@zp _ _ _ _) (za (pv 4) (za (pv 2) (@zb _)))))))))))), ?_⟩;rw [show start ["house", "name", "word", "names", "k"] [V.ref p, V.str nm, V.str z] = [some (V.ref p), some (V.str nm), some (V.str z), none, none] from rfl];simp only [zk, zj, ↓reduceIte];refine ⟨p, _, _, rfl, .of hH.tup, rfl, h, hs, ds, rfl, hH.hands, hH.hand, G.hands.2, fun l hl => ?_⟩;have S1 : Same H (upd H l (.lst ((ds.map HD.name).map V.str))) := Same.upd (Same.refl _) hl;have u1 : upd H l (.lst ((ds.map HD.name).map V.str)) l = some (.lst ((ds.map HD.name).map V.str)) := zc;generalize upd H l (.lst ((ds.map HD.name).map V.str)) = H1 at *;refine ⟨l, rfl, _, .inl (.of u1), rfl, wm _, ?_⟩
    by_cases hin : nm ∈ ds.map HD.name
    . obtain ⟨d, hd, rfl⟩ := Zp.mp hin
      have hk := mm G.handsD hd;have hf := zaj hin;generalize (ds.map HD.name).idxOf d.name = k at *;have hH1 := hH.mono S1;have hkl := (Zc.mp hk).1;have hks : k < hs.length := by rw [hH.hand.1]; exact hkl
      obtain ⟨wd', g', gs', hK⟩ := hH1.hand.2 k _ _ (Zb hks) hk;rw [xx hin];refine iteF ⟨.inl ⟨rfl, _, .of u1⟩, l, rfl, _, .of u1, _, hf, p, _, _, rfl, .of hH1.tup, rfl, h, rfl, _, .of hH1.hands, _, zn (j := k) (by rw [Ze, Zb hks]; rfl), _, _, _, rfl, .of hK.tup, rfl, wd', rfl, _, .inr (.of hK.words), rfl, wm _, ?_⟩
      by_cases hz : z ∈ d.words
      . rw [xx hz]
        exact iteF ⟨by decide, fun t ht => q ⟨d, hd, rfl, hz⟩ _ t (S1.trans (Same.upd (Same.refl _) ht)) zc⟩
      . rw [xl hz]
        refine iteT ⟨by decide, e (fun ⟨d', hd', e1, e2⟩ => ?_) _ S1⟩;obtain ⟨k', hk'⟩ := Yl hd';have := mm G.handsD hd';have h2 := mm G.handsD hd;rw [e1] at this;rw [this] at h2;cases h2;exact hz e2
    . rw [xl hin]
      exact iteT ⟨by decide, e (fun ⟨d, hd, e1, _⟩ => hin (Zp.mpr ⟨d, hd, e1⟩)) _ S1⟩
theorem zdv {n : Nat} (h1 : 1 <= n) (h4 : n <= 4) : PySem.intText? (fig n) = some (n : Int) := by
  have : n = 1 \/ n = 2 \/ n = 3 \/ n = 4 := by omega
  rcases this with rfl | rfl | rfl | rfl <;> decide +kernel
theorem zaw (f : Str) : inV (V.str f) [V.str (Str.ofString "1"), V.str (Str.ofString "2"), V.str (Str.ofString "3"), V.str (Str.ofString "4")] = (figN f).isSome := by
  show inV (V.str f) ([fig 1, fig 2, fig 3, fig 4].map V.str) = _
  unfold figN
  by_cases h1 : f = fig 1
  . rw [if_pos h1, h1]; exact xx (by simp)
  . rw [if_neg h1]
    by_cases h2 : f = fig 2
    . rw [if_pos h2, h2]; exact xx (by simp)
    . rw [if_neg h2]
      by_cases h3 : f = fig 3
      . rw [if_pos h3, h3]; exact xx (by simp)
      . rw [if_neg h3]
        by_cases h4 : f = fig 4
        . rw [if_pos h4, h4]; exact xx (by simp)
        . rw [if_neg h4]; exact xl (by simp [h1, h2, h3, h4])
def PvAn (H : Hp) (ds : List HD) (z : Str) (i : Nat) (ys : List V) (H' : Hp) : Prop := H' = H /\ ys = ((ds.take i).map fun d => inV (V.str z) (d.words.map V.str)).map V.bl
theorem uh (B : Bt mg) (C : Ct K mg a) (f_hands_of : FnAt P w K mg base "hands_of" 1 ["house"] (xw K 1)) (yq : FnAt P w K mg base "words_of_hand" 1 ["hand"] (xw K 1)) (D : zl K mg "read_count" up ["house", "figure", "word"]) : FnAtX P w K mg base "read_count" 3 ["house", "figure", "word"] (dq a) := by
  refine FnAtX.of D ik (fun vs H Q E h => ?_) (fun f cdv A outer s H vs Q E hr h => ?_)
  . obtain ⟨p, o, h, hs, outs, ds, fg, z, rfl, _⟩ := h
    rfl
  . obtain ⟨p, o, h, hs, outs, ds, fg, z, rfl, hH, G, q, e⟩ := h
    refine ⟨_, (@zg _ _ _ _ _ (@yb _ _ _ _ _ _ _ _ (@zw _ _ _ _ _ _ _ _ wz (pv 1) (zcq rfl C.t_COUNTS) (by with_unfolding_all rfl)) (@zh _ _ _ (xm rfl C.q_NoRule.toErr rfl C.m_NoRule (y6 rfl) (za (@zp _ _ _ _) (@zb _)))) (@z5 _)) (@zg _ _ _ _ _ (@yb _ _ _ _ _ _ _ _ (@xp _ _ _ _ (xq (zq (zas rfl) rfl B.any bt_any (za (yr ["hand"] ["house", "figure", "word"] rfl (@i6 _ _ _ _ (zo f_hands_of (hr.mono (by decide)) rfl (za (pv 0) (@zb _)))) (fun _ => (z6 (i := 0) (show (["hand", "house", "figure", "word"] : List Str).Nodup by decide +kernel) rfl (Or.inl rfl))) (fun _ => (@ym _)) (fun _ => (@xy _ _ _ _ _ _ _ _ sm (pv 3) (zo yq (hr.mono (by decide)) rfl (za (pv 0) (@zb _))) (by with_unfolding_all rfl))) rfl (by decide +kernel) rfl rfl) (@zb _))))) (@zh _ _ _ (xm rfl C.q_NoRule.toErr rfl C.m_NoRule (y6 rfl) (za (@zp _ _ _ _) (@zb _)))) (@z5 _)) (@zh _ _ _ (PS.nox (@zt _ _ _ _ (@yl _ _ _ _ _ (za (@zp _ _ _ _) (za (y8 zap rfl B.int gf (za (pv 1) (@zb _))) (za (pv 2) (@zb _)))))))))), ?_⟩;rw [show start ["house", "figure", "word"] [V.ref p, V.str fg, V.str z] = [some (V.ref p), some (V.str fg), some (V.str z)] from rfl];simp only [zk, zj, ↓reduceIte];intro pc hpc;refine ⟨_, .inr hpc, rfl, rfl, ?_⟩;rw [zaw]
    cases hn : figN fg with
    | none => exact iteT ⟨by decide, e (.inl hn) _ (Same.refl _)⟩
    | some n =>
      obtain ⟨rfl, h1, h4⟩ := j6 hn;refine iteF ⟨p, _, _, rfl, .of hH.tup, rfl, h, rfl, .inr ⟨⟨_, .of hH.hands⟩, fun d => ?_⟩⟩;have hlen : ds.length <= sizeLine := Zd G.hands.2 (by decide);refine ft (xs := hs.map V.ref) (PvAn H ds z) ⟨rfl, rfl⟩ ?_ ?_ ?_
      . rintro i ys H4 hi ⟨rfl, rfl⟩
        refine ⟨?_, .of hH.hands⟩;rw [Za, Za, Zj];omega
      . rintro i x ys H4 hx ⟨rfl, rfl⟩
        obtain ⟨y, hy, rfl⟩ := yk hx;have hi : i < ds.length := by have := (Zc.mp hy).1; have := hH.hand.1; omega
        have e2 : ds[i]? = some ds[i] := by simp [hi]
        obtain ⟨wd', g', gs', hK⟩ := hH.hand.2 i y _ hy e2;simp only [zk, zj, ↓reduceIte];refine ⟨y, _, _, rfl, .of hK.tup, rfl, wd', rfl, _, .inr (.of hK.words), rfl, wm _, rfl, ?_⟩;rw [Zq, e2, Zn, Zn];rfl
      . rintro ys H4 ⟨rfl, rfl⟩ l hl
        rw [Za, hH.hand.1, Zt];refine ⟨_, .of zc, ?_⟩
        by_cases hz : ∃ d ∈ ds, z ∈ d.words
        . have ha : ((ds.map fun d => inV (V.str z) (d.words.map V.str)).any id) = true := by
            obtain ⟨d, hd, hw⟩ := hz;rw [YE];exact ⟨_, Zp.mpr ⟨d, hd, rfl⟩, xx hw⟩
          rw [ha];refine iteF ⟨_, zdv h1 h4, ?_, by decide, fun t ht => q n hn hz _ t ((Same.upd (Same.refl _) hl).trans (Same.upd (Same.refl _) ht)) zc⟩;exact Zd (show (fig n).length <= 1 from Zm _) (by decide)
        . have ha : ((ds.map fun d => inV (V.str z) (d.words.map V.str)).any id) = false := by
            rw [YU];intro b hb;obtain ⟨d, hd, rfl⟩ := Zp.mp hb;rw [xl (fun h => hz ⟨d, hd, h⟩)];simp
          rw [ha];exact iteT ⟨by decide, e (.inr hz) _ (Same.upd (Same.refl _) hl)⟩
theorem vd (B : Bt mg) (C : Ct K mg a) (f_outcomes_of : FnAt P w K mg base "outcomes_of" 1 ["house"] (xw K 0)) (D : zl K mg "read_deal" tf ["house", "words"]) : FnAtX P w K mg base "read_deal" 2 ["house", "words"] (fu a) := by
  refine FnAtX.of D gh (fun vs H Q E h => ?_) (fun f cdv A outer s H vs Q E hr h => ?_)
  . obtain ⟨p, o, h, l, hs, outs, ds, ws, rfl, _⟩ := h
    rfl
  . obtain ⟨p, o, h, l, hs, outs, ds, ws, rfl, hH, hl, q, e⟩ := h
    refine ⟨_, (@zg _ _ _ _ _ (@yb _ _ _ _ _ _ _ _ (PW.pt (@vc _ _ _ _ _ _ _ (@zw _ _ _ _ _ _ _ _ uy (zq zv rfl B.len yc (za (pv 1) (@zb _))) (@zd _ _ _ _) (z0 _)) (@vc _ _ _ _ _ _ _ (@zw _ _ _ _ _ _ _ _ uy (@zr _ _ _ _ _ _ _ z4 (pv 1) (@zd _ _ _ _) (fun _ _ => rfl)) (@zp _ _ _ _) (z0 _)) (@ve _ _ _ _ (@zw _ _ _ _ _ _ _ _ wz (@zr _ _ _ _ _ _ _ z4 (pv 1) (@zd _ _ _ _) (fun _ _ => rfl)) (zo f_outcomes_of (hr.mono (by decide)) rfl (za (pv 0) (@zb _))) (by with_unfolding_all rfl)))))) (@zh _ _ _ (xm rfl C.q_NoRule.toErr rfl C.m_NoRule (y6 rfl) (za (@zp _ _ _ _) (@zb _)))) (@z5 _)) (@zh _ _ _ (PS.nox (@zt _ _ _ _ (@zr _ _ _ _ _ _ _ z4 (pv 1) (@zd _ _ _ _) (fun _ _ => rfl)))))), ?_⟩;rw [show start ["house", "words"] [V.ref p, V.ref l] = [some (V.ref p), some (V.ref l)] from rfl];simp only [zk, zj, ↓reduceIte];refine ⟨_, .inl (.of hl), rfl, ?_⟩;rw [Za]
    match ws, hl, q, e with
    | [], hl, q, e => exact iteT ⟨by decide, e rfl⟩
    | [x], hl, q, e => exact iteT ⟨by decide, e rfl⟩
    | x :: y :: z :: r, hl, q, e =>
      refine ite2 (fun _ => ⟨by decide, e rfl⟩) (fun z => absurd ?_ z);rw [Bool.not_eq_true', decide_eq_false_iff_not];intro z;simp only [ZL] at z;omega
    | [x, z], hl, q, e =>
      refine iteF ⟨_, .of hl, _, zn (j := 0) rfl, rfl, ?_⟩
      by_cases h1 : x = Str.ofString "deal"
      . refine ite2 (fun y => absurd y (by rw [h1]; simp)) (fun _ => ⟨_, .of hl, _, zn (j := 1) rfl, p, _, _, rfl, .of hH.tup, rfl, o, rfl, _, .inr (.of hH.outs), rfl, wm _, ?_⟩)
        by_cases h2 : z ∈ outs
        . rw [xx h2]
          exact iteF ⟨_, .of hl, _, zn (j := 1) rfl, q z (by unfold pdl; exact if_pos ⟨h1, h2⟩)⟩
        . rw [xl h2]
          exact iteT ⟨by decide, e (by unfold pdl; exact if_neg fun y => h2 y.2)⟩
      . refine ite2 (fun _ => ⟨by decide, e (by unfold pdl; exact if_neg fun y => h1 y.1)⟩) (fun y => absurd ?_ y)
        rw [Bool.not_eq_true', decide_eq_false_iff_not];exact fun z => h1 (V.str.inj z)
end
section
variable {P : Program} {w : World} {K : Fg} {mg : Str -> Option Value} {base : Heap} {a : Ad}
theorem yz (B : Bt mg) (C : Ct K mg a) (wj : FnAtX P w K mg base "word_at" 1 ["words", "place"] (g9 a)) (u0 : FnAtX P w K mg base "read_says" 3 ["house", "name", "word"] (zbg a)) (uh : FnAtX P w K mg base "read_count" 3 ["house", "figure", "word"] (dq a)) (xb : FnAt P w K mg base "condition_of" 1 ["told"] (xw K 0)) (x6 : FnAt P w K mg base "place_of" 1 ["told"] (xw K 1)) (D : zl K mg "read_condition" wq ["house", "words", "place"]) : ∀ dm, FnAtX P w K mg base "read_condition" (dm + 4) ["house", "words", "place"] (zba a dm)
  | 0 => by
    refine FnAtX.of D sc_read_condition (fun vs H Q E h => ?_) (fun f cdv A outer s H vs Q E hr h => ?_)
    . obtain ⟨p, o, h, l, hs, outs, ds, ws, pl, rfl, _⟩ := h
      rfl
    . obtain ⟨p, o, h, l, hs, outs, ds, ws, pl, rfl, _, _, _, z, _⟩ := h
      omega
  | dm + 1 => by
    have yz := yz B C wj u0 uh xb x6 D dm;refine FnAtX.of D sc_read_condition (fun vs H Q E h => ?_) (fun f cdv A outer s H vs Q E hr h => ?_)
    . obtain ⟨p, o, h, l, hs, outs, ds, ws, pl, rfl, _⟩ := h
      rfl
    . obtain ⟨p, o, h, l, hs, outs, ds, ws, pl, rfl, hH, G, hl, hd, q, e⟩ := h
      refine ⟨_, (@zg _ _ _ _ _ (zu (i := 3) sc_read_condition.nd rfl (Or.inl rfl) (y7 wj (hr.mono (by omega)) (yy rfl) rfl (za (pv 1) (za (pv 2) (@zb _))))) (@zg _ _ _ _ _ (@yb _ _ _ _ _ _ _ _ (@zw _ _ _ _ _ _ _ _ y9 (pv 3) (@zp _ _ _ _) (z0 _)) (@zh _ _ _ (@zt _ _ _ _ (@yl _ _ _ _ _ (za (y7 u0 (hr.mono (by omega)) (yy rfl) rfl (za (pv 0) (za (y7 wj (hr.mono (by omega)) (yy rfl) rfl (za (pv 1) (za (@zm _ _ _ _ _ _ _ _ yg (pv 2) (@zd _ _ _ _)) (@zb _)))) (za (y7 wj (hr.mono (by omega)) (yy rfl) rfl (za (pv 1) (za (@zm _ _ _ _ _ _ _ _ yg (pv 2) (@zd _ _ _ _)) (@zb _)))) (@zb _))))) (za (@zm _ _ _ _ _ _ _ _ yg (pv 2) (@zd _ _ _ _)) (@zb _)))))) (@z5 _)) (@zg _ _ _ _ _ (@yb _ _ _ _ _ _ _ _ (@zw _ _ _ _ _ _ _ _ y9 (pv 3) (@zp _ _ _ _) (z0 _)) (@zh _ _ _ (@zt _ _ _ _ (@yl _ _ _ _ _ (za (y7 uh (hr.mono (by omega)) (yy rfl) rfl (za (pv 0) (za (y7 wj (hr.mono (by omega)) (yy rfl) rfl (za (pv 1) (za (@zm _ _ _ _ _ _ _ _ yg (pv 2) (@zd _ _ _ _)) (@zb _)))) (za (y7 wj (hr.mono (by omega)) (yy rfl) rfl (za (pv 1) (za (@zm _ _ _ _ _ _ _ _ yg (pv 2) (@zd _ _ _ _)) (@zb _)))) (@zb _))))) (za (@zm _ _ _ _ _ _ _ _ yg (pv 2) (@zd _ _ _ _)) (@zb _)))))) (@z5 _)) (@zg _ _ _ _ _ (@yb _ _ _ _ _ _ _ _ (@zw _ _ _ _ _ _ _ _ y9 (pv 3) (@zp _ _ _ _) (z0 _)) (@zg _ _ _ _ _ (zu (i := 4) sc_read_condition.nd rfl (Or.inl rfl) (y7 yz (hr.mono (by omega)) (yy rfl) rfl (za (pv 0) (za (pv 1) (za (@zm _ _ _ _ _ _ _ _ yg (pv 2) (@zd _ _ _ _)) (@zb _)))))) (@zh _ _ _ (PS.nox (@zt _ _ _ _ (@yl _ _ _ _ _ (@za _ _ _ _ _ (@yl _ _ _ _ _ (@za _ _ _ _ _ (@zp _ _ _ _) (@za _ _ _ _ _ (zo xb (hr.mono (by omega)) rfl (@za _ _ _ _ _ (pv 4) (@zb _) (zi nofun))) (@zb _) (zi nofun)) (zi nofun))) (@za _ _ _ _ _ (zo x6 (hr.mono (by omega)) rfl (@za _ _ _ _ _ (pv 4) (@zb _) (zi nofun))) (@zb _) (zi nofun)) (zi nofun))))))) (@z5 _)) (@zg _ _ _ _ _ (@yb _ _ _ _ _ _ _ _ (PW.pt (@vc _ _ _ _ _ _ _ (@zw _ _ _ _ _ _ _ _ y9 (pv 3) (@zp _ _ _ _) (z0 _)) (@ve _ _ _ _ (@zw _ _ _ _ _ _ _ _ y9 (pv 3) (@zp _ _ _ _) (z0 _))))) (@zg _ _ _ _ _ (zu (i := 5) sc_read_condition.nd rfl (Or.inl rfl) (y7 yz (hr.mono (by omega)) (yy rfl) rfl (za (pv 0) (za (pv 1) (za (@zm _ _ _ _ _ _ _ _ yg (pv 2) (@zd _ _ _ _)) (@zb _)))))) (@zg _ _ _ _ _ (zu (i := 6) sc_read_condition.nd rfl (Or.inl rfl) (y7 yz (hr.mono (by omega)) (yy rfl) rfl (za (pv 0) (za (pv 1) (za (zo x6 (hr.mono (by omega)) rfl (za (pv 5) (@zb _))) (@zb _)))))) (@zh _ _ _ (PS.nox (@zt _ _ _ _ (@yl _ _ _ _ _ (@za _ _ _ _ _ (@yl _ _ _ _ _ (@za _ _ _ _ _ (pv 3) (@za _ _ _ _ _ (zo xb (hr.mono (by omega)) rfl (@za _ _ _ _ _ (pv 5) (@zb _) (zi nofun))) (@za _ _ _ _ _ (zo xb (hr.mono (by omega)) rfl (@za _ _ _ _ _ (pv 6) (@zb _) (zi nofun))) (@zb _) (zi nofun)) (zi nofun)) (zi nofun))) (@za _ _ _ _ _ (zo x6 (hr.mono (by omega)) rfl (@za _ _ _ _ _ (pv 6) (@zb _) (zi nofun))) (@zb _) (zi nofun)) (zi nofun)))))))) (@z5 _)) (@zh _ _ _ (xm rfl C.q_NoRule.toErr rfl C.m_NoRule (y6 rfl) (za (@zp _ _ _ _) (@zb _))))))))), ?_⟩;rw [show start ["house", "words", "place", "kind", "told", "one", "other"] [V.ref p, V.ref l, V.int pl] = [some (V.ref p), some (V.ref l), some (V.int pl), none, none, none, none] from rfl];simp only [zk, zj, ↓reduceIte];refine ⟨l, ws, pl, rfl, hl, fun kd hkd => ?_, fun hno => ?_⟩
      . obtain ⟨t, hw⟩ : ∃ t, ws.drop pl = kd :: t := ⟨ws.drop (pl + 1), by
          have := (Zc.mp hkd)
          rw [Yp this.1, this.2]⟩
        have hw1 := fq hw;have g1 : ws[pl + 1]? = t[0]? := by rw [<- hw1, Yt]
        have g2 : ws[pl + 2]? = t[1]? := by rw [<- hw1, Yt]
        rw [hw] at q e hd;have ht : t.length < dm := by simpa using hd
        refine ⟨rfl, ite2 (fun he => ?_) fun n1 => ⟨rfl, ite2 (fun he => ?_) fun n2 => ⟨rfl, ite2 (fun he => ?_) fun n3 => ⟨rfl, ite2 (fun he => ?_) fun n4 => ⟨rfl, ite2 (fun he => ?_) fun n5 => ⟨by decide, e ?_ _ (Same.refl _)⟩⟩⟩⟩⟩⟩
        . obtain rfl : kd = Str.ofString "says" := V.str.inj (of_decide_eq_true he)
          have pq : prs ds (dm + 1) (Str.ofString "says" :: t) = mq ds t := by rw [prs, if_pos rfl]
          rw [pq] at q e
          rcases t with _ | ⟨nm, _ | ⟨z, r⟩⟩
          . exact ⟨l, ws, pl + 1, by simp, hl, fun nm h1 => (by rw [g1] at h1; cases h1), fun _ => e rfl _ (Same.refl _)⟩
          . exact ⟨l, ws, pl + 1, by simp, hl, fun nm h1 => ⟨l, ws, pl + 2, by simp, hl, fun z h2 => (by rw [g2] at h2; cases h2), fun _ => e rfl _ (Same.refl _)⟩, fun h1 => by rw [g1] at h1; cases h1⟩
          . refine ⟨l, ws, pl + 1, by simp, hl, fun nm' h1 => ⟨l, ws, pl + 2, by simp, hl, fun z' h2 => ?_, fun h2 => by rw [g2] at h2; cases h2⟩, fun h1 => by rw [g1] at h1; cases h1⟩
            rw [g1] at h1;rw [g2] at h2;cases h1;cases h2;refine ⟨p, o, h, hs, outs, ds, nm, z, rfl, hH, G, fun hx H1 t1 S1 ht1 => ⟨by decide, fun t2 ht2 => ?_⟩, fun hx H1 S1 => e (if_neg hx) H1 S1⟩;have S2 : Same H1 (upd H1 t2 (.tup [V.ref t1, V.int (pl + 3)])) := Same.upd (Same.refl _) ht2;exact q _ r (if_pos hx) _ t2 (.ref t1) (S1.trans S2) (by rw [zc]; rfl) ⟨t1, rfl, S2 _ _ ht1⟩
        . obtain rfl : kd = Str.ofString "count" := V.str.inj (of_decide_eq_true he)
          have pq : prs ds (dm + 1) (Str.ofString "count" :: t) = ma ds t := by rw [prs, if_neg (by decide +kernel), if_pos rfl]
          rw [pq] at q e
          rcases t with _ | ⟨nm, _ | ⟨z, r⟩⟩
          . exact ⟨l, ws, pl + 1, by simp, hl, fun nm h1 => (by rw [g1] at h1; cases h1), fun _ => e rfl _ (Same.refl _)⟩
          . exact ⟨l, ws, pl + 1, by simp, hl, fun nm h1 => ⟨l, ws, pl + 2, by simp, hl, fun z h2 => (by rw [g2] at h2; cases h2), fun _ => e rfl _ (Same.refl _)⟩, fun h1 => by rw [g1] at h1; cases h1⟩
          . refine ⟨l, ws, pl + 1, by simp, hl, fun nm' h1 => ⟨l, ws, pl + 2, by simp, hl, fun z' h2 => ?_, fun h2 => by rw [g2] at h2; cases h2⟩, fun h1 => by rw [g1] at h1; cases h1⟩
            rw [g1] at h1;rw [g2] at h2;cases h1;cases h2;refine ⟨p, o, h, hs, outs, ds, nm, z, rfl, hH, G, fun n hn hx H1 t1 S1 ht1 => ⟨by decide, fun t2 ht2 => ?_⟩, fun hx H1 S1 => e ?_ H1 S1⟩
            . have S2 : Same H1 (upd H1 t2 (.tup [V.ref t1, V.int (pl + 3)])) := Same.upd (Same.refl _) ht2
              exact q (.count n z) r (by show (figN nm).bind _ = _; rw [hn, ZN, if_pos hx]) _ t2 (.ref t1) (S1.trans S2) (by rw [zc]; rfl) ⟨t1, rfl, S2 _ _ ht1⟩
            . show (figN nm).bind _ = none
              rcases hx with hx | hx
              . rw [hx]; rfl
              . cases figN nm with
                | none => rfl
                | some m => rw [ZN, if_neg hx]
        . obtain rfl : kd = Str.ofString "not" := V.str.inj (of_decide_eq_true he)
          have pq : prs ds (dm + 1) (Str.ofString "not" :: t) = (prs ds dm t).map fun x => (Cd.no x.1, x.2) := by rw [prs, if_neg (by decide +kernel), if_neg (by decide +kernel), if_pos rfl]
          rw [pq] at q e;refine ⟨p, o, h, l, hs, outs, ds, ws, pl + 1, by simp, hH, G, hl, by rw [hw1]; exact ht, fun c r hc H1 t1 x S1 ht1 hx => ?_, fun hn H1 S1 => ?_⟩
          . rw [hw1] at hc
            refine ⟨t1, _, _, rfl, .of ht1, rfl, by decide, fun t2 ht2 => ?_⟩;have S2 : Same H1 (upd H1 t2 (.tup [V.str (Str.ofString "not"), x])) := Same.upd (Same.refl _) ht2;have u2 : upd H1 t2 (.tup [V.str (Str.ofString "not"), x]) t2 = some (.tup [V.str (Str.ofString "not"), x]) := zc;generalize upd H1 t2 (.tup [V.str (Str.ofString "not"), x]) = H2 at *;refine ⟨t1, _, _, rfl, .of (S2 _ _ ht1), rfl, by decide, fun t3 ht3 => ?_⟩;have S3 : Same H2 (upd H2 t3 (.tup [V.ref t2, V.int ((pl + 1 + (wd ds c).length : Nat) : Int)])) := Same.upd (Same.refl _) ht3;exact q (.no c) r (by rw [hc]; rfl) _ t3 (.ref t2) (S1.trans (S2.trans S3)) (by rw [zc, wd, ZL, Nat.add_assoc, Nat.add_comm 1]) ⟨t2, x, rfl, S3 _ _ u2, hx.mono (S2.trans S3)⟩
          . rw [hw1] at hn
            exact e (by rw [hn]; rfl) H1 S1
        . obtain rfl : kd = Str.ofString "and" := V.str.inj (of_decide_eq_true he)
          have pq : prs ds (dm + 1) (Str.ofString "and" :: t) = (prs ds dm t).bind fun x => (prs ds dm x.2).map fun y => (Cd.an x.1 y.1, y.2) := by rw [prs, if_neg (by decide +kernel), if_neg (by decide +kernel), if_neg (by decide +kernel), if_pos rfl]
          rw [pq] at q e;refine ⟨p, o, h, l, hs, outs, ds, ws, pl + 1, by simp, hH, G, hl, by rw [hw1]; exact ht, fun c r hc H1 t1 x S1 ht1 hx => ?_, fun hn H1 S1 => ?_⟩
          . rw [hw1] at hc
            obtain ⟨e1, o1⟩ := vg G.handsD hc;have lr := oa G.handsD hc;have hw2 : ws.drop (pl + 1 + (wd ds c).length) = r := by rw [<- Yw, hw1, e1, List.drop_left]
            refine ⟨t1, _, _, rfl, .of ht1, rfl, p, o, h, l, hs, outs, ds, ws, pl + 1 + (wd ds c).length, rfl, hH.mono S1, G, S1 _ _ hl, by rw [hw2]; exact Nat.lt_trans lr ht, fun c2 r2 hc2 H2 t2 x2 S2 ht2 hx2 => ?_, fun hn H2 S2 => ?_⟩
            . rw [hw2] at hc2
              refine ⟨t1, _, _, rfl, .of (S2 _ _ ht1), rfl, t2, _, _, rfl, .of ht2, rfl, by decide, fun t3 ht3 => ?_⟩;have S3 : Same H2 (upd H2 t3 (.tup [V.str (Str.ofString "and"), x, x2])) := Same.upd (Same.refl _) ht3;have u3 : upd H2 t3 (.tup [V.str (Str.ofString "and"), x, x2]) t3 = some (.tup [V.str (Str.ofString "and"), x, x2]) := zc;generalize upd H2 t3 (.tup [V.str (Str.ofString "and"), x, x2]) = H3 at *;refine ⟨t2, _, _, rfl, .of (S3 _ _ ht2), rfl, by decide, fun t4 ht4 => ?_⟩;have S4 : Same H3 (upd H3 t4 (.tup [V.ref t3, V.int ((pl + 1 + (wd ds c).length + (wd ds c2).length : Nat) : Int)])) := Same.upd (Same.refl _) ht4;exact q (.an c c2) r2 (by rw [hc, ZN, hc2]; rfl) _ t4 (.ref t3) (S1.trans (S2.trans (S3.trans S4))) (by rw [zc, wd, ZL, Zo]; congr 5; omega) ⟨t3, x, x2, rfl, S4 _ _ u3, hx.mono (S2.trans (S3.trans S4)), hx2.mono (S3.trans S4)⟩
            . rw [hw2] at hn
              exact e (by rw [hc, ZN, hn]; rfl) H2 (S1.trans S2)
          . rw [hw1] at hn
            exact e (by rw [hn]; rfl) H1 S1
        . obtain rfl : kd = Str.ofString "or" := V.str.inj (of_decide_eq_true he)
          have pq : prs ds (dm + 1) (Str.ofString "or" :: t) = (prs ds dm t).bind fun x => (prs ds dm x.2).map fun y => (Cd.orr x.1 y.1, y.2) := by rw [prs, if_neg (by decide +kernel), if_neg (by decide +kernel), if_neg (by decide +kernel), if_neg (by decide +kernel), if_pos rfl]
          rw [pq] at q e;refine ⟨p, o, h, l, hs, outs, ds, ws, pl + 1, by simp, hH, G, hl, by rw [hw1]; exact ht, fun c r hc H1 t1 x S1 ht1 hx => ?_, fun hn H1 S1 => ?_⟩
          . rw [hw1] at hc
            obtain ⟨e1, o1⟩ := vg G.handsD hc;have lr := oa G.handsD hc;have hw2 : ws.drop (pl + 1 + (wd ds c).length) = r := by rw [<- Yw, hw1, e1, List.drop_left]
            refine ⟨t1, _, _, rfl, .of ht1, rfl, p, o, h, l, hs, outs, ds, ws, pl + 1 + (wd ds c).length, rfl, hH.mono S1, G, S1 _ _ hl, by rw [hw2]; exact Nat.lt_trans lr ht, fun c2 r2 hc2 H2 t2 x2 S2 ht2 hx2 => ?_, fun hn H2 S2 => ?_⟩
            . rw [hw2] at hc2
              refine ⟨t1, _, _, rfl, .of (S2 _ _ ht1), rfl, t2, _, _, rfl, .of ht2, rfl, by decide, fun t3 ht3 => ?_⟩;have S3 : Same H2 (upd H2 t3 (.tup [V.str (Str.ofString "or"), x, x2])) := Same.upd (Same.refl _) ht3;have u3 : upd H2 t3 (.tup [V.str (Str.ofString "or"), x, x2]) t3 = some (.tup [V.str (Str.ofString "or"), x, x2]) := zc;generalize upd H2 t3 (.tup [V.str (Str.ofString "or"), x, x2]) = H3 at *;refine ⟨t2, _, _, rfl, .of (S3 _ _ ht2), rfl, by decide, fun t4 ht4 => ?_⟩;have S4 : Same H3 (upd H3 t4 (.tup [V.ref t3, V.int ((pl + 1 + (wd ds c).length + (wd ds c2).length : Nat) : Int)])) := Same.upd (Same.refl _) ht4;exact q (.orr c c2) r2 (by rw [hc, ZN, hc2]; rfl) _ t4 (.ref t3) (S1.trans (S2.trans (S3.trans S4))) (by rw [zc, wd, ZL, Zo]; congr 5; omega) ⟨t3, x, x2, rfl, S4 _ _ u3, hx.mono (S2.trans (S3.trans S4)), hx2.mono (S3.trans S4)⟩
            . rw [hw2] at hn
              exact e (by rw [hc, ZN, hn]; rfl) H2 (S1.trans S2)
          . rw [hw1] at hn
            exact e (by rw [hn]; rfl) H1 S1
        . rw [prs, if_neg (fun z => n1 (decide_eq_true (by rw [z]))), if_neg (fun z => n2 (decide_eq_true (by rw [z]))), if_neg (fun z => n3 (decide_eq_true (by rw [z]))), if_neg (fun z => n4 (decide_eq_true (by rw [z]))), if_neg (fun z => n5 (decide_eq_true (by rw [z])))]
      . have hnil : ws.drop pl = [] := List.drop_eq_nil_of_le (List.getElem?_eq_none_iff.mp hno)
        rw [hnil] at e;exact e rfl _ (Same.refl _)
end
def csT (z : Str) : List (List Str) := (Txt.split z (Str.ofString "; ")).map fun p => Txt.split p (Str.ofString " ")
theorem ff (z : Str) : csT z ≠ [] := by
  rw [csT]
  simpa using qk z (Str.ofString "; ")
theorem zc6 {z : Str} {cs : List Str} (h : cs ∈ csT z) : cs ≠ [] := by
  obtain ⟨p, _, rfl⟩ := Zp.mp h;exact qk _ _
def m5 (a : Ad) : Sp := fun vs H Q E => ∃ z : Str, vs = [.str z] /\ z.length <= 30000 /\ (fine (csT z) -> ∀ H' l ls, Same H H' -> WordsAt H' l ls (csT z) -> Q (.ref l) H') /\ (¬ fine (csT z) -> ∀ H', Same H H' -> E (.ref a.NoRule) none H')
def RuleOf (ds : List HD) (outs : List Str) (css : List (List Str)) (cls : List (Cd × Str)) (zz : Str) : Prop := fine css /\ css.dropLast.map (pcl ds outs) = cls.map some /\ ∃ l, css.getLast? = some l /\ pdl outs l = some zz
def jf (a : Ad) (K : Fg) : Sp := fun vs H Q E => ∃ (p o h : Addr) (y : V) (hs : List Addr) (outs : List Str) (ds : List HD), vs = [.ref p, y] /\ HHouse H p o h hs outs ds /\ GoodHouse outs ds /\
  (((∃ T, TyOf K H y (.type T) /\ kit0 T "str" = some false) /\ ∀ H', Same H H' -> E (.ref a.NoRule) none H') \/ ∃ z : Str, y = .str z /\ z.length <= 30000 /\ (∀ cls zz, RuleOf ds outs (csT z) cls zz -> ∀ H' l, Same H H' -> RuleL H' l cls zz -> Q (.ref l) H') /\ ((¬ ∃ cls zz, RuleOf ds outs (csT z) cls zz) -> ∀ H', Same H H' -> E (.ref a.NoRule) none H'))
def PvRw (H : Hp) (ds : List HD) (outs : List Str) (css : List (List Str)) (i : Nat) (ys : List V) (H' : Hp) : Prop := Same H H' /\ ∃ rl : List (Addr × Cd × Str), ys = rl.map (fun r => V.ref r.1) /\ (css.take i).map (pcl ds outs) = (rl.map fun r => r.2).map some /\ ∀ r ∈ rl, ∃ x, H' r.1 = some (.tup [x, .str r.2.2]) /\ CondAt H' r.2.1 x
section
variable {P : Program} {w : World} {K : Fg} {mg : Str -> Option Value} {base : Heap} {a : Ad}
theorem ra (B : Bt mg) (C : Ct K mg a) (yz : FnAtX P w K mg base "read_condition" 45 ["house", "words", "place"] (zba a 41)) (xb : FnAt P w K mg base "condition_of" 1 ["told"] (xw K 0)) (x6 : FnAt P w K mg base "place_of" 1 ["told"] (xw K 1)) (vd : FnAtX P w K mg base "read_deal" 2 ["house", "words"] (fu a)) (D : zl K mg "read_clause" vp ["house", "words"]) : FnAtX P w K mg base "read_clause" 46 ["house", "words"] (ie a) := by
  refine FnAtX.of D sc_read_clause (fun vs H Q E h => ?_) (fun f cdv A outer s H vs Q E hr h => ?_)
  . obtain ⟨p, o, h, l, hs, outs, ds, ws, rfl, _⟩ := h
    rfl
  . obtain ⟨p, o, h, l, hs, outs, ds, ws, rfl, hH, G, hl, hne, h40, q, e⟩ := h
    refine ⟨_, (@zg _ _ _ _ _ (@yb _ _ _ _ _ _ _ _ (@zw _ _ _ _ _ _ _ _ uy (@zr _ _ _ _ _ _ _ z4 (pv 1) (@zd _ _ _ _) (fun _ _ => rfl)) (@zp _ _ _ _) (z0 _)) (@zh _ _ _ (xm rfl C.q_NoRule.toErr rfl C.m_NoRule (y6 rfl) (za (@zp _ _ _ _) (@zb _)))) (@z5 _)) (@zg _ _ _ _ _ (zu (i := 2) sc_read_clause.nd rfl (Or.inl rfl) (y7 yz (hr.mono (by decide)) (yy rfl) rfl (za (pv 0) (za (pv 1) (za (@zd _ _ _ _) (@zb _)))))) (@zh _ _ _ (@zt _ _ _ _ (@yl _ _ _ _ _ (za (zo xb (hr.mono (by decide)) rfl (za (pv 2) (@zb _))) (za (y7 vd (hr.mono (by decide)) (yy rfl) rfl (za (pv 0) (za (@yu _ _ _ _ _ _ _ _ _ _ wf (pv 1) (@yw _ _ _ (zo x6 (hr.mono (by decide)) rfl (za (pv 2) (@zb _)))) (@xa _)) (@zb _)))) (@zb _)))))))), ?_⟩;rw [show start ["house", "words", "told"] [V.ref p, V.ref l] = [some (V.ref p), some (V.ref l), none] from rfl];simp only [zk, zj, ↓reduceIte]
    obtain ⟨wh, t, rfl⟩ : ∃ wh t, ws = wh :: t := by
      cases ws with
      | nil => exact absurd rfl hne
      | cons x t => exact ⟨x, t, rfl⟩
    refine ⟨_, .of hl, _, zn (j := 0) rfl, rfl, ?_⟩
    by_cases hwh : wh = Str.ofString "when"
    . refine ite2 (fun z => absurd z (by rw [hwh]; simp)) (fun _ => ?_)
      have pq : pcl ds outs (wh :: t) = (prs ds 41 t).bind fun x => (pdl outs x.2).map fun z => (x.1, z) := by unfold pcl; exact if_pos hwh
      rw [pq] at q e;have lt : t.length < 41 := by simp only [ZL] at h40; omega
      refine ⟨p, o, h, l, hs, outs, ds, wh :: t, 1, rfl, hH, G, hl, lt, fun c r hc H1 t1 x S1 ht1 hx => ?_, fun hn H1 S1 => e (by rw [show (wh :: t).drop 1 = t from rfl] at hn; rw [hn]; rfl) H1 S1⟩;rw [show (wh :: t).drop 1 = t from rfl] at hc;obtain ⟨e1, o1⟩ := vg G.handsD hc;refine ⟨t1, _, _, rfl, .of ht1, rfl, t1, _, _, rfl, .of ht1, rfl, ?_⟩
      have hcut : cutV ((wh :: t).map V.str) (some ((1 + (wd ds c).length : Nat) : Int)) none = r.map V.str := by
        have hle : 1 + (wd ds c).length <= (wh :: t).length := by rw [ZL, e1, Zo]; omega
        rw [v6 (by rw [Za]; exact hle), <- Ym]
        congr 1
        rw [Nat.add_comm, List.drop_succ_cons, e1, List.drop_left]
      refine ⟨_, rfl, _, .of (S1 _ _ hl), fun l2 hl2 => ?_⟩;rw [hcut];have S2 : Same H1 (upd H1 l2 (.lst (r.map V.str))) := Same.upd (Same.refl _) hl2;have u2 : upd H1 l2 (.lst (r.map V.str)) l2 = some (.lst (r.map V.str)) := zc;generalize upd H1 l2 (.lst (r.map V.str)) = H2 at *;refine ⟨p, o, h, l2, hs, outs, ds, r, rfl, hH.mono (S1.trans S2), u2, fun z hz => ⟨by decide, fun t2 ht2 => ?_⟩, fun hz => e (by rw [hc, ZN, hz]; rfl) H2 (S1.trans S2)⟩;have S3 : Same H2 (upd H2 t2 (.tup [x, V.str z])) := Same.upd (Same.refl _) ht2;exact q (c, z) (by rw [hc, ZN, hz]; rfl) _ t2 x (S1.trans (S2.trans S3)) zc (hx.mono (S2.trans S3))
    . refine ite2 (fun _ => ⟨by decide, e (by unfold pcl; exact if_neg hwh) _ (Same.refl _)⟩) (fun y => absurd ?_ y)
      rw [Bool.not_eq_true', decide_eq_false_iff_not];exact fun z => hwh (V.str.inj z)
theorem ql (B : Bt mg) (C : Ct K mg a) (D : zl K mg "clauses_in" uk ["text"]) : FnAtX P w K mg base "clauses_in" 1 ["text"] (m5 a) := by
  refine FnAtX.of D sc_clauses_in (fun vs H Q E h => ?_) (fun f cdv A outer s H vs Q E hr h => ?_)
  . obtain ⟨z, rfl, _⟩ := h
    rfl
  . obtain ⟨z, rfl, hzl, q0, q1⟩ := h
    refine ⟨_, (@zg _ _ _ _ _ (PS.nox (jj (i := 1) ["clause"] ["text", "clauses"] sc_clauses_in.nd rfl rfl rfl (@yo _ _ _ _ (x9 PySem.F.plainAttrs_str PySem.F.slot_str_split PySem.F.type_str_split qj (pv 0) (za (@zp _ _ _ _) (@zb _)))) (fun _ => (z6 (i := 0) (show (["clause", "text", "clauses"] : List Str).Nodup by decide +kernel) rfl (Or.inl rfl))) (fun _ => (@ym _)) (fun _ => (x9 PySem.F.plainAttrs_str PySem.F.slot_str_split PySem.F.type_str_split qj (pv 0) (za (@zp _ _ _ _) (@zb _)))) rfl (by decide +kernel) rfl rfl rfl)) (@zg _ _ _ _ _ (@yb _ _ _ _ _ _ _ _ (PW.pt (@vc _ _ _ _ _ _ _ (@zw _ _ _ _ _ _ _ _ rq (zq zv rfl B.len yc (za (pv 1) (@zb _))) (vy rfl B.k_MOST_CLAUSES) (z0 _)) (@ve _ _ _ _ (@zw _ _ _ _ _ _ _ _ rq (zq (za3 rfl) rfl B.max bt_max (za (yr ["words"] ["text", "clauses"] rfl (@yo _ _ _ _ (pv 1)) (fun _ => (z6 (i := 0) (show (["words", "text", "clauses"] : List Str).Nodup by decide +kernel) rfl (Or.inl rfl))) (fun _ => (@ym _)) (fun _ => (zq zv rfl B.len yc (za (pv 0) (@zb _)))) rfl (by decide +kernel) rfl rfl) (@zb _))) (vy rfl B.k_MOST_CLAUSE_WORDS) (z0 _))))) (@zh _ _ _ (xm rfl C.q_NoRule.toErr rfl C.m_NoRule (y6 rfl) (za (@zp _ _ _ _) (@zb _)))) (@z5 _)) (@zh _ _ _ (PS.nox (@zt _ _ _ _ (pv 1)))))), ?_⟩;rw [show start ["text", "clauses"] [V.str z] = [some (V.str z), none] from rfl];simp only [zk, zj, ↓reduceIte];have big : (30001 : Nat) <= sizeLine := by decide
    have hps := sv z (Str.ofString "; ") (by decide +kernel);refine ⟨rfl, by decide +kernel, by omega, by omega, fun l hl => ?_⟩;have hcs : csT z = (Txt.split z (Str.ofString "; ")).map fun p => Txt.split p (Str.ofString " ") := rfl
    have hsh : ∀ p ∈ Txt.split z (Str.ofString "; "), p.length <= z.length := fun p hp => p7 hp
    have hcn := ff z;generalize csT z = css at *;generalize Txt.split z (Str.ofString "; ") = ps at *;have lcs : css.length = ps.length := by rw [hcs, Za]
    have S1 : Same H (upd H l (.lst (ps.map V.str))) := Same.upd (Same.refl _) hl;have u1 : upd H l (.lst (ps.map V.str)) l = some (.lst (ps.map V.str)) := zc;generalize upd H l (.lst (ps.map V.str)) = H1 at *;refine ⟨⟨_, .of u1⟩, fun d => ?_⟩;refine ye (xs := ps.map V.str) (PvSp H1 css) ⟨Same.refl _, [], rfl, rfl, fun j b cs e => by simp at e⟩ ?_ ?_ ?_
    . rintro i ys H2 hi ⟨S2, ls, rfl, li, hls⟩
      rw [Za] at hi;exact ⟨by rw [Za, li]; omega, .of (S2 _ _ u1)⟩
    . rintro i x ys H2 hx ⟨S2, ls, rfl, li, hls⟩
      obtain ⟨pc, hpc, rfl⟩ := yk hx;have hlen := hsh pc (Zi hpc);have hw := sv pc (Str.ofString " ") (by decide +kernel);have hci : css[i]? = some (Txt.split pc (Str.ofString " ")) := by rw [hcs, Ze, hpc]; rfl
      simp only [zk, zj, ↓reduceIte];refine ⟨rfl, by decide +kernel, by omega, by omega, fun b hb => ?_⟩;have S3 : Same H2 (upd H2 b (.lst ((Txt.split pc (Str.ofString " ")).map V.str))) := Same.upd (Same.refl _) hb;refine ⟨S2.trans S3, ls ++ [b], by simp, by simp [li], fun j b' cs' e1 e2 => ?_⟩
      by_cases hj : j < ls.length
      . rw [Zg hj] at e1
        exact S3 _ _ (hls j b' cs' e1 e2)
      . rw [Zf (ZD.mp hj)] at e1
        have h0 : j - ls.length = 0 := by
          have := (Zc.mp e1).1;simp at this;omega
        rw [h0] at e1;simp at e1;have : j = i := by omega
        subst this;rw [hci] at e2;cases e2;rw [<- e1];exact zc
    . rintro ys H2 ⟨S2, ls, rfl, li, hls⟩ l2 hl2
      rw [Za, <- lcs] at li;have S3 : Same H2 (upd H2 l2 (.lst (ls.map V.ref))) := Same.upd (Same.refl _) hl2;have u3 : upd H2 l2 (.lst (ls.map V.ref)) l2 = some (.lst (ls.map V.ref)) := zc;generalize upd H2 l2 (.lst (ls.map V.ref)) = H3 at *;have hW : WordsAt H3 l2 ls css := ⟨u3, li, fun i b cs e1 e2 => S3 _ _ (hls i b cs e1 e2)⟩;have S03 := S1.trans (S2.trans S3);refine ⟨_, .inl (.of u3), ?_⟩;rw [Za, li];refine ite2 (fun y => ⟨by decide, q1 (fun z => ?_) _ S03⟩) (fun y => ?_)
      . have := of_decide_eq_true y
        have := z.1;omega
      have h20 : css.length <= 20 := by
        have : ¬ (20 : Int) < css.length := fun z => y (decide_eq_true z)
        omega
      refine ⟨⟨_, .of u3⟩, fun d2 => ?_⟩;refine ye (xs := ls.map V.ref) (PvLn H3 css) ⟨rfl, rfl⟩ ?_ ?_ ?_
      . rintro i ys H4 hi ⟨rfl, rfl⟩
        refine ⟨?_, .of u3⟩;rw [Za, Za, Zj];exact Zd (show _ <= 40 by omega) (by decide)
      . rintro i x ys H4 hx ⟨rfl, rfl⟩
        obtain ⟨b, hb, rfl⟩ := yk hx;have hi : i < css.length := by have := (Zc.mp hb).1; omega
        have ec : css[i]? = some css[i] := Zb hi;simp only [zk, zj, ↓reduceIte];refine ⟨_, .inl (.of (hW.row i b _ hb ec)), rfl, ?_⟩;rw [Zq, ec, Za, Zn, Zn];rfl
      . rintro ys H4 ⟨rfl, rfl⟩ l3 hl3
        rw [Za, li, Zt];have S4 : Same H4 (upd H4 l3 (.lst ((css.map fun cs => (cs.length : Int)).map V.int))) := Same.upd (Same.refl _) hl3;refine ⟨_, .of zc, ?_, fun m hm1 hm2 => ite2 (fun y2 => ⟨by decide, q1 (fun z => ?_) _ (S03.trans S4)⟩) (fun y2 => q0 ⟨h20, fun cs hcs => ?_⟩ _ l2 ls (S03.trans S4) (hW.mono S4))⟩
        . rw [Za]
          exact Ye.mpr hcn
        . obtain ⟨cs, hcs, rfl⟩ := Zp.mp hm1
          have := z.2 cs hcs;have := of_decide_eq_true y2;omega
        . have := hm2 _ (Zp.mpr ⟨cs, hcs, rfl⟩)
          have : ¬ (40 : Int) < m := fun z => y2 (decide_eq_true z)
          omega
end
theorem kh {α : Type} {xs : List α} (h : xs ≠ []) : ∃ x, xs.getLast? = some x /\ xs[xs.length - 1]? = some x := by
  refine ⟨xs.getLast h, YM h, ?_⟩;rw [List.getLast_eq_getElem];exact Zb _
theorem dj {ds : List HD} {outs : List Str} : ∀ {css : List (List Str)}, (∀ ws ∈ css, (pcl ds outs ws).isSome = true) -> ∃ cls : List (Cd × Str), css.map (pcl ds outs) = cls.map some
  | [], _ => ⟨[], rfl⟩
  | ws :: css, h => by
    obtain ⟨c, hc⟩ := ZT.mp (h ws ZA);obtain ⟨cls, e⟩ := dj fun x hx => h x (Zv _ hx)
    exact ⟨c :: cls, by rw [ZM, ZM, hc, e]⟩
theorem md {ds : List HD} {outs : List Str} {css : List (List Str)} {cls : List (Cd × Str)} (e : css.map (pcl ds outs) = cls.map some) {ws : List Str} (h : ws ∈ css) : ∃ c ∈ cls, pcl ds outs ws = some c := by
  have : pcl ds outs ws ∈ css.map (pcl ds outs) := Zp.mpr ⟨ws, h, rfl⟩;rw [e] at this;obtain ⟨c, hc, e'⟩ := Zp.mp this;exact ⟨c, hc, e'.symm⟩
section
variable {P : Program} {w : World} {K : Fg} {mg : Str -> Option Value} {base : Heap} {a : Ad}
theorem p0 (B : Bt mg) (C : Ct K mg a) (ql : FnAtX P w K mg base "clauses_in" 1 ["text"] (m5 a)) (ra : FnAtX P w K mg base "read_clause" 46 ["house", "words"] (ie a)) (vd : FnAtX P w K mg base "read_deal" 2 ["house", "words"] (fu a)) (D : zl K mg "read_rule" tm ["house", "text"]) : FnAtX P w K mg base "read_rule" 47 ["house", "text"] (jf a K) := by
  refine FnAtX.of D sc_read_rule (fun vs H Q E h => ?_) (fun f cdv A outer s H vs Q E hr h => ?_)
  . obtain ⟨p, o, h, y, hs, outs, ds, rfl, _⟩ := h
    rfl
  . obtain ⟨p, o, h, y, hs, outs, ds, rfl, hH, G, hx⟩ := h
    refine ⟨_, (@zg _ _ _ _ _ (@yb _ _ _ _ _ _ _ _ (@xp _ _ _ _ (xq (zq xc rfl B.isinstance yj (za (pv 1) (za (ur rfl B.str me) (@zb _)))))) (@zh _ _ _ (xm rfl C.q_NoRule.toErr rfl C.m_NoRule (y6 rfl) (za (@zp _ _ _ _) (@zb _)))) (@z5 _)) (@zg _ _ _ _ _ (zu (i := 2) sc_read_rule.nd rfl (Or.inl rfl) (y7 ql (hr.mono (by decide)) (yy rfl) rfl (za (pv 1) (@zb _)))) (@zg _ _ _ _ _ (zca (i := 3) rfl ["words"] ["house", "text", "clauses", "rule"] sc_read_rule.nd rfl rfl rfl (@yo _ _ _ _ (@yu _ _ _ _ _ _ _ _ _ _ wf (pv 2) (@xa _) (@yw _ _ _ (@ul _ _ _ _ _ _ w5 (@zd _ _ _ _))))) (fun _ => (z6 (i := 0) (show (["words", "house", "text", "clauses", "rule"] : List Str).Nodup by decide +kernel) rfl (Or.inl rfl))) (fun _ => (@ym _)) (fun _ _ => (y7 ra (hr.mono (by decide)) ib rfl (za (pv 1) (za (pv 0) (@zb _))))) rfl (by decide +kernel) rfl rfl rfl) (@zh _ _ _ (@zt _ _ _ _ (@zm _ _ _ _ _ _ _ _ xn (pv 3) (@yd _ _ _ _ (@za _ _ _ _ _ (@yl _ _ _ _ _ (@za _ _ _ _ _ (@uo _ _ _) (@za _ _ _ _ _ (y7 vd (hr.mono (by decide)) (yy rfl) rfl (@za _ _ _ _ _ (pv 0) (@za _ _ _ _ _ (@zr _ _ _ _ _ _ _ z4 (pv 2) (@ul _ _ _ _ _ _ w5 (@zd _ _ _ _)) (fun _ _ => rfl)) (@zb _) (zi nofun)) (zi nofun))) (@zb _) (zi nofun)) (zi nofun))) (@zb _) (zi nofun))))))))), ?_⟩;rw [show start ["house", "text", "clauses", "rule"] [V.ref p, y] = [some (V.ref p), some y, none, none] from rfl];simp only [zk, zj, ↓reduceIte]
    rcases hx with ⟨⟨T, t1, t2⟩, e⟩ | ⟨t, rfl, hlen, q0, q1⟩
    . exact ⟨_, t1, false, t2, iteT ⟨by decide, e _ (Same.refl _)⟩⟩
    have hcn := ff t;have hcne : ∀ cs ∈ csT t, cs ≠ [] := fun cs h => zc6 h
    refine ⟨_, .str _, true, jm, iteF ⟨t, rfl, hlen, fun hf H1 l ls S1 hW => ?_, fun hnf H1 S1 => q1 (fun ⟨cls, zz, hR⟩ => hnf hR.1) H1 S1⟩⟩;generalize csT t = css at *;obtain ⟨lw, hlw, hlx⟩ := kh hcn;have hpos : 0 < css.length := Ye.mpr hcn;have hn : ls.length = css.length := hW.len;have h20 := hf.1;refine ⟨l, rfl, _, .of hW.at', fun p1 hp1 => ?_⟩
    have hcut : cutV (ls.map V.ref) none (some (-1)) = (ls.take (css.length - 1)).map V.ref := by
      have := l6 (xs := ls.map V.ref) (k := 1) (by decide) (by rw [Za]; omega);rw [Za, <- Yh, hn] at this;exact this
    rw [hcut];have S2 : Same H1 (upd H1 p1 (.lst ((ls.take (css.length - 1)).map V.ref))) := Same.upd (Same.refl _) hp1;have u2 : upd H1 p1 (.lst ((ls.take (css.length - 1)).map V.ref)) p1 = some (.lst ((ls.take (css.length - 1)).map V.ref)) := zc;generalize upd H1 p1 (.lst ((ls.take (css.length - 1)).map V.ref)) = H2 at *;have S12 := S1.trans S2;have hW2 := hW.mono S2;have hdl : css.dropLast = css.take (css.length - 1) := List.dropLast_eq_take;refine ⟨⟨_, .of u2⟩, fun d => ?_⟩;refine ye (xs := (ls.take (css.length - 1)).map V.ref) (PvRw H2 ds outs css) ⟨Same.refl _, [], rfl, rfl, fun _ z => nomatch z⟩ ?_ ?_ ?_
    . rintro i ys H3 hi ⟨S3, rl, rfl, hrl, hx⟩
      refine ⟨?_, .of (S3 _ _ u2)⟩;have := congrArg List.length hrl;rw [Za, Zj, Za, Za] at this;rw [Za, <- this];exact Zd (show _ <= 40 by omega) (by decide)
    . rintro i x ys H3 hx ⟨S3, rl, rfl, hrl, hR⟩
      obtain ⟨b, hb, rfl⟩ := yk hx
      have hi : i < css.length - 1 := by
        have := (Zc.mp hb).1;rw [Zj] at this;omega
      rw [ZU hi] at hb;have ec : css[i]? = some (css[i]'(by omega)) := Zb _;have hm := Zi ec
      have hmd : css[i]'(by omega) ∈ css.dropLast := by
        rw [hdl];exact Zi (i := i) (by rw [ZU hi]; exact ec)
      generalize css[i]'(by omega) = ws at *;simp only [zk, zj, ↓reduceIte];refine ⟨p, o, h, b, hs, outs, ds, ws, rfl, hH.mono (S12.trans S3), G, (hW2.mono S3).row i b _ hb ec, hcne _ hm, hf.2 _ hm, fun c hc H4 t4 x4 S4 ht4 hx4 => ?_, fun hnc H4 S4 => ?_⟩
      . refine ⟨S3.trans S4, rl ++ [(t4, c)], by simp, by rw [Zq, ec, Zn, hrl, Zn, Zn]; show _ ++ [pcl ds outs ws] = _; rw [hc]; rfl, fun r hr' => ?_⟩
        rcases ZH.mp hr' with e | e
        . obtain ⟨x5, h5, h6⟩ := hR r e
          exact ⟨x5, S4 _ _ h5, h6.mono S4⟩
        . rw [ZC.mp e]
          exact ⟨x4, ht4, hx4⟩
      . refine q1 (fun ⟨cls, zz, _, hR, _⟩ => ?_) H4 (S12.trans (S3.trans S4))
        obtain ⟨c, _, e⟩ := md hR hmd;rw [hnc] at e;cases e
    . rintro ys H3 ⟨S3, rl, rfl, hrl, hR⟩ ru hru
      rw [Za, Zj, Yj (by omega), <- hdl] at hrl;have S4 : Same H3 (upd H3 ru (.lst (rl.map fun r => V.ref r.1))) := Same.upd (Same.refl _) hru;have u4 : upd H3 ru (.lst (rl.map fun r => V.ref r.1)) ru = some (.lst (rl.map fun r => V.ref r.1)) := zc;generalize upd H3 ru (.lst (rl.map fun r => V.ref r.1)) = H4 at *;have hW4 := hW2.mono (S3.trans S4);have hll : ls.length - 1 < ls.length := by omega
      have el : ls[ls.length - 1]? = some ls[ls.length - 1] := Zb hll;have hb := hW4.row _ _ _ el (by rw [hn]; exact hlx);have aL : atI (ls.map V.ref) (-1) = some (V.ref ls[ls.length - 1]) := oj (k := 1) (by decide) (by rw [Za]; omega) (by rw [Za, Ze, el]; rfl);generalize ls[ls.length - 1] = bl at *;have S14 := S12.trans (S3.trans S4)
      have lrl : rl.length = css.length - 1 := by
        have := congrArg List.length hrl;rw [Za, Za, Za, YH] at this;exact this.symm
      refine ⟨l, rfl, _, .of hW4.at', _, aL, p, o, h, bl, hs, outs, ds, lw, rfl, hH.mono S14, hb, fun z hz => ⟨by decide, fun tz htz => ?_⟩, fun hz => q1 (fun ⟨cls, zz, _, _, l', e1, e2⟩ => ?_) H4 S14⟩
      . have S5 : Same H4 (upd H4 tz (.tup [V.non, V.str z])) := Same.upd (Same.refl _) htz
        have u5 : upd H4 tz (.tup [V.non, V.str z]) tz = some (.tup [V.non, V.str z]) := zc;generalize upd H4 tz (.tup [V.non, V.str z]) = H5 at *;refine ⟨by decide, fun lz hlz => ?_⟩;have S6 : Same H5 (upd H5 lz (.lst [V.ref tz])) := Same.upd (Same.refl _) hlz;have u6 : upd H5 lz (.lst [V.ref tz]) lz = some (.lst [V.ref tz]) := zc;generalize upd H5 lz (.lst [V.ref tz]) = H6 at *;refine ⟨_, (S5.trans S6) _ _ u4, _, u6, ?_, fun r hr' => ?_⟩
        . rw [Za, lrl]
          exact Zd (show css.length - 1 + 1 <= 100 by omega) (by decide)
        have S7 : Same H6 (upd H6 r (.lst ((rl.map fun r => V.ref r.1) ++ [V.ref tz]))) := Same.upd (Same.refl _) hr';refine q0 (rl.map fun r => r.2) z ⟨hf, hrl, lw, hlw, hz⟩ _ r (S14.trans (S5.trans (S6.trans S7))) ⟨rl, tz, zc, rfl, fun c hc' => ?_, (S6.trans S7) _ _ u5⟩;obtain ⟨x5, h5, h6⟩ := hR c hc';have S37 := S4.trans (S5.trans (S6.trans S7));exact ⟨x5, S37 _ _ h5, h6.mono S37⟩
      . rw [hlw] at e1
        cases e1;rw [hz] at e2;cases e2
end
section
variable {c c' : TT} {A rest : TS} {D : Ends} {σ : L2.St} {H : Hp} {i : Nat} {x n : Int} {b : Bool}
theorem ya (hc : ∀ Q : Bool -> Hp -> Prop, Q false H -> c σ H Q) (h : rest D σ H) : tSeq (tIfS c A ku) rest D σ H := hc _ (by rw [if_neg (by simp)]; exact h)
theorem v0 (hc : ∀ Q : Bool -> Hp -> Prop, Q true H -> c σ H Q) (h : ∀ T : TS, T = rest -> A { D with nx := T D } σ H) : tSeq (tIfS c A ku) rest D σ H := hc _ (by rw [if_pos rfl]; exact h rest rfl)
theorem yi (hv : σ[i]? = some (some (V.int x))) (e : ¬ x = n) (Q : Bool -> Hp -> Prop) (h : Q false H) : mt (tOp rEq (tVar i) (tC (V.int n))) σ H Q := by
  refine ⟨_, hv, rfl, false, ?_, h⟩;rw [decide_eq_false (fun z => e (V.int.inj z))]
theorem pj (hv : σ[i]? = some (some (V.int x))) (e : x = n) (Q : Bool -> Hp -> Prop) (h : Q true H) : mt (tOp rEq (tVar i) (tC (V.int n))) σ H Q := by
  refine ⟨_, hv, rfl, true, ?_, h⟩;rw [decide_eq_true (by rw [e])]
theorem tt_gt (hv : σ[i]? = some (some (V.int x))) (e : decide (n < x) = b) (Q : Bool -> Hp -> Prop) (h : Q b H) : mt (tOp (rI0 fun i j => V.bl (decide (j < i))) (tVar i) (tC (V.int n))) σ H Q := ⟨_, hv, x, n, rfl, rfl, b, congrArg V.bl e, h⟩
theorem ee {B : TS} (h : ∀ A' B' : TS, A' = A -> B' = B -> c σ H fun b H1 => if b = true then A' D σ H1 else B' D σ H1) : tIfS c A B D σ H := h A B rfl rfl
theorem my (h : ∀ T : TS, T = rest -> c σ H fun b H1 => if b = true then A { D with nx := T D } σ H1 else T D σ H1) : tSeq (tIfS c A ku) rest D σ H := h rest rfl
end
def spHas : Sp := fun vs H Q _ => ∃ (b : Addr) (xs : List HX) (ds : List HD) (z : Str), vs = [.ref b, .str z] /\ HandsL H b xs ds /\ ds.length <= 4 /\ ∀ H', Same H H' -> Q (.bl (decide (∃ d ∈ ds, z ∈ d.words))) H'
def dh : Sp := fun vs H Q _ => ∃ (b : Addr) (xs : List HX) (ds : List HD) (nm z : Str), vs = [.ref b, .str nm, .str z] /\ HandsL H b xs ds /\ ds.length <= 4 /\ ∀ H', Same H H' -> Q (.bl (decide (∃ d ∈ ds, d.name = nm /\ z ∈ d.words))) H'
def l8 (H : Hp) (ds : List HD) (p : HD -> Prop) (i : Nat) (ys : List V) (H' : Hp) : Prop := H' = H /\ ys.length <= i /\ (0 < ys.length ↔ ∃ d ∈ ds.take i, p d)
theorem gw {ds : List HD} {p : HD -> Prop} {i : Nat} {ys : List V} {d : HD} {H : Hp} (h : l8 H ds p i ys H) (e : ds[i]? = some d) : (p d -> ∀ v, l8 H ds p (i + 1) (ys ++ [v]) H) /\ (¬ p d -> l8 H ds p (i + 1) ys H) := by
  obtain ⟨_, h1, h2⟩ := h;refine ⟨fun hp v => ⟨rfl, by rw [Zo, ZS]; omega, ?_⟩, fun hp => ⟨rfl, by omega, ?_⟩⟩
  . rw [Zo, ZS, Zq, e]
    exact ⟨fun _ => ⟨d, by simp, hp⟩, fun _ => by omega⟩
  . rw [h2, Zq, e]
    constructor
    . rintro ⟨d', h3, h4⟩
      exact ⟨d', ZR _ h3, h4⟩
    . rintro ⟨d', h3, h4⟩
      rcases ZH.mp h3 with h3 | h3
      . exact ⟨d', h3, h4⟩
      . have : d' = d := by simpa using h3
        rw [this] at h4;exact absurd h4 hp
def gq : Sp := fun vs H Q _ => ∃ (b l : Addr) (xs : List HX) (outs : List Str) (ds : List HD) (ws : List Str), vs = [.ref b, .ref l] /\ HandsL H b xs ds /\ GoodHouse outs ds /\ H l = some (.lst (ws.map V.str)) /\ ws ≠ [] /\ ws.length <= 60 /\
  ∀ H' v, Same H H' -> (mp ds 101 1 (ws.drop 1) = none -> v = .non) -> (∀ r, mp ds 101 1 (ws.drop 1) = some r -> ∃ l', v = .ref l' /\ H' l' = some (.lst (r.map V.str))) -> Q v H'
section
variable {P : Program} {w : World} {K : Fg} {mg : Str -> Option Value} {base : Heap} {a : Ad}
theorem ny (B : Bt mg) (D : zl K mg "_law_has" q8 ["hands", "word"]) : FnAt P w K mg base "_law_has" 1 ["hands", "word"] spHas := by
  refine FnAt.of D bn (fun vs H Q E h => ?_) (fun f cdv A outer s H vs Q E hr h => ?_)
  . obtain ⟨b, xs, ds, z, rfl, _⟩ := h
    rfl
  . obtain ⟨b, xs, ds, z, rfl, hh, h4, q⟩ := h
    refine ⟨_, (@zh _ _ _ (@zt _ _ _ _ (@xy _ _ _ _ _ _ _ _ rq (zq zv rfl B.len yc (za (yr ["hand"] ["hands", "word"] rfl (@yo _ _ _ _ (pv 0)) (fun _ => (z6 (i := 0) (show (["hand", "hands", "word"] : List Str).Nodup by decide +kernel) rfl (Or.inl rfl))) (fun _ => (@cu _ _ _ (@zw _ _ _ _ _ _ _ _ sm (pv 2) (@zr _ _ _ _ _ _ _ z9 (pv 0) (@zd _ _ _ _) (fun _ _ => rfl)) (by with_unfolding_all rfl)))) (fun _ => (pv 0)) rfl (by decide +kernel) rfl rfl) (@zb _))) (@zd _ _ _ _) (z0 _)))), ?_⟩;rw [show start ["hands", "word"] [V.ref b, V.str z] = [some (V.ref b), some (V.str z)] from rfl];simp only [zk, zj, ↓reduceIte];refine ⟨⟨_, .of hh.at'⟩, fun dd => ?_⟩;refine ye (xs := xs.map fun x => V.ref x.t) (l8 H ds fun d => z ∈ d.words) ⟨rfl, Zm _, by simp⟩ ?_ ?_ ?_
    . rintro i ys H2 hi ⟨rfl, h1, _⟩
      rw [Za, hh.len] at hi;exact ⟨Zd (show ys.length <= 4 by omega) (by decide), .of hh.at'⟩
    . rintro i x ys H2 hx P2
      obtain ⟨rfl, _, _⟩ := id P2;obtain ⟨x', hx', rfl⟩ := yk hx;have hi : i < ds.length := by have := (Zc.mp hx').1; have := hh.len; omega
      have ed : ds[i]? = some ds[i] := Zb hi;have A2 := hh.hand i x' _ hx' ed;obtain ⟨st1, st2⟩ := gw P2 ed;simp only [zk, zj, ↓reduceIte];refine ⟨_, .of A2.tup, _, zn (j := 1) rfl, x'.w, rfl, _, .inl (.of A2.words), rfl, wm _, ?_⟩
      by_cases hz : z ∈ ds[i].words
      . rw [xx hz]; exact ite2 (fun _ => st1 hz _) (fun y => absurd (by simp) y)
      . rw [xl hz]; exact ite2 (fun y => absurd y (by simp)) (fun _ => st2 hz)
    . rintro ys H2 ⟨rfl, h1, h2⟩ l hl
      rw [Za, hh.len, Zt] at h2;refine ⟨_, .inl (.of zc), ?_⟩
      have e : decide ((0 : Int) < ys.length) = decide (∃ d ∈ ds, z ∈ d.words) := by
        apply decide_eq_decide.mpr
        rw [<- h2];omega
      rw [e];exact q _ (Same.upd (Same.refl _) hl)
theorem o4 (B : Bt mg) (D : zl K mg "_law_says" rp ["hands", "name", "word"]) : FnAt P w K mg base "_law_says" 1 ["hands", "name", "word"] dh := by
  refine FnAt.of D dc (fun vs H Q E h => ?_) (fun f cdv A outer s H vs Q E hr h => ?_)
  . obtain ⟨b, xs, ds, nm, z, rfl, _⟩ := h
    rfl
  . obtain ⟨b, xs, ds, nm, z, rfl, hh, h4, q⟩ := h
    refine ⟨_, (@zh _ _ _ (@zt _ _ _ _ (@xy _ _ _ _ _ _ _ _ rq (zq zv rfl B.len yc (za (yr ["hand"] ["hands", "name", "word"] rfl (@yo _ _ _ _ (pv 0)) (fun _ => (z6 (i := 0) (show (["hand", "hands", "name", "word"] : List Str).Nodup by decide +kernel) rfl (Or.inl rfl))) (fun _ => (@cu _ _ _ (PW.pt (@vi _ _ _ _ _ _ _ (@zw _ _ _ _ _ _ _ _ y9 (@zr _ _ _ _ _ _ _ z9 (pv 0) (@zd _ _ _ _) (fun _ _ => rfl)) (pv 2) (z0 _)) (@qe _ _ _ _ (@zw _ _ _ _ _ _ _ _ sm (pv 3) (@zr _ _ _ _ _ _ _ z9 (pv 0) (@zd _ _ _ _) (fun _ _ => rfl)) (by with_unfolding_all rfl))))))) (fun _ => (pv 0)) rfl (by decide +kernel) rfl rfl) (@zb _))) (@zd _ _ _ _) (z0 _)))), ?_⟩;rw [show start ["hands", "name", "word"] [V.ref b, V.str nm, V.str z] = [some (V.ref b), some (V.str nm), some (V.str z)] from rfl];simp only [zk, zj, ↓reduceIte];refine ⟨⟨_, .of hh.at'⟩, fun dd => ?_⟩;refine ye (xs := xs.map fun x => V.ref x.t) (l8 H ds fun d => d.name = nm /\ z ∈ d.words) ⟨rfl, Zm _, by simp⟩ ?_ ?_ ?_
    . rintro i ys H2 hi ⟨rfl, h1, _⟩
      rw [Za, hh.len] at hi;exact ⟨Zd (show ys.length <= 4 by omega) (by decide), .of hh.at'⟩
    . rintro i x ys H2 hx P2
      obtain ⟨rfl, _, _⟩ := id P2;obtain ⟨x', hx', rfl⟩ := yk hx;have hi : i < ds.length := by have := (Zc.mp hx').1; have := hh.len; omega
      have ed : ds[i]? = some ds[i] := Zb hi;have A2 := hh.hand i x' _ hx' ed;obtain ⟨st1, st2⟩ := gw P2 ed;simp only [zk, zj, ↓reduceIte];refine ⟨_, .of A2.tup, _, zn (j := 0) rfl, rfl, ?_⟩
      by_cases hn : ds[i].name = nm
      . rw [decide_eq_true (by rw [hn])]
        refine iteT ⟨_, .of A2.tup, _, zn (j := 1) rfl, x'.w, rfl, _, .inl (.of A2.words), rfl, wm _, ?_⟩
        by_cases hz : z ∈ ds[i].words
        . rw [xx hz]; exact ite2 (fun _ => st1 ⟨hn, hz⟩ _) (fun y => absurd (by simp) y)
        . rw [xl hz]; exact ite2 (fun y => absurd y (by simp)) (fun _ => st2 fun y => hz y.2)
      . rw [decide_eq_false (fun y => hn (V.str.inj y))]
        exact iteF (iteF (st2 fun y => hn y.1))
    . rintro ys H2 ⟨rfl, h1, h2⟩ l hl
      rw [Za, hh.len, Zt] at h2;refine ⟨_, .inl (.of zc), ?_⟩
      have e : decide ((0 : Int) < ys.length) = decide (∃ d ∈ ds, d.name = nm /\ z ∈ d.words) := by
        apply decide_eq_decide.mpr
        rw [<- h2];omega
      rw [e];exact q _ (Same.upd (Same.refl _) hl)
end
def th3 (T : List Str) : List Str := T.take 3 ++ [Str.ofString "", Str.ofString "", Str.ofString ""]
theorem th3_at (T : List Str) : (th3 T)[0]? = some (T.getD 0 (Str.ofString "")) /\ (th3 T)[1]? = some (T.getD 1 (Str.ofString "")) /\ (th3 T)[2]? = some (T.getD 2 (Str.ofString "")) := by
  rcases T with _ | ⟨x, _ | ⟨y, _ | ⟨z, r⟩⟩⟩ <;> exact ⟨rfl, rfl, rfl⟩
theorem cut3 {ws : List Str} {pl : Nat} (h : pl <= ws.length) : cutV (ws.map V.str) (some (pl : Int)) (some ((pl : Int) + 3)) = ((ws.drop pl).take 3).map V.str := by
  unfold cutV;rw [show (pl : Int) + 3 = ((pl + 3 : Nat) : Int) by omega, HT.sIx_nat, HT.sIx_nat, Za, Yj h, <- Ym, <- Yh]
  congr 1
  by_cases h3 : pl + 3 <= ws.length
  . rw [Yj h3]; congr 1; omega
  . rw [Nat.min_eq_right (by omega), ZG (by rw [ZO]; omega), ZG (by rw [ZO]; omega)]
theorem d9 {z : Str} (h : GoodN z) : z ≠ Str.ofString "" := fun e => by
  have := h.1;rw [e] at this;exact absurd this (by decide +kernel)
theorem gt {T : List Str} (h : T.getD 0 (Str.ofString "") ≠ Str.ofString "") (h2 : T.getD 2 (Str.ofString "") ≠ Str.ofString "") : ∃ r, T = T.getD 0 (Str.ofString "") :: T.getD 1 (Str.ofString "") :: T.getD 2 (Str.ofString "") :: r := by
  rcases T with _ | ⟨x, _ | ⟨y, _ | ⟨z, r⟩⟩⟩
  . exact absurd rfl h
  . exact absurd rfl h2
  . exact absurd rfl h2
  . exact ⟨r, rfl⟩
section
variable {ds : List HD} {outs : List Str} {T : List Str} {wn : Nat}
theorem zcv (G : GoodHouse outs ds) (h0 : T.getD 0 (Str.ofString "") = Str.ofString "says") (h : ∃ d ∈ ds, d.name = T.getD 1 (Str.ofString "") /\ T.getD 2 (Str.ofString "") ∈ d.words) : mp ds 101 (wn + 1) T = mp ds 101 wn (T.drop 3) /\ 3 <= T.length := by
  obtain ⟨d, hd, e1, e2⟩ := h;obtain ⟨r, hr⟩ := gt (by rw [h0]; decide +kernel) (d9 (G.wordsG d hd _ e2));rw [h0] at hr;generalize T.getD 1 (Str.ofString "") = nm at *;generalize T.getD 2 (Str.ofString "") = z at *;subst hr;refine ⟨?_, by simp⟩;rw [mp, prs, if_pos rfl]
  show (mq ds (nm :: z :: r)).bind _ = _
  rw [show mq ds (nm :: z :: r) = some (.says ((ds.map HD.name).idxOf nm) z, r) from if_pos ⟨d, hd, e1, e2⟩];rfl
theorem bw (h0 : T.getD 0 (Str.ofString "") = Str.ofString "says") (h : ¬ ∃ d ∈ ds, d.name = T.getD 1 (Str.ofString "") /\ T.getD 2 (Str.ofString "") ∈ d.words) : mp ds 101 (wn + 1) T = none := by
  rcases T with _ | ⟨x, t⟩
  . exact absurd h0 (by decide +kernel)
  . obtain rfl : x = Str.ofString "says" := h0
    rw [mp, prs, if_pos rfl]
    rcases t with _ | ⟨y, _ | ⟨z, r⟩⟩
    . rfl
    . rfl
    . rw [show mq ds (y :: z :: r) = none from if_neg h]
      rfl
theorem zci (G : GoodHouse outs ds) (h0 : T.getD 0 (Str.ofString "") = Str.ofString "count") (hf : (figN (T.getD 1 (Str.ofString ""))).isSome = true) (h : ∃ d ∈ ds, T.getD 2 (Str.ofString "") ∈ d.words) : mp ds 101 (wn + 1) T = mp ds 101 wn (T.drop 3) /\ 3 <= T.length := by
  obtain ⟨d, hd, e2⟩ := h;obtain ⟨r, hr⟩ := gt (by rw [h0]; decide +kernel) (d9 (G.wordsG d hd _ e2));rw [h0] at hr;generalize T.getD 1 (Str.ofString "") = nm at *;generalize T.getD 2 (Str.ofString "") = z at *;subst hr;obtain ⟨n, hn⟩ := ZT.mp hf;refine ⟨?_, by simp⟩;rw [mp, prs, if_neg (by decide +kernel), if_pos rfl]
  rw [show ma ds (nm :: z :: r) = some (.count n z, r) by
    show (figN nm).bind _ = _
    rw [hn, ZN, if_pos ⟨d, hd, e2⟩]]
  rfl
theorem de (h0 : T.getD 0 (Str.ofString "") = Str.ofString "count") (h : ¬ ((figN (T.getD 1 (Str.ofString ""))).isSome = true /\ ∃ d ∈ ds, T.getD 2 (Str.ofString "") ∈ d.words)) : mp ds 101 (wn + 1) T = none := by
  rcases T with _ | ⟨x, t⟩
  . exact absurd h0 (by decide +kernel)
  . obtain rfl : x = Str.ofString "count" := h0
    rw [mp, prs, if_neg (by decide +kernel), if_pos rfl]
    rcases t with _ | ⟨y, _ | ⟨z, r⟩⟩
    . rfl
    . rfl
    . have : ma ds (y :: z :: r) = none := by
        show (figN y).bind _ = none
        cases hn : figN y with
        | none => rfl
        | some n =>
          have h' : ¬ ∃ d ∈ ds, z ∈ d.words := fun hz => h ⟨by show (figN y).isSome = true; rw [hn]; rfl, hz⟩
          rw [ZN, if_neg h']
      rw [this];rfl
theorem mp_not (nd : (ds.map HD.name).Nodup) (hl : T.length <= 60) (h0 : T.getD 0 (Str.ofString "") = Str.ofString "not") : mp ds 101 (wn + 1) T = mp ds 101 (wn + 1) (T.drop 1) /\ 1 <= T.length := by
  rcases T with _ | ⟨x, t⟩
  . exact absurd h0 (by decide +kernel)
  . obtain rfl : x = Str.ofString "not" := h0
    refine ⟨?_, by simp⟩;have e := vt nd (ws := t) (n := 100) (by simp only [ZL] at hl; omega)
    show _ = mp ds 101 (wn + 1) t
    rw [mp, mp, prs, if_neg (by decide +kernel), if_neg (by decide +kernel), if_pos rfl, e];cases prs ds 100 t <;> rfl
theorem mp_two (nd : (ds.map HD.name).Nodup) (hl : T.length <= 60) (h0 : T.getD 0 (Str.ofString "") = Str.ofString "and" \/ T.getD 0 (Str.ofString "") = Str.ofString "or") : mp ds 101 (wn + 1) T = mp ds 101 (wn + 2) (T.drop 1) /\ 1 <= T.length := by
  rcases T with _ | ⟨x, t⟩
  . rcases h0 with h0 | h0 <;> exact absurd h0 (by decide +kernel)
  . have e := vt nd (ws := t) (n := 100) (by simp only [ZL] at hl; omega)
    have e2 : ∀ x, prs ds 100 t = some x -> prs ds 101 x.2 = prs ds 100 x.2 := fun x hx => vt nd (by have := oa nd hx; simp only [ZL] at hl; omega)
    refine ⟨?_, by simp⟩
    show _ = mp ds 101 (wn + 2) t
    rw [mp, mp, e]
    rcases h0 with h0 | h0
    . obtain rfl : x = Str.ofString "and" := h0
      rw [prs, if_neg (by decide +kernel), if_neg (by decide +kernel), if_neg (by decide +kernel), if_pos rfl]
      cases hx : prs ds 100 t with
      | none => rfl
      | some x =>
        rw [ZN, ZN, mp, e2 x hx];cases prs ds 100 x.2 <;> rfl
    . obtain rfl : x = Str.ofString "or" := h0
      rw [prs, if_neg (by decide +kernel), if_neg (by decide +kernel), if_neg (by decide +kernel), if_neg (by decide +kernel), if_pos rfl]
      cases hx : prs ds 100 t with
      | none => rfl
      | some x =>
        rw [ZN, ZN, mp, e2 x hx];cases prs ds 100 x.2 <;> rfl
theorem zdb (h1 : T.getD 0 (Str.ofString "") ≠ Str.ofString "says") (h2 : T.getD 0 (Str.ofString "") ≠ Str.ofString "count") (h3 : T.getD 0 (Str.ofString "") ≠ Str.ofString "not") (h4 : T.getD 0 (Str.ofString "") ≠ Str.ofString "and") (h5 : T.getD 0 (Str.ofString "") ≠ Str.ofString "or") : mp ds 101 (wn + 1) T = none := by
  rcases T with _ | ⟨x, t⟩
  . rfl
  . have g : (x :: t).getD 0 (Str.ofString "") = x := rfl
    rw [g] at h1 h2 h3 h4 h5;rw [mp, prs, if_neg h1, if_neg h2, if_neg h3, if_neg h4, if_neg h5];rfl
end
def Wb67 (b l : Addr) (H : Hp) (ws : List Str) (ds : List HD) (m : Nat) (σ : L2.St) (H' : Hp) : Prop := ∃ (pl wn : Nat) (v : Option V), Same H H' /\ σ = [some (.ref b), some (.ref l), some (.int pl), some (.int wn), v] /\ pl <= ws.length /\ mp ds 101 wn (ws.drop pl) = mp ds 101 1 (ws.drop 1) /\ m = ws.length - pl
section
variable {P : Program} {w : World} {K : Fg} {mg : Str -> Option Value} {base : Heap} {a : Ad}
theorem qt (B : Bt mg) (ny : FnAt P w K mg base "_law_has" 1 ["hands", "word"] spHas) (o4 : FnAt P w K mg base "_law_says" 1 ["hands", "name", "word"] dh) (D : zl K mg "_law_behind" uq ["hands", "words"]) : FnAt P w K mg base "_law_behind" 2 ["hands", "words"] gq := by
  refine FnAt.of D sc_law_behind (fun vs H Q E h => ?_) (fun f cdv A outer s H vs Q E hr h => ?_)
  . obtain ⟨b, l, xs, outs, ds, ws, rfl, _⟩ := h
    rfl
  . obtain ⟨b, l, xs, outs, ds, ws, rfl, hh, G, hl, hne, h60, q⟩ := h
    refine ⟨_, (@zg _ _ _ _ _ (zu (i := 2) sc_law_behind.nd rfl (Or.inl rfl) (@zd _ _ _ _)) (@zg _ _ _ _ _ (zu (i := 3) sc_law_behind.nd rfl (Or.inl rfl) (@zd _ _ _ _)) (@zg _ _ _ _ _ (@zby _ _ _ _ _ _ PassesOwn.never (@zw _ _ _ _ _ _ _ _ rq (pv 3) (@zd _ _ _ _) (z0 _)) (@zg _ _ _ _ _ (zu (i := 4) sc_law_behind.nd rfl (Or.inl rfl) (@zm _ _ _ _ _ _ _ _ xn (@yu _ _ _ _ _ _ _ _ _ _ wf (pv 1) (@yw _ _ _ (pv 2)) (@yw _ _ _ (@zm _ _ _ _ _ _ _ _ yg (pv 2) (@zd _ _ _ _)))) (@yd _ _ _ _ (za (@zp _ _ _ _) (za (@zp _ _ _ _) (za (@zp _ _ _ _) (@zb _))))))) (@zh _ _ _ (@yb _ _ _ _ _ _ _ _ (PW.pt (@vi _ _ _ _ _ _ _ (@zw _ _ _ _ _ _ _ _ y9 (@zr _ _ _ _ _ _ _ z4 (pv 4) (@zd _ _ _ _) (fun _ _ => rfl)) (@zp _ _ _ _) (z0 _)) (@qe _ _ _ _ (xq (zo o4 (hr.mono (by decide)) rfl (za (pv 0) (za (@zr _ _ _ _ _ _ _ z4 (pv 4) (@zd _ _ _ _) (fun _ _ => rfl)) (za (@zr _ _ _ _ _ _ _ z4 (pv 4) (@zd _ _ _ _) (fun _ _ => rfl)) (@zb _))))))))) (@zg _ _ _ _ _ (zu (i := 2) sc_law_behind.nd rfl (Or.inl rfl) (@zm _ _ _ _ _ _ _ _ yg (pv 2) (@zd _ _ _ _))) (@zh _ _ _ (zu (i := 3) sc_law_behind.nd rfl (Or.inl rfl) (@zm _ _ _ _ _ _ _ _ mj (pv 3) (@zd _ _ _ _))))) (@zh _ _ _ (@yb _ _ _ _ _ _ _ _ (PW.pt (@vi _ _ _ _ _ _ _ (@zw _ _ _ _ _ _ _ _ y9 (@zr _ _ _ _ _ _ _ z4 (pv 4) (@zd _ _ _ _) (fun _ _ => rfl)) (@zp _ _ _ _) (z0 _)) (@vi _ _ _ _ _ _ _ (@zw _ _ _ _ _ _ _ _ sm (@zr _ _ _ _ _ _ _ z4 (pv 4) (@zd _ _ _ _) (fun _ _ => rfl)) (@yd _ _ _ _ (za (@zp _ _ _ _) (za (@zp _ _ _ _) (za (@zp _ _ _ _) (za (@zp _ _ _ _) (@zb _)))))) (by with_unfolding_all rfl)) (@qe _ _ _ _ (xq (zo ny (hr.mono (by decide)) rfl (za (pv 0) (za (@zr _ _ _ _ _ _ _ z4 (pv 4) (@zd _ _ _ _) (fun _ _ => rfl)) (@zb _))))))))) (@zg _ _ _ _ _ (zu (i := 2) sc_law_behind.nd rfl (Or.inl rfl) (@zm _ _ _ _ _ _ _ _ yg (pv 2) (@zd _ _ _ _))) (@zh _ _ _ (zu (i := 3) sc_law_behind.nd rfl (Or.inl rfl) (@zm _ _ _ _ _ _ _ _ mj (pv 3) (@zd _ _ _ _))))) (@zh _ _ _ (@yb _ _ _ _ _ _ _ _ (@zw _ _ _ _ _ _ _ _ sm (@zr _ _ _ _ _ _ _ z4 (pv 4) (@zd _ _ _ _) (fun _ _ => rfl)) (@yd _ _ _ _ (za (@zp _ _ _ _) (za (@zp _ _ _ _) (za (@zp _ _ _ _) (@zb _))))) (by with_unfolding_all rfl)) (@zg _ _ _ _ _ (zu (i := 2) sc_law_behind.nd rfl (Or.inl rfl) (@zm _ _ _ _ _ _ _ _ yg (pv 2) (@zd _ _ _ _))) (@zh _ _ _ (zu (i := 3) sc_law_behind.nd rfl (Or.inl rfl) (@zm _ _ _ _ _ _ _ _ yg (pv 3) (y8 zbh rfl B.int gf (za (@xy _ _ _ _ _ _ _ _ uy (@zr _ _ _ _ _ _ _ z4 (pv 4) (@zd _ _ _ _) (fun _ _ => rfl)) (@zp _ _ _ _) (z0 _)) (@zb _))))))) (@zh _ _ _ (@zt _ _ _ _ (@uo _ _ _))))))))))) (@zh _ _ _ (@zt _ _ _ _ (@yu _ _ _ _ _ _ _ _ _ _ wf (pv 1) (@yw _ _ _ (pv 2)) (@xa _))))))), ?_⟩;rw [show start ["hands", "words", "place", "wanted", "three"] [V.ref b, V.ref l] = [some (V.ref b), some (V.ref l), none, none, none] from rfl];refine aw fun T hT => ?_
    simp only [zk, zj, ↓reduceIte];have h1 : 1 <= ws.length := Ye.mpr hne;have h4 := G.hands.2;rw [hT];clear hT T;refine ⟨Wb67 b l H ws ds, ⟨_, 1, 1, none, Same.refl _, rfl, h1, rfl, rfl⟩, ?_⟩
    rintro m σ H1 ⟨pl, wn, v, S1, rfl, hpl, hmp, rfl⟩
    cases wn with
    | zero =>
      refine tt_gt rfl rfl _ ?_;rw [decide_eq_false (by omega)];refine iteF ?_;simp only [zk, zj, ↓reduceIte];refine ⟨_, .of (S1 _ _ hl), fun p hp => ?_⟩;rw [v6 (by rw [Za]; exact hpl), <- Ym];have s2 : Same H1 (upd H1 p (.lst ((ws.drop pl).map V.str))) := Same.upd (Same.refl _) hp;exact q _ _ (S1.trans s2) (fun e => by rw [<- hmp] at e; cases e) (fun r e => by rw [<- hmp] at e; cases e; exact ⟨p, rfl, zc⟩)
    | succ wn =>
      refine tt_gt rfl rfl _ ?_;rw [decide_eq_true (by omega)];refine iteT ⟨fun σ' H' => ∃ m', m' < ws.length - pl /\ Wb67 b l H ws ds m' σ' H', fun σ' H' h => h, ?_⟩;refine k7 fun T hT => ?_
      simp only [zk, zj, ↓reduceIte];refine ⟨_, .of (S1 _ _ hl), fun p hp => ⟨by decide, fun p1 hp1 => ?_⟩⟩;rw [cut3 hpl] at hp1 ⊢;have s2 : Same H1 (upd H1 p (.lst (((ws.drop pl).take 3).map V.str))) := Same.upd (Same.refl _) hp;have c2 : upd H1 p (.lst (((ws.drop pl).take 3).map V.str)) p = some (.lst (((ws.drop pl).take 3).map V.str)) := zc;generalize upd H1 p (.lst (((ws.drop pl).take 3).map V.str)) = H2 at *;have s3 : Same H2 (upd H2 p1 (.lst [V.str (Str.ofString ""), V.str (Str.ofString ""), V.str (Str.ofString "")])) := Same.upd (Same.refl _) hp1;have c3 : upd H2 p1 (.lst [V.str (Str.ofString ""), V.str (Str.ofString ""), V.str (Str.ofString "")]) p1 = some (.lst [V.str (Str.ofString ""), V.str (Str.ofString ""), V.str (Str.ofString "")]) := zc;generalize upd H2 p1 (.lst [V.str (Str.ofString ""), V.str (Str.ofString ""), V.str (Str.ofString "")]) = H3 at *;refine ⟨_, s3 _ _ c2, _, c3, by rw [Za, Zj]; exact Zd (show min 3 _ + 3 <= 6 by omega) (by decide), fun p2 hp2 => ?_⟩;have s4 : Same H3 (upd H3 p2 (.lst (((ws.drop pl).take 3).map V.str ++ [V.str (Str.ofString ""), V.str (Str.ofString ""), V.str (Str.ofString "")]))) := Same.upd (Same.refl _) hp2;have c4 : upd H3 p2 (.lst (((ws.drop pl).take 3).map V.str ++ [V.str (Str.ofString ""), V.str (Str.ofString ""), V.str (Str.ofString "")])) p2 = some (.lst ((th3 (ws.drop pl)).map V.str)) := by rw [zc, th3, Zn]; rfl
      generalize upd H3 p2 (.lst (((ws.drop pl).take 3).map V.str ++ [V.str (Str.ofString ""), V.str (Str.ofString ""), V.str (Str.ofString "")])) = H4 at *;have S4 := S1.trans (s2.trans (s3.trans s4));clear s2 s3 s4 c2 c3 hp hp1 hp2 S1;rw [hT];clear hT T;obtain ⟨t0, t1, t2⟩ := th3_at (ws.drop pl);generalize th3 (ws.drop pl) = th at *;have hTl : (ws.drop pl).length <= 60 := by rw [ZO]; omega
      have lT : (ws.drop pl).length = ws.length - pl := ZO;have none_ : ∀ H5, Same H H5 -> mp ds 101 (wn + 1) (ws.drop pl) = none -> Q .non H5 := fun H5 S5 e => q _ _ S5 (fun _ => rfl) (fun r e' => by rw [<- hmp, e] at e'; cases e')
      have next_ : ∀ (H5 : Hp) (j wn' : Nat), Same H H5 -> 1 <= j -> j <= (ws.drop pl).length -> mp ds 101 (wn + 1) (ws.drop pl) = mp ds 101 wn' ((ws.drop pl).drop j) -> ∃ m', m' < ws.length - pl /\ Wb67 b l H ws ds m' [some (.ref b), some (.ref l), some (.int ((pl + j : Nat) : Int)), some (.int (wn' : Int)), some (.ref p2)] H5 := fun H5 j wn' S5 j1 jl e => ⟨ws.length - (pl + j), by omega, pl + j, wn', _, S5, rfl, by omega, by rw [<- hmp, e, Yw], rfl⟩
      have x0 : atI (th.map V.str) 0 = some (V.str ((ws.drop pl).getD 0 (Str.ofString ""))) := zn (j := 0) (by rw [Ze, t0]; rfl);have x1 : atI (th.map V.str) 1 = some (V.str ((ws.drop pl).getD 1 (Str.ofString ""))) := zn (j := 1) (by rw [Ze, t1]; rfl);have x2 : atI (th.map V.str) 2 = some (V.str ((ws.drop pl).getD 2 (Str.ofString ""))) := zn (j := 2) (by rw [Ze, t2]; rfl);generalize hT0 : (ws.drop pl).getD 0 (Str.ofString "") = y0 at *;generalize hT1 : (ws.drop pl).getD 1 (Str.ofString "") = y1 at *;generalize hT2 : (ws.drop pl).getD 2 (Str.ofString "") = y2 at *;refine ee fun A1 B1 hA1 hB1 => ?_
      have B1p : ∀ (D : Ends) (H5 : Hp), (D.nx = fun σ' H' => ∃ m', m' < ws.length - pl /\ Wb67 b l H ws ds m' σ' H') -> D.rt = Q -> Same H H5 -> H5 p2 = some (.lst (th.map V.str)) -> ¬ (y0 = Str.ofString "says" /\ ∃ d ∈ ds, d.name = y1 /\ y2 ∈ d.words) -> B1 D [some (V.ref b), some (V.ref l), some (V.int pl), some (V.int ((wn + 1 : Nat) : Int)), some (V.ref p2)] H5 := by
        intro D H5 hN hQ S5 c5 no1;rw [hB1];refine ee fun A2 B2 hA2 hB2 => ?_
        have B2p : ∀ (H5 : Hp), Same H H5 -> H5 p2 = some (.lst (th.map V.str)) -> ¬ (y0 = Str.ofString "count" /\ (figN y1).isSome = true /\ ∃ d ∈ ds, y2 ∈ d.words) -> B2 D [some (V.ref b), some (V.ref l), some (V.int pl), some (V.int ((wn + 1 : Nat) : Int)), some (V.ref p2)] H5 := by
          intro H5 S5 c5 no2;rw [hB2];refine ee fun A3 B3 hA3 hB3 => ?_
          simp only [zk, zj, ↓reduceIte];refine ⟨_, .of c5, _, x0, by decide, fun p hp => ⟨_, .inl (.of zc), rfl, rfl, ?_⟩⟩;have s6 : Same H5 (upd H5 p (.lst [V.str (Str.ofString "not"), V.str (Str.ofString "and"), V.str (Str.ofString "or")])) := Same.upd (Same.refl _) hp;generalize upd H5 p (.lst [V.str (Str.ofString "not"), V.str (Str.ofString "and"), V.str (Str.ofString "or")]) = H6 at *;have S6 := S5.trans s6;have c6 := s6 _ _ c5;rw [show [V.str (Str.ofString "not"), V.str (Str.ofString "and"), V.str (Str.ofString "or")] = [Str.ofString "not", Str.ofString "and", Str.ofString "or"].map V.str from rfl]
          by_cases k3 : y0 ∈ [Str.ofString "not", Str.ofString "and", Str.ofString "or"]
          . rw [xx k3]
            refine ite2 (fun _ => ?_) (fun z => absurd (by simp) z);rw [hA3];simp only [zk, zj, ↓reduceIte];refine ⟨_, .of c6, _, x0, rfl, .inr ?_⟩;rw [hN];have k3' : y0 = Str.ofString "not" \/ y0 = Str.ofString "and" \/ y0 = Str.ofString "or" := by simpa using k3
            rcases k3' with k | k
            . obtain ⟨e1, e2⟩ := mp_not (ds := ds) (wn := wn) (T := ws.drop pl) G.handsD hTl (by rw [hT0]; exact k)
              have := next_ H6 1 (wn + 1) S6 (by decide) e2 e1;rw [decide_eq_true (by rw [k])];exact this
            . obtain ⟨e1, e2⟩ := mp_two (ds := ds) (wn := wn) (T := ws.drop pl) G.handsD hTl (by rw [hT0]; exact k)
              have := next_ H6 1 (wn + 2) S6 (by decide) e2 e1
              rw [decide_eq_false (fun z => by
                have z := V.str.inj z;rw [z] at k
                revert k
                decide +kernel)]
              exact this
          . rw [xl k3]
            refine ite2 (fun z => absurd z (by simp)) (fun _ => ?_);rw [hB3];simp only [zk, zj, ↓reduceIte];rw [hQ];refine none_ H6 S6 ?_;have k3' : y0 ≠ Str.ofString "not" /\ y0 ≠ Str.ofString "and" /\ y0 ≠ Str.ofString "or" := by simpa using k3
            by_cases k1 : y0 = Str.ofString "says"
            . exact bw (by rw [hT0]; exact k1) (by rw [hT1, hT2]; exact fun z => no1 ⟨k1, z⟩)
            . by_cases k2 : y0 = Str.ofString "count"
              . exact de (by rw [hT0]; exact k2) (by rw [hT1, hT2]; exact fun z => no2 ⟨k2, z⟩)
              . exact zdb (by rw [hT0]; exact k1) (by rw [hT0]; exact k2) (by rw [hT0]; exact k3'.1) (by rw [hT0]; exact k3'.2.1) (by rw [hT0]; exact k3'.2.2)
        simp only [zk, zj, ↓reduceIte];refine ⟨_, .of c5, _, x0, rfl, ?_⟩
        by_cases k2 : y0 = Str.ofString "count"
        . rw [decide_eq_true (by rw [k2])]
          refine iteT ⟨_, .of c5, _, x1, by decide, fun p hp => ⟨_, .inl (.of zc), rfl, rfl, ?_⟩⟩;have s6 : Same H5 (upd H5 p (.lst [V.str (Str.ofString "1"), V.str (Str.ofString "2"), V.str (Str.ofString "3"), V.str (Str.ofString "4")])) := Same.upd (Same.refl _) hp;generalize upd H5 p (.lst [V.str (Str.ofString "1"), V.str (Str.ofString "2"), V.str (Str.ofString "3"), V.str (Str.ofString "4")]) = H6 at *;have S6 := S5.trans s6;rw [zaw]
          cases hf : (figN y1).isSome with
          | false => exact ite2 (fun z => absurd z (by simp)) (fun _ => iteF (B2p H6 S6 (s6 _ _ c5) (fun z => by rw [hf] at z; cases z.2.1)))
          | true =>
            refine ite2 (fun _ => ⟨_, .of (s6 _ _ c5), _, x2, b, xs, ds, _, rfl, hh.mono S6, h4, fun H7 S7 => ⟨_, rfl, ?_⟩⟩) (fun z => absurd (by simp) z)
            by_cases hs : ∃ d ∈ ds, y2 ∈ d.words
            . rw [decide_eq_true hs]
              refine iteT ?_;obtain ⟨e1, e2⟩ := zci (wn := wn) (T := ws.drop pl) G (by rw [hT0]; exact k2) (by rw [hT1]; exact hf) (by rw [hT2]; exact hs);rw [hA2];simp only [zk, zj, ↓reduceIte];rw [hN];have := next_ H7 3 wn (S6.trans S7) (by decide) e2 e1;rw [show ((wn + 1 : Nat) : Int) - 1 = (wn : Int) by omega];exact this
            . rw [decide_eq_false hs]
              exact iteF (B2p H7 (S6.trans S7) (S7 _ _ (s6 _ _ c5)) (fun z => hs z.2.2))
        . rw [decide_eq_false (fun z => k2 (V.str.inj z))]
          exact iteF (iteF (B2p H5 S5 c5 (fun z => k2 z.1)))
      simp only [zk, zj, ↓reduceIte];refine ⟨_, .of c4, _, x0, rfl, ?_⟩
      by_cases k1 : y0 = Str.ofString "says"
      . rw [decide_eq_true (by rw [k1])]
        refine iteT ⟨_, .of c4, _, x1, _, .of c4, _, x2, b, xs, ds, _, _, rfl, hh.mono S4, h4, fun H5 S5 => ⟨_, rfl, ?_⟩⟩
        by_cases hs : ∃ d ∈ ds, d.name = y1 /\ y2 ∈ d.words
        . rw [decide_eq_true hs]
          refine iteT ?_;obtain ⟨e1, e2⟩ := zcv (wn := wn) (T := ws.drop pl) G (by rw [hT0]; exact k1) (by rw [hT1, hT2]; exact hs);rw [hA1];simp only [zk, zj, ↓reduceIte];have := next_ H5 3 wn (S4.trans S5) (by decide) e2 e1;rw [show ((wn + 1 : Nat) : Int) - 1 = (wn : Int) by omega];exact this
        . rw [decide_eq_false hs]
          exact iteF (B1p _ H5 rfl rfl (S4.trans S5) (S5 _ _ c4) (fun z => hs z.2))
      . rw [decide_eq_false (fun z => k1 (V.str.inj z))]
        exact iteF (iteF (B1p _ H4 rfl rfl S4 c4 (fun z => k1 z.1)))
end
def cj (K : Fg) : Sp := fun vs H Q _ => ∃ (o b : Addr) (y : V) (outs : List Str) (xs : List HX) (ds : List HD), vs = [.ref o, .ref b, y] /\ H o = some (.lst (outs.map V.str)) /\ HandsL H b xs ds /\ GoodHouse outs ds /\
  (((∃ T, TyOf K H y (.type T) /\ kit0 T "str" = some false) /\ ∀ H', Same H H' -> Q (.bl false) H') \/ ∃ z : Str, y = .str z /\ z.length <= 30000 /\ ∀ H' b', Same H H' -> (b' = true ↔ ∃ cls zz, RuleOf ds outs (csT z) cls zz) -> Q (.bl b') H')
def okAt (ds : List HD) (outs : List Str) (css : List (List Str)) (j : Nat) : Prop := ∃ ws, css[j]? = some ws /\ ws.length <= 40 /\ (j + 1 < css.length -> (pcl ds outs ws).isSome = true) /\ (¬ j + 1 < css.length -> (pdl outs ws).isSome = true)
theorem zbr {ds : List HD} {outs : List Str} {css : List (List Str)} (hne : css ≠ []) : (∃ cls zz, RuleOf ds outs css cls zz) ↔ css.length <= 20 /\ ∀ j < css.length, okAt ds outs css j := by
  have hpos : 0 < css.length := Ye.mpr hne;obtain ⟨lw, hlw, hlx⟩ := kh hne;have hdl : css.dropLast = css.take (css.length - 1) := List.dropLast_eq_take
  constructor
  . rintro ⟨cls, zz, hf, hm, l, hl, hz⟩
    refine ⟨hf.1, fun j hj => ⟨css[j], Zb hj, hf.2 _ (Zl hj), fun h => ?_, fun h => ?_⟩⟩
    . have : css[j] ∈ css.dropLast := by
        rw [hdl];exact Zi (i := j) (by rw [ZU (by omega), Zb hj])
      obtain ⟨c, _, e⟩ := md hm this;rw [e]; rfl
    . have e : j = css.length - 1 := by omega
      subst e;rw [Zb hj] at hlx;cases hlx;rw [hlw] at hl;cases hl;rw [hz]; rfl
  . rintro ⟨h20, h⟩
    have hfine : fine css := ⟨h20, fun cs hcs => by
      obtain ⟨j, hj⟩ := Yl hcs;obtain ⟨ws, e, h40, _⟩ := h j (Zc.mp hj).1;rw [hj] at e;cases e
      exact h40⟩
    obtain ⟨cls, hcls⟩ := dj (ds := ds) (outs := outs) (css := css.dropLast) fun ws hws => by
      rw [hdl] at hws;obtain ⟨j, hj⟩ := Yl hws;have lj := (Zc.mp hj).1;rw [Zj] at lj;rw [ZU (by omega)] at hj;obtain ⟨ws', e, _, h1, _⟩ := h j (by omega);rw [hj] at e;cases e;exact h1 (by omega)
    obtain ⟨ws, e, _, _, h2⟩ := h (css.length - 1) (by omega);rw [hlx] at e;cases e;obtain ⟨zz, hz⟩ := ZT.mp (h2 (by omega));exact ⟨cls, zz, hfine, hcls, lw, hlw, hz⟩
theorem pcl_mp {ds : List HD} {outs ws : List Str} (nd : (ds.map HD.name).Nodup) (h40 : ws.length <= 40) (hw : ws.head? = some (Str.ofString "when")) : (mp ds 101 1 (ws.drop 1) = none -> (pcl ds outs ws).isSome = false) /\ ∀ r, mp ds 101 1 (ws.drop 1) = some r -> (pcl ds outs ws).isSome = (pdl outs r).isSome := by
  rcases ws with _ | ⟨x, t⟩
  . cases hw
  . obtain rfl : x = Str.ofString "when" := by simpa using hw
    have e := cy nd (ws := t) (n := 41) (by simp only [ZL] at h40; omega) 60
    show (mp ds 101 1 t = none -> _) /\ ∀ r, mp ds 101 1 t = some r -> _
    rw [show pcl ds outs (Str.ofString "when" :: t) = (prs ds 41 t).bind fun x => (pdl outs x.2).map fun z => (x.1, z) by unfold pcl; exact if_pos rfl, mp, e]
    cases prs ds 41 t with
    | none => exact ⟨fun _ => rfl, fun r h => by cases h⟩
    | some x =>
      refine ⟨fun h => (by cases h), fun r h => ?_⟩;cases h
      show ((pdl outs x.2).map _).isSome = _
      rw [Option.isSome_map]
def PvGo (H : Hp) (st : L2.St) (ds : List HD) (outs : List Str) (css : List (List Str)) (i : Nat) (σ : L2.St) (H' : Hp) : Prop := Same H H' /\ (∀ j < i, okAt ds outs css j) /\ ∃ v1 v2 : Option V, σ = st ++ [v1, v2]
section
variable {P : Program} {w : World} {K : Fg} {mg : Str -> Option Value} {base : Heap} {a : Ad}
theorem o9 (B : Bt mg) (qt : FnAt P w K mg base "_law_behind" 2 ["hands", "words"] gq) (D : zl K mg "_law_good" rh ["outcomes", "hands", "text"]) : FnAt P w K mg base "_law_good" 3 ["outcomes", "hands", "text"] (cj K) := by
  refine FnAt.of D sc_law_good (fun vs H Q E h => ?_) (fun f cdv A outer s H vs Q E hr h => ?_)
  . obtain ⟨o, b, y, outs, xs, ds, rfl, _⟩ := h
    rfl
  . obtain ⟨o, b, y, outs, xs, ds, rfl, ho, hh, G, hx⟩ := h
    refine ⟨_, (@zg _ _ _ _ _ (@yb _ _ _ _ _ _ _ _ (@xp _ _ _ _ (xq (zq xc rfl B.isinstance yj (za (pv 2) (za (ur rfl B.str me) (@zb _)))))) (@zh _ _ _ (@zt _ _ _ _ (@xr _ _ _ _))) (@z5 _)) (@zg _ _ _ _ _ (zu (i := 3) sc_law_good.nd rfl (Or.inl rfl) (x9 PySem.F.plainAttrs_str PySem.F.slot_str_split PySem.F.type_str_split qj (pv 2) (za (@zp _ _ _ _) (@zb _)))) (@zg _ _ _ _ _ (@yb _ _ _ _ _ _ _ _ (@zw _ _ _ _ _ _ _ _ rq (zq zv rfl B.len yc (za (pv 3) (@zb _))) (@zd _ _ _ _) (z0 _)) (@zh _ _ _ (@zt _ _ _ _ (@xr _ _ _ _))) (@z5 _)) (@zg _ _ _ _ _ (sf PassesOwn.never rfl (tw rfl B.range (za (zq zv rfl B.len yc (za (pv 3) (@zb _))) (@zb _))) (z6 (i := 4) sc_law_good.nd rfl (Or.inl rfl)) (@zg _ _ _ _ _ (zu (i := 5) sc_law_good.nd rfl (Or.inl rfl) (x9 PySem.F.plainAttrs_str PySem.F.slot_str_split PySem.F.type_str_split qj (@zr _ _ _ _ _ _ _ z4 (pv 3) (pv 4) (fun _ _ => rfl)) (za (@zp _ _ _ _) (@zb _)))) (@zg _ _ _ _ _ (@yb _ _ _ _ _ _ _ _ (@zw _ _ _ _ _ _ _ _ rq (zq zv rfl B.len yc (za (pv 5) (@zb _))) (@zd _ _ _ _) (z0 _)) (@zh _ _ _ (@zt _ _ _ _ (@xr _ _ _ _))) (@z5 _)) (@zg _ _ _ _ _ (@yb _ _ _ _ _ _ _ _ (@zw _ _ _ _ _ _ _ _ pb (pv 4) (@zm _ _ _ _ _ _ _ _ mj (zq zv rfl B.len yc (za (pv 3) (@zb _))) (@zd _ _ _ _)) (z0 _)) (@zg _ _ _ _ _ (@yb _ _ _ _ _ _ _ _ (@zw _ _ _ _ _ _ _ _ uy (@zr _ _ _ _ _ _ _ z4 (pv 5) (@zd _ _ _ _) (fun _ _ => rfl)) (@zp _ _ _ _) (z0 _)) (@zh _ _ _ (@zt _ _ _ _ (@xr _ _ _ _))) (@z5 _)) (@zh _ _ _ (zu (i := 5) sc_law_good.nd rfl (Or.inl rfl) (zo qt (hr.mono (by decide)) rfl (za (pv 1) (za (pv 5) (@zb _))))))) (@z5 _)) (@zh _ _ _ (@yb _ _ _ _ _ _ _ _ (PW.pt (@vc _ _ _ _ _ _ _ (@zw _ _ _ _ _ _ _ _ fb (pv 5) (@uo _ _ _) (z0 _)) (@vc _ _ _ _ _ _ _ (@zw _ _ _ _ _ _ _ _ uy (zq zv rfl B.len yc (za (pv 5) (@zb _))) (@zd _ _ _ _) (z0 _)) (@vc _ _ _ _ _ _ _ (@zw _ _ _ _ _ _ _ _ uy (@zr _ _ _ _ _ _ _ z4 (pv 5) (@zd _ _ _ _) (fun _ _ => rfl)) (@zp _ _ _ _) (z0 _)) (@ve _ _ _ _ (@zw _ _ _ _ _ _ _ _ wz (@zr _ _ _ _ _ _ _ z4 (pv 5) (@zd _ _ _ _) (fun _ _ => rfl)) (pv 0) (by with_unfolding_all rfl))))))) (@zh _ _ _ (@zt _ _ _ _ (@xr _ _ _ _))) (@z5 _))))))) (@zh _ _ _ (@zt _ _ _ _ (@xr _ _ _ _))))))), ?_⟩;rw [show start ["outcomes", "hands", "text", "pieces", "k", "words"] [V.ref o, V.ref b, y] = [some (V.ref o), some (V.ref b), some y, none, none, none] from rfl];refine my fun T hT => ?_
    simp only [zk, zj, ↓reduceIte]
    rcases hx with ⟨⟨T', t1, t2⟩, q⟩ | ⟨z, rfl, hz, q⟩
    . exact ⟨_, t1, false, t2, iteT (q _ (Same.refl _))⟩
    refine ⟨_, .str _, true, jm, iteF ?_⟩;rw [hT];clear hT T;refine k7 fun T hT => ?_
    simp only [zk, zj, ↓reduceIte];have big : (30001 : Nat) <= sizeLine := by decide
    have hps := sv z (Str.ofString "; ") (by decide +kernel);refine ⟨rfl, by decide +kernel, by omega, by omega, fun l hl => ?_⟩;have hcs : csT z = (Txt.split z (Str.ofString "; ")).map fun p => Txt.split p (Str.ofString " ") := rfl
    have hsh : ∀ p ∈ Txt.split z (Str.ofString "; "), p.length <= z.length := fun p hp => p7 hp
    have hcn := ff z;have hri := zbr (ds := ds) (outs := outs) hcn;generalize csT z = css at *;generalize Txt.split z (Str.ofString "; ") = ps at *;have lcs : css.length = ps.length := by rw [hcs, Za]
    have S1 : Same H (upd H l (.lst (ps.map V.str))) := Same.upd (Same.refl _) hl;have u1 : upd H l (.lst (ps.map V.str)) l = some (.lst (ps.map V.str)) := zc;generalize upd H l (.lst (ps.map V.str)) = H1 at *;have no : ∀ {H' : Hp} {j : Nat}, Same H1 H' -> j < css.length -> ¬ okAt ds outs css j -> Q (.bl false) H' := fun S hj hno => q _ false (S1.trans S) ⟨fun e => (by cases e), fun h => absurd ((hri.mp h).2 _ hj) hno⟩
    rw [hT];clear hT T;refine my fun T hT => ?_
    simp only [zk, zj, ↓reduceIte];refine ⟨_, .inl (.of u1), ?_⟩;rw [Za, <- lcs];refine ite2 (fun y => q _ false S1 ⟨fun e => (by cases e), fun h => ?_⟩) (fun y => ?_)
    . have := (hri.mp h).1
      have := of_decide_eq_true y;omega
    have h20 : css.length <= 20 := by
      have : ¬ (20 : Int) < css.length := fun z => y (decide_eq_true z)
      omega
    rw [hT];clear hT T;refine k7 fun T hT => ?_
    simp only [zk, zj, ↓reduceIte];refine ⟨_, .inl (.of u1), by omega, by rw [Za]; omega, ?_⟩;rw [Za, <- lcs, Zw];refine nt (PvGo H1 [some (V.ref o), some (V.ref b), some (V.str z), some (V.ref l)] ds outs css) ⟨Same.refl _, fun j hj => by omega, _, _, rfl⟩ ?_ ?_
    . rintro i σ H2 hi ⟨S2, ok, v1, v2, rfl⟩
      simp only [Yd, YJ];obtain ⟨pc, hpc⟩ : ∃ pc, ps[i]? = some pc := ⟨ps[i]'(by omega), Zb _⟩;have hci : css[i]? = some (Txt.split pc (Str.ofString " ")) := by rw [hcs, Ze, hpc]; rfl
      have hlen := hsh pc (Zi hpc);have hw := sv pc (Str.ofString " ") (by decide +kernel);have hwn := qk pc (Str.ofString " ");simp only [e_gName, YT, List.set_cons_zero, Int.zero_add];refine k7 fun T1 hT1 => ?_
      simp only [zk, zj, ↓reduceIte];refine ⟨_, .of (S2 _ _ u1), _, zn (v := V.str pc) (by rw [Ze, hpc]; rfl), rfl, pc, rfl, by decide +kernel, by omega, by omega, fun l2 hl2 => ?_⟩;have S3 : Same H2 (upd H2 l2 (.lst ((Txt.split pc (Str.ofString " ")).map V.str))) := Same.upd (Same.refl _) hl2;have u3 : upd H2 l2 (.lst ((Txt.split pc (Str.ofString " ")).map V.str)) l2 = some (.lst ((Txt.split pc (Str.ofString " ")).map V.str)) := zc;generalize upd H2 l2 (.lst ((Txt.split pc (Str.ofString " ")).map V.str)) = H3 at *;generalize Txt.split pc (Str.ofString " ") = ws at *;have S13 := S2.trans S3;have okI : okAt ds outs css i ↔ ws.length <= 40 /\ (i + 1 < css.length -> (pcl ds outs ws).isSome = true) /\ (¬ i + 1 < css.length -> (pdl outs ws).isSome = true) := ⟨fun ⟨ws', e, h⟩ => by rw [hci] at e; cases e; exact h, fun h => ⟨ws, hci, h⟩⟩;rw [hT1];clear hT1 T1;refine my fun T2 hT2 => ?_
      simp only [zk, zj, ↓reduceIte];refine ⟨_, .inl (.of u3), ?_⟩;rw [Za];refine ite2 (fun y => no S13 hi (fun h => ?_)) (fun y => ?_)
      . have := (okI.mp h).1
        have := of_decide_eq_true y;omega
      have h40 : ws.length <= 40 := by
        have : ¬ (40 : Int) < ws.length := fun z => y (decide_eq_true z)
        omega
      rw [hT2];clear hT2 T2;refine my fun T3 hT3 => ?_
      have last : ∀ (D : Ends) (H5 : Hp) (v : V), D.nx = PvGo H1 [some (V.ref o), some (V.ref b), some (V.str z), some (V.ref l)] ds outs css (i + 1) -> D.rt = Q -> Same H1 H5 -> ((v = .non /\ ¬ okAt ds outs css i) \/ ∃ l5 r, v = .ref l5 /\ H5 l5 = some (.lst (r.map V.str)) /\ ((pdl outs r).isSome = true -> okAt ds outs css i) /\ ((pdl outs r).isSome = false -> ¬ okAt ds outs css i)) -> T3 D [some (V.ref o), some (V.ref b), some (V.str z), some (V.ref l), some (V.int i), some v] H5 := by
        intro D H5 v hN hQ S5 hv;rw [hT3];simp only [zk, zj, ↓reduceIte];have bad : ¬ okAt ds outs css i -> D.rt (V.bl false) H5 := fun hno => by rw [hQ]; exact no S5 hi hno
        rcases hv with ⟨rfl, hno⟩ | ⟨l5, r, rfl, h5, g1, g2⟩
        . exact iteT (bad hno)
        refine ite2 (fun z => absurd (of_decide_eq_true z) (fun z => by cases z)) (fun _ => ⟨l5, rfl, _, .inl (.of h5), rfl, ?_⟩);rw [Za]
        by_cases hl : r.length = 2
        . rw [decide_eq_true (by omega)]
          refine iteF ⟨l5, rfl, _, .of h5, ?_⟩
          match r, hl, h5, g1, g2 with
          | [x, y], _, h5, g1, g2 =>
            refine ⟨_, zn (j := 0) rfl, rfl, ?_⟩
            by_cases k1 : x = Str.ofString "deal"
            . rw [decide_eq_true (by rw [k1])]
              refine iteF ⟨l5, rfl, _, .of h5, _, zn (j := 1) rfl, _, .inl (.of ((S1.trans S5) _ _ ho)), rfl, wm _, ?_⟩
              by_cases k2 : y ∈ outs
              . rw [xx k2]
                refine iteF ?_;rw [hN];have hI := g1 (by rw [show pdl outs [x, y] = some y by unfold pdl; exact if_pos ⟨k1, k2⟩]; rfl)
                exact ⟨S5, fun j hj => by
                  by_cases e : j = i
                  . rw [e]; exact hI
                  . exact ok j (by omega), _, _, rfl⟩
              . rw [xl k2]
                exact iteT (bad (g2 (by rw [show pdl outs [x, y] = none by unfold pdl; exact if_neg fun z => k2 z.2]; rfl)))
            . rw [decide_eq_false (fun z => k1 (V.str.inj z))]
              exact iteT (bad (g2 (by rw [show pdl outs [x, y] = none by unfold pdl; exact if_neg fun z => k1 z.1]; rfl)))
        . rw [decide_eq_false (by omega)]
          refine iteT (bad (g2 ?_))
          rcases r with _ | ⟨x, _ | ⟨y, _ | ⟨z, r⟩⟩⟩
          . rfl
          . rfl
          . exact absurd rfl hl
          . rfl
      simp only [zk, zj, ↓reduceIte];refine ⟨_, .inl (.of (S13 _ _ u1)), ?_⟩;rw [Za, <- lcs]
      obtain ⟨w0, t, hwt⟩ : ∃ x t, ws = x :: t := by
        cases ws with
        | nil => exact absurd rfl hwn
        | cons x t => exact ⟨x, t, rfl⟩
      by_cases hil : i + 1 < css.length
      . rw [decide_eq_true (by omega)]
        refine iteT ⟨_, .of u3, V.str w0, zn (j := 0) (by rw [hwt]; rfl), rfl, ?_⟩
        by_cases k1 : w0 = Str.ofString "when"
        . rw [decide_eq_true (by rw [k1])]
          obtain ⟨m1, m2⟩ := pcl_mp (outs := outs) G.handsD h40 (ws := ws) (by rw [hwt, k1]; rfl);refine iteF ⟨b, l2, xs, outs, ds, ws, rfl, hh.mono (S1.trans S13), G, u3, hwn, by omega, fun H5 v S5 v1 v2 => last _ H5 v rfl rfl (S13.trans S5) ?_⟩
          cases hm : mp ds 101 1 (ws.drop 1) with
          | none => exact .inl ⟨v1 hm, fun h => by have := (okI.mp h).2.1 hil; rw [m1 hm] at this; cases this⟩
          | some r =>
            obtain ⟨l', e, hl'⟩ := v2 r hm;refine .inr ⟨l', r, e, hl', fun g => okI.mpr ⟨h40, fun _ => by rw [m2 r hm]; exact g, fun z => absurd hil z⟩, fun g h => ?_⟩;have := (okI.mp h).2.1 hil;rw [m2 r hm, g] at this;cases this
        . rw [decide_eq_false (fun z => k1 (V.str.inj z))]
          refine iteT (no S13 hi fun h => ?_);have := (okI.mp h).2.1 hil;rw [hwt, show pcl ds outs (w0 :: t) = none by unfold pcl; exact if_neg k1] at this;cases this
      . rw [decide_eq_false (by omega)]
        refine iteF (last _ H3 _ rfl rfl S13 (.inr ⟨l2, ws, rfl, u3, fun g => okI.mpr ⟨h40, fun z => absurd z hil, fun _ => g⟩, fun g h => ?_⟩));have := (okI.mp h).2.2 hil;rw [g] at this;cases this
    . rintro σ H2 ⟨S2, ok, v1, v2, rfl⟩
      rw [hT];exact q _ true (S1.trans S2) ⟨fun _ => hri.mpr ⟨h20, ok⟩, fun _ => rfl⟩
end
def wgt (ws : List Str) : Nat := (ws.map fun p => p.length + 1).sum
theorem i5 : ∀ (ws : List Str) (a : Nat), ws.foldl (fun a p => a + p.length + 1) a = a + wgt ws
  | [], a => by simp [wgt]
  | x :: ws, a => by
    rw [Xb, i5 ws, wgt, wgt, ZM, Yn];omega
theorem nu : (Str.ofString " ").length = 1 := by decide +kernel
theorem rk {ws : List Str} (h : wgt ws <= 1000000) : JoinOk (Str.ofString " ") ws = true := by
  unfold JoinOk;rw [<- Array.foldl_toList, YQ, nu, i5];unfold Builtin.Str.tooLong;have big : 1000000 <= sizeLine := by decide
  rw [decide_eq_false (by omega)];rfl
theorem qh : ∀ (ws : List Str), (Str.join (Str.ofString " ") ws).length <= wgt ws
  | [] => by rw [show (Str.join (Str.ofString " ") []).length = 0 from rfl]; exact ZE _
  | [x] => by show x.length <= _; simp [wgt]
  | x :: y :: ws => by
    show (x ++ Str.ofString " " ++ Str.join (Str.ofString " ") (y :: ws)).length <= _
    have := qh (y :: ws);rw [Str.length_append, Str.length_append, nu];unfold wgt at *;rw [ZM, Yn];omega
theorem g0 : ∀ {ws : List Str}, ws ≠ [] -> wgt ws = (Str.join (Str.ofString " ") ws).length + 1
  | [], h => absurd rfl h
  | [x], _ => by show _ = x.length + 1; simp [wgt]
  | x :: y :: ws, _ => by
    show _ = (x ++ Str.ofString " " ++ Str.join (Str.ofString " ") (y :: ws)).length + _
    have := g0 (ws := y :: ws) (by simp);rw [Str.length_append, Str.length_append, nu];unfold wgt at *;rw [ZM, Yn];omega
theorem zau (t : Str) : wgt (Txt.split t (Str.ofString " ")) = t.length + 1 := by
  rw [g0 (qk _ _), uf]
theorem qa (xs ys : List Str) : wgt (xs ++ ys) = wgt xs + wgt ys := by simp [wgt]
theorem jh (ws : List Str) (k : Nat) : wgt (ws.take k) + wgt (ws.drop k) = wgt ws := by rw [<- qa, YF]
theorem zbs (ws : List Str) (k : Nat) : wgt (ws.drop (k + 1)) <= wgt (ws.drop k) := by
  have := jh (ws.drop k) 1;rw [Yw] at this;omega
theorem ju (w : Str) : ∀ (ws : List Str) (k : Nat), wgt (ws.set k w) <= wgt ws + (w.length + 1)
  | [], _ => by simp [wgt]
  | x :: ws, 0 => by simp [wgt]; omega
  | x :: ws, k + 1 => by
    have := ju w ws k;unfold wgt at *;rw [YT, ZM, ZM, Yn, Yn];omega
def bg (K : Fg) (H : Hp) (v : V) : Prop := ∃ T, TyOf K H v (.type T) /\ kit0 T "str" = some false
def ge (K : Fg) : Sp := fun vs H Q _ => ∃ (t : Str) (c : Int), vs = [.str t, .int c] /\ t.length <= 8000 /\ ∀ H' v, Same H H' -> ((∃ z : Str, v = .str z /\ z.length <= 30000) \/ bg K H' v) -> Q v H'
theorem kitS67 : kit0 "NoneType" "str" = some false /\ kit0 "int" "str" = some false /\ kit0 "bool" "str" = some false /\ kit0 "list" "str" = some false /\ kit0 "tuple" "str" = some false /\ kit0 "dict" "str" = some false := by decide +kernel
def some12 : List Str := [Str.ofString "when", Str.ofString "deal", Str.ofString "says", Str.ofString "count", Str.ofString "not", Str.ofString "and", Str.ofString "or", Str.ofString "5", Str.ofString "0", Str.ofString "01", Str.ofString "x", Str.ofString "deal;"]
theorem zdx (c : Int) : ∃ wk : Str, atI [V.str (Str.ofString "when"), V.str (Str.ofString "deal"), V.str (Str.ofString "says"), V.str (Str.ofString "count"), V.str (Str.ofString "not"), V.str (Str.ofString "and"), V.str (Str.ofString "or"), V.str (Str.ofString "5"), V.str (Str.ofString "0"), V.str (Str.ofString "01"), V.str (Str.ofString "x"), V.str (Str.ofString "deal;")] (c % 12) = some (V.str wk) /\ wk.length <= 8 := by
  have h := yp c (show (0 : Int) < 12 by decide);obtain ⟨j, hj⟩ : ∃ j : Nat, c % 12 = j := ⟨(c % 12).toNat, by omega⟩;rw [hj] at h ⊢;have hl : ∀ z ∈ some12, z.length <= 8 := by decide +kernel
  have hj12 : j < some12.length := by show j < 12; omega
  exact ⟨some12[j], zn (show (some12.map V.str)[j]? = _ by rw [Ze, Zb hj12]; rfl), hl _ (Zl _)⟩
section
variable {P : Program} {w : World} {K : Fg} {mg : Str -> Option Value} {base : Heap} {a : Ad}
theorem sy (B : Bt mg) (D : zl K mg "_law_spoiled" ze ["text", "cell"]) : FnAt P w K mg base "_law_spoiled" 1 ["text", "cell"] (ge K) := by
  refine FnAt.of D sc_law_spoiled (fun vs H Q E h => ?_) (fun f cdv A outer s H vs Q E hr h => ?_)
  . obtain ⟨t, c, rfl, _⟩ := h
    rfl
  . obtain ⟨t, c, rfl, ht, q⟩ := h
    have s15 : PS ((cxOf CX0 P w K mg base ["text", "cell", "number", "way", "place", "signs", "sign", "words", "k", "some"] "_law_spoiled" (zf ze) f cdv A outer s H E).nox) ((zx ze).getD 15 (.Pass ⟨0, 0, 0, 0⟩)) _ := (@zt _ _ _ _ (x9 PySem.F.plainAttrs_str PySem.F.slot_str_join PySem.F.type_str_join oh (@zp _ _ _ _) (za (pv 7) (@zb _))));have b15 : PSs (cxOf CX0 P w K mg base ["text", "cell", "number", "way", "place", "signs", "sign", "words", "k", "some"] "_law_spoiled" (zf ze) f cdv A outer s H E).nox ((zx ze).drop 15) _ := (@c7 _ _ _ _ _ @s15 rfl rfl);have s14 : PS ((cxOf CX0 P w K mg base ["text", "cell", "number", "way", "place", "signs", "sign", "words", "k", "some"] "_law_spoiled" (zf ze) f cdv A outer s H E).nox) ((zx ze).getD 14 (.Pass ⟨0, 0, 0, 0⟩)) _ := (@yb _ _ _ _ _ _ _ _ (@zw _ _ _ _ _ _ _ _ y9 (pv 3) (@zd _ _ _ _) (z0 _)) (@zh _ _ _ (@zt _ _ _ _ (@zr _ _ _ _ _ _ _ z4 (@yd _ _ _ _ (@za _ _ _ _ _ (@uo _ _ _) (@za _ _ _ _ _ (@zd _ _ _ _) (@za _ _ _ _ _ (@xr _ _ _ _) (@za _ _ _ _ _ (@yd _ _ _ _ (@za _ _ _ _ _ (pv 0) (@zb _) (zi nofun))) (@za _ _ _ _ _ (@yl _ _ _ _ _ (@za _ _ _ _ _ (pv 0) (@zb _) (zi nofun))) (@za _ _ _ _ _ (@zb6 _ _) (@za _ _ _ _ _ (@yu _ _ _ _ _ _ _ _ _ _ ss (pv 0) (@xa _) (@yw _ _ _ (pv 4))) (@za _ _ _ _ _ (@yu _ _ _ _ _ _ _ _ _ _ ss (pv 0) (@yw _ _ _ (pv 4)) (@xa _)) (@zb _) (zi nofun)) (zi nofun)) (zi nofun)) (zi nofun)) (zi nofun)) (zi nofun)) (zi nofun)) (zi nofun))) (@zm _ _ _ _ _ _ _ _ yf (@zm _ _ _ _ _ _ _ _ yn (pv 2) (@zd _ _ _ _)) (@zd _ _ _ _)) (fun _ _ => rfl)))) (@z5 _));have b14 : PSs (cxOf CX0 P w K mg base ["text", "cell", "number", "way", "place", "signs", "sign", "words", "k", "some"] "_law_spoiled" (zf ze) f cdv A outer s H E).nox ((zx ze).drop 14) _ := (@yv _ _ _ _ _ _ @s14 rfl @b15);have s13 : PS ((cxOf CX0 P w K mg base ["text", "cell", "number", "way", "place", "signs", "sign", "words", "k", "some"] "_law_spoiled" (zf ze) f cdv A outer s H E).nox) ((zx ze).getD 13 (.Pass ⟨0, 0, 0, 0⟩)) _ := (@yb _ _ _ _ _ _ _ _ (@zw _ _ _ _ _ _ _ _ y9 (pv 3) (@zd _ _ _ _) (z0 _)) (@zg _ _ _ _ _ (@zu _ _ 9 _ _ _ _ sc_law_spoiled.nd (by rfl) (by exact Or.inl rfl) (@yd _ _ _ _ (@za _ _ _ _ _ (@zp _ _ _ _) (@za _ _ _ _ _ (@zp _ _ _ _) (@za _ _ _ _ _ (@zp _ _ _ _) (@za _ _ _ _ _ (@zp _ _ _ _) (@za _ _ _ _ _ (@zp _ _ _ _) (@za _ _ _ _ _ (@zp _ _ _ _) (@za _ _ _ _ _ (@zp _ _ _ _) (@za _ _ _ _ _ (@zp _ _ _ _) (@za _ _ _ _ _ (@zp _ _ _ _) (@za _ _ _ _ _ (@zp _ _ _ _) (@za _ _ _ _ _ (@zp _ _ _ _) (@za _ _ _ _ _ (@zp _ _ _ _) (@zb _) (zi nofun)) (zi nofun)) (zi nofun)) (zi nofun)) (zi nofun)) (zi nofun)) (zi nofun)) (zi nofun)) (zi nofun)) (zi nofun)) (zi nofun)) (zi nofun))) (by rfl) (by first | exact Or.inl rfl | exact Or.inr rfl)) (@zh _ _ _ (kt (@zr _ _ _ _ _ _ _ z4 (pv 9) (@zm _ _ _ _ _ _ _ _ yf (@zm _ _ _ _ _ _ _ _ yn (pv 2) (@zd _ _ _ _)) (@zd _ _ _ _)) (fun _ _ => rfl)) (zbk (pv 7) (pv 8) fz)))) (@z5 _));have b13 : PSs (cxOf CX0 P w K mg base ["text", "cell", "number", "way", "place", "signs", "sign", "words", "k", "some"] "_law_spoiled" (zf ze) f cdv A outer s H E).nox ((zx ze).drop 13) _ := (@yv _ _ _ _ _ _ @s13 rfl @b14);have s12 : PS ((cxOf CX0 P w K mg base ["text", "cell", "number", "way", "place", "signs", "sign", "words", "k", "some"] "_law_spoiled" (zf ze) f cdv A outer s H E).nox) ((zx ze).getD 12 (.Pass ⟨0, 0, 0, 0⟩)) _ := (@yb _ _ _ _ _ _ _ _ (@zw _ _ _ _ _ _ _ _ y9 (pv 3) (@zd _ _ _ _) (z0 _)) (@zh _ _ _ (kt (@zr _ _ _ _ _ _ _ z4 (pv 7) (@zm _ _ _ _ _ _ _ _ yf (@zm _ _ _ _ _ _ _ _ yn (pv 2) (@zd _ _ _ _)) (zq zv rfl B.len yc (za (pv 7) (@zb _)))) (fun _ _ => rfl)) (zbk (pv 7) (pv 8) fz))) (@z5 _));have b12 : PSs (cxOf CX0 P w K mg base ["text", "cell", "number", "way", "place", "signs", "sign", "words", "k", "some"] "_law_spoiled" (zf ze) f cdv A outer s H E).nox ((zx ze).drop 12) _ := (@yv _ _ _ _ _ _ @s12 rfl @b13);have s11 : PS ((cxOf CX0 P w K mg base ["text", "cell", "number", "way", "place", "signs", "sign", "words", "k", "some"] "_law_spoiled" (zf ze) f cdv A outer s H E).nox) ((zx ze).getD 11 (.Pass ⟨0, 0, 0, 0⟩)) _ := (@yb _ _ _ _ _ _ _ _ (@zw _ _ _ _ _ _ _ _ y9 (pv 3) (@zd _ _ _ _) (z0 _)) (@zh _ _ _ (@zu _ _ 7 _ _ _ _ sc_law_spoiled.nd (by rfl) (by exact Or.inl rfl) (@zm _ _ _ _ _ _ _ _ xn (@zm _ _ _ _ _ _ _ _ xn (@yu _ _ _ _ _ _ _ _ _ _ wf (pv 7) (@xa _) (@yw _ _ _ (pv 8))) (@yd _ _ _ _ (za (@zr _ _ _ _ _ _ _ z4 (pv 7) (pv 8) (fun _ _ => rfl)) (@zb _)))) (@yu _ _ _ _ _ _ _ _ _ _ wf (pv 7) (@yw _ _ _ (pv 8)) (@xa _))) (by rfl) (by first | exact Or.inl rfl | exact Or.inr rfl))) (@z5 _));have b11 : PSs (cxOf CX0 P w K mg base ["text", "cell", "number", "way", "place", "signs", "sign", "words", "k", "some"] "_law_spoiled" (zf ze) f cdv A outer s H E).nox ((zx ze).drop 11) _ := (@yv _ _ _ _ _ _ @s11 rfl @b12);have s10 : PS ((cxOf CX0 P w K mg base ["text", "cell", "number", "way", "place", "signs", "sign", "words", "k", "some"] "_law_spoiled" (zf ze) f cdv A outer s H E).nox) ((zx ze).getD 10 (.Pass ⟨0, 0, 0, 0⟩)) _ := (@yb _ _ _ _ _ _ _ _ (@zw _ _ _ _ _ _ _ _ y9 (pv 3) (@zd _ _ _ _) (z0 _)) (@zh _ _ _ (@zu _ _ 7 _ _ _ _ sc_law_spoiled.nd (by rfl) (by exact Or.inl rfl) (@zm _ _ _ _ _ _ _ _ xn (@yu _ _ _ _ _ _ _ _ _ _ wf (pv 7) (@xa _) (@yw _ _ _ (pv 8))) (@yu _ _ _ _ _ _ _ _ _ _ wf (pv 7) (@yw _ _ _ (@zm _ _ _ _ _ _ _ _ yg (pv 8) (@zd _ _ _ _))) (@xa _))) (by rfl) (by first | exact Or.inl rfl | exact Or.inr rfl))) (@z5 _));have b10 : PSs (cxOf CX0 P w K mg base ["text", "cell", "number", "way", "place", "signs", "sign", "words", "k", "some"] "_law_spoiled" (zf ze) f cdv A outer s H E).nox ((zx ze).drop 10) _ := (@yv _ _ _ _ _ _ @s10 rfl @b11);have s9 : PS ((cxOf CX0 P w K mg base ["text", "cell", "number", "way", "place", "signs", "sign", "words", "k", "some"] "_law_spoiled" (zf ze) f cdv A outer s H E).nox) ((zx ze).getD 9 (.Pass ⟨0, 0, 0, 0⟩)) _ := (@yb _ _ _ _ _ _ _ _ (@zw _ _ _ _ _ _ _ _ y9 (pv 3) (@zd _ _ _ _) (z0 _)) (@zh _ _ _ (@zt _ _ _ _ (@zm _ _ _ _ _ _ _ _ x8 (@zm _ _ _ _ _ _ _ _ x8 (@yu _ _ _ _ _ _ _ _ _ _ ss (pv 0) (@xa _) (@yw _ _ _ (pv 4))) (pv 6)) (@yu _ _ _ _ _ _ _ _ _ _ ss (pv 0) (@yw _ _ _ (@zm _ _ _ _ _ _ _ _ yg (pv 4) (@zd _ _ _ _))) (@xa _))))) (@z5 _));have b9 : PSs (cxOf CX0 P w K mg base ["text", "cell", "number", "way", "place", "signs", "sign", "words", "k", "some"] "_law_spoiled" (zf ze) f cdv A outer s H E).nox ((zx ze).drop 9) _ := (@yv _ _ _ _ _ _ @s9 rfl @b10);have s8 : PS ((cxOf CX0 P w K mg base ["text", "cell", "number", "way", "place", "signs", "sign", "words", "k", "some"] "_law_spoiled" (zf ze) f cdv A outer s H E).nox) ((zx ze).getD 8 (.Pass ⟨0, 0, 0, 0⟩)) _ := (@yb _ _ _ _ _ _ _ _ (@zw _ _ _ _ _ _ _ _ y9 (pv 3) (@zd _ _ _ _) (z0 _)) (@zh _ _ _ (@zt _ _ _ _ (@zm _ _ _ _ _ _ _ _ x8 (@yu _ _ _ _ _ _ _ _ _ _ ss (pv 0) (@xa _) (@yw _ _ _ (pv 4))) (@yu _ _ _ _ _ _ _ _ _ _ ss (pv 0) (@yw _ _ _ (@zm _ _ _ _ _ _ _ _ yg (pv 4) (@zd _ _ _ _))) (@xa _))))) (@z5 _));have b8 : PSs (cxOf CX0 P w K mg base ["text", "cell", "number", "way", "place", "signs", "sign", "words", "k", "some"] "_law_spoiled" (zf ze) f cdv A outer s H E).nox ((zx ze).drop 8) _ := (@yv _ _ _ _ _ _ @s8 rfl @b9);have s7 : PS ((cxOf CX0 P w K mg base ["text", "cell", "number", "way", "place", "signs", "sign", "words", "k", "some"] "_law_spoiled" (zf ze) f cdv A outer s H E).nox) ((zx ze).getD 7 (.Pass ⟨0, 0, 0, 0⟩)) _ := (@yb _ _ _ _ _ _ _ _ (@zw _ _ _ _ _ _ _ _ y9 (pv 3) (@zd _ _ _ _) (z0 _)) (@zh _ _ _ (@zt _ _ _ _ (@zm _ _ _ _ _ _ _ _ x8 (@zm _ _ _ _ _ _ _ _ x8 (@yu _ _ _ _ _ _ _ _ _ _ ss (pv 0) (@xa _) (@yw _ _ _ (pv 4))) (pv 6)) (@yu _ _ _ _ _ _ _ _ _ _ ss (pv 0) (@yw _ _ _ (pv 4)) (@xa _))))) (@z5 _));have b7 : PSs (cxOf CX0 P w K mg base ["text", "cell", "number", "way", "place", "signs", "sign", "words", "k", "some"] "_law_spoiled" (zf ze) f cdv A outer s H E).nox ((zx ze).drop 7) _ := (@yv _ _ _ _ _ _ @s7 rfl @b8);have s6 : PS ((cxOf CX0 P w K mg base ["text", "cell", "number", "way", "place", "signs", "sign", "words", "k", "some"] "_law_spoiled" (zf ze) f cdv A outer s H E).nox) ((zx ze).getD 6 (.Pass ⟨0, 0, 0, 0⟩)) _ := (@zu _ _ 8 _ _ _ _ sc_law_spoiled.nd (by rfl) (by exact Or.inl rfl) (@zm _ _ _ _ _ _ _ _ yf (pv 4) (zq zv rfl B.len yc (za (pv 7) (@zb _)))) (by rfl) (by first | exact Or.inl rfl | exact Or.inr rfl));have b6 : PSs (cxOf CX0 P w K mg base ["text", "cell", "number", "way", "place", "signs", "sign", "words", "k", "some"] "_law_spoiled" (zf ze) f cdv A outer s H E).nox ((zx ze).drop 6) _ := (@yv _ _ _ _ _ _ @s6 rfl @b7);have s5 : PS ((cxOf CX0 P w K mg base ["text", "cell", "number", "way", "place", "signs", "sign", "words", "k", "some"] "_law_spoiled" (zf ze) f cdv A outer s H E).nox) ((zx ze).getD 5 (.Pass ⟨0, 0, 0, 0⟩)) _ := (@zu _ _ 7 _ _ _ _ sc_law_spoiled.nd (by rfl) (by exact Or.inl rfl) (x9 PySem.F.plainAttrs_str PySem.F.slot_str_split PySem.F.type_str_split qj (pv 0) (za (@zp _ _ _ _) (@zb _))) (by rfl) (by first | exact Or.inl rfl | exact Or.inr rfl));have b5 : PSs (cxOf CX0 P w K mg base ["text", "cell", "number", "way", "place", "signs", "sign", "words", "k", "some"] "_law_spoiled" (zf ze) f cdv A outer s H E).nox ((zx ze).drop 5) _ := (@yv _ _ _ _ _ _ @s5 rfl @b6);have s4 : PS ((cxOf CX0 P w K mg base ["text", "cell", "number", "way", "place", "signs", "sign", "words", "k", "some"] "_law_spoiled" (zf ze) f cdv A outer s H E).nox) ((zx ze).getD 4 (.Pass ⟨0, 0, 0, 0⟩)) _ := (@zu _ _ 6 _ _ _ _ sc_law_spoiled.nd (by rfl) (by exact Or.inl rfl) (@zr _ _ _ _ _ _ _ eo (pv 5) (@zm _ _ _ _ _ _ _ _ yf (@zm _ _ _ _ _ _ _ _ yn (pv 2) (@zd _ _ _ _)) (zq qg rfl B.len yc (za (pv 5) (@zb _)))) (fun _ _ => rfl)) (by rfl) (by first | exact Or.inl rfl | exact Or.inr rfl));have b4 : PSs (cxOf CX0 P w K mg base ["text", "cell", "number", "way", "place", "signs", "sign", "words", "k", "some"] "_law_spoiled" (zf ze) f cdv A outer s H E).nox ((zx ze).drop 4) _ := (@yv _ _ _ _ _ _ @s4 rfl @b5);have s3 : PS ((cxOf CX0 P w K mg base ["text", "cell", "number", "way", "place", "signs", "sign", "words", "k", "some"] "_law_spoiled" (zf ze) f cdv A outer s H E).nox) ((zx ze).getD 3 (.Pass ⟨0, 0, 0, 0⟩)) _ := (@zu _ _ 5 _ _ _ _ sc_law_spoiled.nd (by rfl) (by exact Or.inl rfl) (@zp _ _ _ _) (by rfl) (by first | exact Or.inl rfl | exact Or.inr rfl));have b3 : PSs (cxOf CX0 P w K mg base ["text", "cell", "number", "way", "place", "signs", "sign", "words", "k", "some"] "_law_spoiled" (zf ze) f cdv A outer s H E).nox ((zx ze).drop 3) _ := (@yv _ _ _ _ _ _ @s3 rfl @b4);have s2 : PS ((cxOf CX0 P w K mg base ["text", "cell", "number", "way", "place", "signs", "sign", "words", "k", "some"] "_law_spoiled" (zf ze) f cdv A outer s H E).nox) ((zx ze).getD 2 (.Pass ⟨0, 0, 0, 0⟩)) _ := (@zu _ _ 4 _ _ _ _ sc_law_spoiled.nd (by rfl) (by exact Or.inl rfl) (@zm _ _ _ _ _ _ _ _ yf (@zm _ _ _ _ _ _ _ _ yn (pv 2) (@zd _ _ _ _)) (@zm _ _ _ _ _ _ _ _ yg (zq qg rfl B.len yc (za (pv 0) (@zb _))) (@zd _ _ _ _))) (by rfl) (by first | exact Or.inl rfl | exact Or.inr rfl));have b2 : PSs (cxOf CX0 P w K mg base ["text", "cell", "number", "way", "place", "signs", "sign", "words", "k", "some"] "_law_spoiled" (zf ze) f cdv A outer s H E).nox ((zx ze).drop 2) _ := (@yv _ _ _ _ _ _ @s2 rfl @b3);have s1 : PS ((cxOf CX0 P w K mg base ["text", "cell", "number", "way", "place", "signs", "sign", "words", "k", "some"] "_law_spoiled" (zf ze) f cdv A outer s H E).nox) ((zx ze).getD 1 (.Pass ⟨0, 0, 0, 0⟩)) _ := (@zu _ _ 3 _ _ _ _ sc_law_spoiled.nd (by rfl) (by exact Or.inl rfl) (@zm _ _ _ _ _ _ _ _ yf (pv 2) (@zd _ _ _ _)) (by rfl) (by first | exact Or.inl rfl | exact Or.inr rfl));have b1 : PSs (cxOf CX0 P w K mg base ["text", "cell", "number", "way", "place", "signs", "sign", "words", "k", "some"] "_law_spoiled" (zf ze) f cdv A outer s H E).nox ((zx ze).drop 1) _ := (@yv _ _ _ _ _ _ @s1 rfl @b2);have s0 : PS ((cxOf CX0 P w K mg base ["text", "cell", "number", "way", "place", "signs", "sign", "words", "k", "some"] "_law_spoiled" (zf ze) f cdv A outer s H E).nox) ((zx ze).getD 0 (.Pass ⟨0, 0, 0, 0⟩)) _ := (@zu _ _ 2 _ _ _ _ sc_law_spoiled.nd (by rfl) (by exact Or.inl rfl) (@zm _ _ _ _ _ _ _ _ yf (@zm _ _ _ _ _ _ _ _ yg (@zm _ _ _ _ _ _ _ _ oi (@zm _ _ _ _ _ _ _ _ yf (pv 1) (@zd _ _ _ _)) (@zd _ _ _ _)) (@zd _ _ _ _)) (@zd _ _ _ _)) (by rfl) (by first | exact Or.inl rfl | exact Or.inr rfl));have b0 : PSs (cxOf CX0 P w K mg base ["text", "cell", "number", "way", "place", "signs", "sign", "words", "k", "some"] "_law_spoiled" (zf ze) f cdv A outer s H E).nox ((zx ze).drop 0) _ := (@yv _ _ _ _ _ _ @s0 rfl @b1);have b_ := @ce _ _ _ @b0;refine ⟨_, @b_, ?_⟩;rw [show start ["text", "cell", "number", "way", "place", "signs", "sign", "words", "k", "some"] [V.str t, V.int c] = [some (V.str t), some (V.int c), none, none, none, none, none, none, none, none] from rfl];clear b_ b0 b1 b2 b3 b4 b5 b6 b7 b8 b9 b10 b11 b12 b13 b14 b15 s0 s1 s2 s3 s4 s5 s6 s7 s8 s9 s10 s11 s12 s13 s14 s15;refine hide4 fun T hT => ?_
    simp only [zk, zj, ↓reduceIte];have big : 1000000 <= sizeLine := by decide
    refine ⟨by decide, .inr ⟨by decide, by decide⟩, by decide, by decide, ⟨by decide, by decide⟩, by omega, by omega, ?_⟩;generalize (c % 2147483629 * 69621 + 5) % 2147483629 = num at *;have hpl := yp (num / 8) (show (0 : Int) < (t.length : Int) + 1 by omega);obtain ⟨pl, epl⟩ : ∃ pl : Nat, num / 8 % ((t.length : Int) + 1) = pl := ⟨(num / 8 % ((t.length : Int) + 1)).toNat, by omega⟩;rw [epl] at hpl ⊢;rw [hT];clear hT T;refine hide3 fun T hT => ?_
    simp only [zk, zj, ↓reduceIte];generalize hsg : Str.ofString " abdelnorstuwy;;12340599AZ,.!\n\t" = sg at *;have lsg : sg.length = 31 := by rw [<- hsg]; decide +kernel
    obtain ⟨x, hx⟩ : ∃ x, atI sg.cps.toList (num / 7919 % (sg.length : Int)) = some x := by
      have h1 := yp (num / 7919) (show (0 : Int) < (sg.length : Int) by omega)
      have h2 : (num / 7919 % (sg.length : Int)).toNat < sg.cps.toList.length := by
        rw [show sg.cps.toList.length = sg.length from by simp [Str.length]];omega
      obtain ⟨j, hj⟩ : ∃ j : Nat, num / 7919 % (sg.length : Int) = j := ⟨(num / 7919 % (sg.length : Int)).toNat, by omega⟩;rw [hj] at h2 ⊢;rw [Zw] at h2;exact ⟨_, zn (Zb h2)⟩
    have hw := zau t;have hwn := qk t (Str.ofString " ");have hfew := sv t (Str.ofString " ") (by decide +kernel);have hsh : ∀ p ∈ Txt.split t (Str.ofString " "), p.length <= t.length := fun p hp => p7 hp
    refine ⟨⟨by decide, by decide⟩, by omega, by omega, by omega, x, hx, rfl, by decide +kernel, by omega, by omega, fun l hl => ?_⟩;generalize Txt.split t (Str.ofString " ") = ws at *;have hpos : 0 < ws.length := Ye.mpr hwn;have s1 : Same H (upd H l (.lst (ws.map V.str))) := Same.upd (Same.refl _) hl;have c1 : upd H l (.lst (ws.map V.str)) l = some (.lst (ws.map V.str)) := zc;generalize upd H l (.lst (ws.map V.str)) = H1 at *;refine ⟨_, .inl (.of c1), by rw [Za]; omega, ?_⟩;rw [Za];obtain ⟨k, ek, hk⟩ : ∃ k : Nat, (pl : Int) % (ws.length : Int) = k /\ k < ws.length := ⟨pl % ws.length, by omega, Nat.mod_lt _ hpos⟩;rw [ek];generalize hsn : ({ cps := #[x] } : Str) = sn at *;have lsn : sn.length = 1 := by rw [<- hsn]; rfl
    have hwy : num % 8 = 0 \/ num % 8 = 1 \/ num % 8 = 2 \/ num % 8 = 3 \/ num % 8 = 4 \/ num % 8 = 5 \/ num % 8 = 6 \/ num % 8 = 7 := by omega
    rcases hwy with e | e | e | e | e | e | e | e
    . rw [hT]
      clear hT T;refine v0 (pj rfl (by omega)) fun T hT => ?_
      simp only [zk, zj, ↓reduceIte];exact ⟨by omega, fun y1 h1 => ⟨by omega, by omega, fun y2 h2 => ⟨by rw [Str.length_append]; omega, q _ _ s1 (.inl ⟨_, rfl, by rw [Str.length_append, Str.length_append]; omega⟩)⟩⟩⟩
    . rw [hT]
      clear hT T;refine ya (yi rfl (by omega)) (v0 (pj rfl (by omega)) fun T hT => ?_);simp only [zk, zj, ↓reduceIte];exact ⟨by omega, fun y1 h1 => ⟨by omega, fun y2 h2 => ⟨by omega, q _ _ s1 (.inl ⟨_, rfl, by rw [Str.length_append]; omega⟩)⟩⟩⟩
    . rw [hT]
      clear hT T;refine ya (yi rfl (by omega)) (ya (yi rfl (by omega)) (v0 (pj rfl (by omega)) fun T hT => ?_));simp only [zk, zj, ↓reduceIte];exact ⟨by omega, fun y1 h1 => ⟨by omega, by omega, fun y2 h2 => ⟨by rw [Str.length_append]; omega, q _ _ s1 (.inl ⟨_, rfl, by rw [Str.length_append, Str.length_append]; omega⟩)⟩⟩⟩
    . rw [hT]
      clear hT T;refine ya (yi rfl (by omega)) (ya (yi rfl (by omega)) (ya (yi rfl (by omega)) (v0 (pj rfl (by omega)) fun T hT => ?_)));simp only [zk, zj, ↓reduceIte];refine ⟨_, .of c1, fun p1 hp1 => ⟨_, .of ((Same.upd (Same.refl _) hp1) _ _ c1), fun p2 hp2 => ?_⟩⟩;rw [c9 (by rw [Za]; omega), show (k : Int) + 1 = ((k + 1 : Nat) : Int) by omega, v6 (by rw [Za]; omega)] at *;have s2 : Same H1 (upd H1 p1 (.lst ((ws.map V.str).take k))) := Same.upd (Same.refl _) hp1;have c2 : upd H1 p1 (.lst ((ws.map V.str).take k)) p1 = some (.lst ((ws.map V.str).take k)) := zc;generalize upd H1 p1 (.lst ((ws.map V.str).take k)) = H2 at *;have s3 : Same H2 (upd H2 p2 (.lst ((ws.map V.str).drop (k + 1)))) := Same.upd (Same.refl _) hp2;have c3 : upd H2 p2 (.lst ((ws.map V.str).drop (k + 1))) p2 = some (.lst ((ws.map V.str).drop (k + 1))) := zc;generalize upd H2 p2 (.lst ((ws.map V.str).drop (k + 1))) = H3 at *;refine ⟨_, s3 _ _ c2, _, c3, by rw [Zj, ZO, Za]; omega, fun p3 hp3 => ?_⟩;have s4 : Same H3 (upd H3 p3 (.lst ((ws.map V.str).take k ++ (ws.map V.str).drop (k + 1)))) := Same.upd (Same.refl _) hp3;have c4 : upd H3 p3 (.lst ((ws.map V.str).take k ++ (ws.map V.str).drop (k + 1))) p3 = some (.lst ((ws.take k ++ ws.drop (k + 1)).map V.str)) := by rw [zc, Zn, Yh, Ym]
      generalize upd H3 p3 (.lst ((ws.map V.str).take k ++ (ws.map V.str).drop (k + 1))) = H4 at *;have w1 := jh ws k;have w2 := zbs ws k;have w3 := qa (ws.take k) (ws.drop (k + 1));rw [hT];clear hT T;refine ya (yi rfl (by omega)) (ya (yi rfl (by omega)) (ya (yi rfl (by omega)) (ya (yi rfl (by omega)) (?_))));simp only [zk, zj, ↓reduceIte];exact ⟨rfl, _, .of c4, rk (by omega), q _ _ (s1.trans (s2.trans (s3.trans s4))) (.inl ⟨_, rfl, by rw [wb]; exact Zd (qh _) (by omega)⟩)⟩
    . rw [hT]
      clear hT T;refine ya (yi rfl (by omega)) (ya (yi rfl (by omega)) (ya (yi rfl (by omega)) (ya (yi rfl (by omega)) (v0 (pj rfl (by omega)) fun T hT => ?_))));simp only [zk, zj, ↓reduceIte];obtain ⟨wk, hwk⟩ : ∃ wk, ws[k]? = some wk := ⟨ws[k], Zb hk⟩;have lwk := hsh wk (Zi hwk);refine ⟨_, .of c1, fun p1 hp1 => ⟨_, .of ((Same.upd (Same.refl _) hp1) _ _ c1), V.str wk, zn (by rw [Ze, hwk]; rfl), by decide, fun p2 hp2 => ?_⟩⟩;rw [c9 (by rw [Za]; omega)] at *;have s2 : Same H1 (upd H1 p1 (.lst ((ws.map V.str).take k))) := Same.upd (Same.refl _) hp1;have c2 : upd H1 p1 (.lst ((ws.map V.str).take k)) p1 = some (.lst ((ws.map V.str).take k)) := zc;generalize upd H1 p1 (.lst ((ws.map V.str).take k)) = H2 at *;have s3 : Same H2 (upd H2 p2 (.lst [V.str wk])) := Same.upd (Same.refl _) hp2;have c3 : upd H2 p2 (.lst [V.str wk]) p2 = some (.lst [V.str wk]) := zc;generalize upd H2 p2 (.lst [V.str wk]) = H3 at *;refine ⟨_, s3 _ _ c2, _, c3, by rw [Zj, Za]; show _ + 1 <= _; omega, fun p3 hp3 => ?_⟩;have s4 : Same H3 (upd H3 p3 (.lst ((ws.map V.str).take k ++ [V.str wk]))) := Same.upd (Same.refl _) hp3;have c4 : upd H3 p3 (.lst ((ws.map V.str).take k ++ [V.str wk])) p3 = some (.lst ((ws.map V.str).take k ++ [V.str wk])) := zc;generalize upd H3 p3 (.lst ((ws.map V.str).take k ++ [V.str wk])) = H4 at *;refine ⟨_, .of ((s2.trans (s3.trans s4)) _ _ c1), fun p4 hp4 => ?_⟩;rw [v6 (by rw [Za]; omega)] at *;have s5 : Same H4 (upd H4 p4 (.lst ((ws.map V.str).drop k))) := Same.upd (Same.refl _) hp4;have c5 : upd H4 p4 (.lst ((ws.map V.str).drop k)) p4 = some (.lst ((ws.map V.str).drop k)) := zc;generalize upd H4 p4 (.lst ((ws.map V.str).drop k)) = H5 at *;refine ⟨_, s5 _ _ c4, _, c5, by rw [Zo, Zj, ZO, Za]; show _ + 1 + _ <= _; omega, fun p6 hp6 => ?_⟩;have s6 : Same H5 (upd H5 p6 (.lst ((ws.map V.str).take k ++ [V.str wk] ++ (ws.map V.str).drop k))) := Same.upd (Same.refl _) hp6;have c6 : upd H5 p6 (.lst ((ws.map V.str).take k ++ [V.str wk] ++ (ws.map V.str).drop k)) p6 = some (.lst ((ws.take k ++ [wk] ++ ws.drop k).map V.str)) := by rw [zc, Zn, Zn, Yh, Ym]; rfl
      generalize upd H5 p6 (.lst ((ws.map V.str).take k ++ [V.str wk] ++ (ws.map V.str).drop k)) = H6 at *;have w1 := jh ws k;have w2 := qa (ws.take k ++ [wk]) (ws.drop k);have w3 := qa (ws.take k) [wk];have w4 : wgt [wk] = wk.length + 1 := by simp [wgt]
      rw [hT];clear hT T;refine ya (yi rfl (by omega)) (ya (yi rfl (by omega)) (ya (yi rfl (by omega)) (?_)));simp only [zk, zj, ↓reduceIte];exact ⟨rfl, _, .of c6, rk (by omega), q _ _ (s1.trans (s2.trans (s3.trans (s4.trans (s5.trans s6))))) (.inl ⟨_, rfl, by rw [wb]; exact Zd (qh _) (by omega)⟩)⟩
    . rw [hT]
      clear hT T;refine ya (yi rfl (by omega)) (ya (yi rfl (by omega)) (ya (yi rfl (by omega)) (ya (yi rfl (by omega)) (ya (yi rfl (by omega)) (v0 (pj rfl (by omega)) fun T hT => ?_)))));simp only [zk, zj, ↓reduceIte];have hj := yp (num / 7919) (show (0 : Int) < (ws.length : Int) by omega);obtain ⟨j, ej⟩ : ∃ j : Nat, num / 7919 % (ws.length : Int) = j := ⟨(num / 7919 % (ws.length : Int)).toNat, by omega⟩;rw [ej] at hj;obtain ⟨wk, hwk⟩ : ∃ wk, ws[j]? = some wk := ⟨ws[j]'(by omega), Zb _⟩;have lwk := hsh wk (Zi hwk);refine ⟨⟨by decide, by decide⟩, _, .inl (.of c1), by rw [Za]; omega, _, .of c1, V.str wk, by rw [Za, ej]; exact zn (by rw [Ze, hwk]; rfl), _, c1, k, dt (by rw [Za]; exact hk), ?_⟩;have s2 : Same H (upd H1 l (.lst ((ws.map V.str).set k (V.str wk)))) := Same.upd s1 hl;have c2 : upd H1 l (.lst ((ws.map V.str).set k (V.str wk))) l = some (.lst ((ws.set k wk).map V.str)) := by rw [zc, List.map_set]
      generalize upd H1 l (.lst ((ws.map V.str).set k (V.str wk))) = H2 at *;have w1 := ju wk ws k;rw [hT];clear hT T;refine ya (yi rfl (by omega)) (ya (yi rfl (by omega)) (?_));simp only [zk, zj, ↓reduceIte];exact ⟨rfl, _, .of c2, rk (by omega), q _ _ s2 (.inl ⟨_, rfl, by rw [wb]; exact Zd (qh _) (by omega)⟩)⟩
    . rw [hT]
      clear hT T;refine ya (yi rfl (by omega)) (ya (yi rfl (by omega)) (ya (yi rfl (by omega)) (ya (yi rfl (by omega)) (ya (yi rfl (by omega)) (ya (yi rfl (by omega)) (v0 (pj rfl (by omega)) fun T hT => ?_))))));simp only [zk, zj, ↓reduceIte];refine ⟨by decide, fun p1 hp1 => ⟨⟨by decide, by decide⟩, by decide, _, .of zc, ?_⟩⟩;have s2 : Same H1 (upd H1 p1 (.lst [V.str (Str.ofString "when"), V.str (Str.ofString "deal"), V.str (Str.ofString "says"), V.str (Str.ofString "count"), V.str (Str.ofString "not"), V.str (Str.ofString "and"), V.str (Str.ofString "or"), V.str (Str.ofString "5"), V.str (Str.ofString "0"), V.str (Str.ofString "01"), V.str (Str.ofString "x"), V.str (Str.ofString "deal;")])) := Same.upd (Same.refl _) hp1;generalize upd H1 p1 (.lst [V.str (Str.ofString "when"), V.str (Str.ofString "deal"), V.str (Str.ofString "says"), V.str (Str.ofString "count"), V.str (Str.ofString "not"), V.str (Str.ofString "and"), V.str (Str.ofString "or"), V.str (Str.ofString "5"), V.str (Str.ofString "0"), V.str (Str.ofString "01"), V.str (Str.ofString "x"), V.str (Str.ofString "deal;")]) = H2 at *;obtain ⟨wk, hwk, lwk⟩ := zdx (num / 977);refine ⟨V.str wk, hwk, _, s2 _ _ c1, k, dt (by rw [Za]; exact hk), ?_⟩;have s3 : Same H (upd H2 l (.lst ((ws.map V.str).set k (V.str wk)))) := Same.upd (s1.trans s2) hl;have c3 : upd H2 l (.lst ((ws.map V.str).set k (V.str wk))) l = some (.lst ((ws.set k wk).map V.str)) := by rw [zc, List.map_set]
      generalize upd H2 l (.lst ((ws.map V.str).set k (V.str wk))) = H3 at *;have w1 := ju wk ws k;rw [hT];clear hT T;refine ya (yi rfl (by omega)) (?_);simp only [zk, zj, ↓reduceIte];exact ⟨rfl, _, .of c3, rk (by omega), q _ _ s3 (.inl ⟨_, rfl, by rw [wb]; exact Zd (qh _) (by omega)⟩)⟩
    . rw [hT]
      clear hT T;refine ya (yi rfl (by omega)) (ya (yi rfl (by omega)) (ya (yi rfl (by omega)) (ya (yi rfl (by omega)) (ya (yi rfl (by omega)) (ya (yi rfl (by omega)) (ya (yi rfl (by omega)) (v0 (pj rfl (by omega)) fun T hT => ?_)))))));simp only [zk, zj, ↓reduceIte];refine ⟨by decide, fun p1 hp1 => ⟨by decide, fun p2 hp2 p3 hp3 => ⟨by omega, fun y1 h1 => ⟨by omega, fun y2 h2 => ⟨by decide, fun p4 hp4 => ⟨⟨by decide, by decide⟩, by decide, _, .of zc, ?_⟩⟩⟩⟩⟩⟩;have s2 : Same H1 (upd H1 p1 (.lst [V.str t])) := Same.upd (Same.refl _) hp1;have c2 : upd H1 p1 (.lst [V.str t]) p1 = some (.lst [V.str t]) := zc;generalize upd H1 p1 (.lst [V.str t]) = H2 at *;have s3 : Same H2 (upd H2 p2 (.tup [V.str t])) := Same.upd (Same.refl _) hp2;have c3 : upd H2 p2 (.tup [V.str t]) p2 = some (.tup [V.str t]) := zc;generalize upd H2 p2 (.tup [V.str t]) = H3 at *;have s4 : Same H3 (upd H3 p3 (.dK [])) := Same.upd (Same.refl _) hp3;have c4 : upd H3 p3 (.dK []) p3 = some (.dK []) := zc;generalize upd H3 p3 (.dK []) = H4 at *;have s5 : Same H4 (upd H4 p4 (.lst [V.non, V.int 3, V.bl true, V.ref p1, V.ref p2, V.ref p3, V.str y1, V.str y2])) := Same.upd (Same.refl _) hp4;generalize upd H4 p4 (.lst [V.non, V.int 3, V.bl true, V.ref p1, V.ref p2, V.ref p3, V.str y1, V.str y2]) = H5 at *;have S5 := s1.trans (s2.trans (s3.trans (s4.trans s5)));obtain ⟨k1, k2, k3, k4, k5, k6⟩ := kitS67;have hidx : num / 977 % 8 = 0 \/ num / 977 % 8 = 1 \/ num / 977 % 8 = 2 \/ num / 977 % 8 = 3 \/ num / 977 % 8 = 4 \/ num / 977 % 8 = 5 \/ num / 977 % 8 = 6 \/ num / 977 % 8 = 7 := by omega
      rcases hidx with e' | e' | e' | e' | e' | e' | e' | e' <;> rw [e']
      . exact ⟨_, zn (j := 0) rfl, q _ _ S5 (.inr ⟨_, .non, k1⟩)⟩
      . exact ⟨_, zn (j := 1) rfl, q _ _ S5 (.inr ⟨_, .int _, k2⟩)⟩
      . exact ⟨_, zn (j := 2) rfl, q _ _ S5 (.inr ⟨_, .bl _, k3⟩)⟩
      . exact ⟨_, zn (j := 3) rfl, q _ _ S5 (.inr ⟨_, .lst ((s3.trans (s4.trans s5)) _ _ c2), k4⟩)⟩
      . exact ⟨_, zn (j := 4) rfl, q _ _ S5 (.inr ⟨_, .tup ((s4.trans s5) _ _ c3), k5⟩)⟩
      . exact ⟨_, zn (j := 5) rfl, q _ _ S5 (.inr ⟨_, .dK (s5 _ _ c4), k6⟩)⟩
      . exact ⟨_, zn (j := 6) rfl, q _ _ S5 (.inl ⟨_, rfl, by omega⟩)⟩
      . exact ⟨_, zn (j := 7) rfl, q _ _ S5 (.inl ⟨_, rfl, by omega⟩)⟩
end
theorem RuleOf.words {ds : List HD} {outs : List Str} {css : List (List Str)} {cls : List (Cd × Str)} {zz : Str} (nd : (ds.map HD.name).Nodup) (h : RuleOf ds outs css cls zz) : css = rlW ds cls zz /\ (∀ c ∈ cls, okc True ds c.1 /\ c.2 ∈ outs) /\ zz ∈ outs := by
  obtain ⟨hf, hm, l, hl, hz⟩ := h;obtain ⟨e1, e2⟩ := gl hz
  have go : ∀ {xs : List (List Str)} {ys : List (Cd × Str)}, xs.map (pcl ds outs) = ys.map some -> xs = ys.map (clW ds) /\ ∀ c ∈ ys, okc True ds c.1 /\ c.2 ∈ outs := by
    intro xs
    induction xs with
    | nil => intro ys e; cases ys with
      | nil => exact ⟨rfl, fun c hc => nomatch hc⟩
      | cons _ _ => cases e
    | cons x xs ih =>
      intro ys e
      cases ys with
      | nil => cases e
      | cons y ys =>
        rw [ZM, ZM] at e
        injection e with h1 h2
        obtain ⟨i1, i2⟩ := ih h2;obtain ⟨p1, p2, p3⟩ := zcb nd h1;refine ⟨by rw [ZM, <- i1, <- p1], fun c hc => ?_⟩
        rcases ZK.mp hc with rfl | hc
        . exact ⟨p2, p3⟩
        . exact i2 c hc
  obtain ⟨g1, g2⟩ := go hm;refine ⟨?_, g2, e2⟩;have hne : css ≠ [] := fun e => by rw [e] at hl; cases hl
  have := List.dropLast_concat_getLast hne
  have hl2 : css.getLast hne = l := by
    have := YM hne;rw [hl] at this;exact (Option.some.inj this).symm
  rw [<- this, hl2, g1, e1];rfl
theorem RuleOf.cls {ds : List HD} {outs : List Str} {css : List (List Str)} {cls : List (Cd × Str)} {zz : Str} (G : GoodHouse outs ds) (h : RuleOf ds outs css cls zz) : ClsOk outs ds cls zz := by
  obtain ⟨e, h1, h2⟩ := h.words G.handsD;have hf := h.1;rw [e] at hf
  have hlen : ∀ c ∈ cls, (wd ds c.1).length <= 37 := fun c hc => by
    have := hf.2 (clW ds c) (ZR _ (Zp.mpr ⟨c, hc, rfl⟩));rw [clW, ZL, Zo] at this;have e2 : [Str.ofString "deal", c.2].length = 2 := rfl;omega
  refine ⟨G, fun c hc => ⟨(h1 c hc).1, ?_, (h1 c hc).2⟩, hlen, ?_, h2⟩
  . have := qq ds c.1
    have := hlen c hc;omega
  . have := hf.1
    rw [rlW, Zo, Za] at this;have e2 : [[Str.ofString "deal", zz]].length = 1 := rfl;omega
theorem RuleOf.text {ds : List HD} {outs : List Str} {z : Str} {cls : List (Cd × Str)} {zz : Str} (nd : (ds.map HD.name).Nodup) (h : RuleOf ds outs (csT z) cls zz) : Txt.join (Str.ofString "; ") (txts ds cls zz) = z := by
  obtain ⟨e, _, _⟩ := h.words nd;rw [wb, txts, <- e, csT, Yv]
  have : (Str.join (Str.ofString " ") ∘ fun p => Txt.split p (Str.ofString " ")) = fun p => p := by
    funext p
    exact uf p _
  rw [this, List.map_id', uf]
theorem TyOf.mono67 {K : Fg} {H H' : Hp} {x : V} {t : Value} (S : Same H H') (h : TyOf K H x t) : TyOf K H' x t := by
  cases h with
  | non => exact .non
  | bl x => exact .bl x
  | int x => exact .int x
  | str x => exact .str x
  | flt x => exact .flt x
  | lst e => exact .lst (S _ _ e)
  | frz e => exact .frz (S _ _ e)
  | tup e => exact .tup (S _ _ e)
  | dK e => exact .dK (S _ _ e)
  | dT e => exact .dT (S _ _ e)
  | ins e cl ha hn htk hm => exact .ins (S _ _ e) cl ha hn htk hm
def J67 (a : Ad) (H4 : Hp) (σ0 : L2.St) (p : Prop) (σ : L2.St) (c : Value) (H' : Hp) : Prop := Same H4 H' /\ σ = σ0 /\ c = .ref a.NoRule /\ p
section
variable {P : Program} {w : World} {K : Fg} {mg : Str -> Option Value} {base : Heap} {a : Ad}
theorem law_fn (B : Bt mg) (C : Ct K mg a) (px : FnAt P w K mg base "_law_parts" 2 ["script"] (i4 K)) (ki : FnAtX P w K mg base "house_of" 7 ["outcomes", "hands"] gi) (oy : FnAt P w K mg base "_law_rows" 1 ["hands"] cn) (re : FnAt P w K mg base "_law_clauses" 3 ["script", "outcomes", "hands", "rows"] (j4 K)) (yt : FnAt P w K mg base "_law_cell_at" 1 ["script", "k"] (kz K)) (sy : FnAt P w K mg base "_law_spoiled" 1 ["text", "cell"] (ge K)) (p0 : FnAtX P w K mg base "read_rule" 47 ["house", "text"] (jf a K)) (o9 : FnAt P w K mg base "_law_good" 3 ["outcomes", "hands", "text"] (cj K)) (jv : FnAt P w K mg base "shown" 44 ["house", "rule"] dk) {f : Addr} {fd : FuncData} (F : Fun K "law" "law" qx f fd) : FnOk P w K mg base CX0 50 f fd ["script"] (ad K) := by
  refine F.ok sc_law (fun vs H Q E h => ?_) (fun cdv A outer s H vs Q E hr h => ?_)
  . obtain ⟨b, ns, rfl, _⟩ := h
    rfl
  . obtain ⟨sc, ns, rfl, hS, hlen, q⟩ := h
    have rest : ∃ tr, PSs (cxOf CX0 P w K mg base ["script", "outcomes", "hands", "house", "clauses", "text", "found", "kinds", "e"] "law" (zf qx) f cdv A outer s H E).nox ((zx qx).drop 4) tr /\
        ∀ (H1 : Hp) (o b p o' h cl : Addr) (y : V) (outs : List Str) (xs : List HX) (ds : List HD) (hs : List Addr), H1 o = some (.lst (outs.map V.str)) -> HandsL H1 b xs ds -> GoodHouse outs ds -> HHouse H1 p o' h hs outs ds -> ((∃ z : Str, y = .str z /\ z.length <= 30000) \/ bg K H1 y) ->
          tr { nx := fun _ H' => Q .non H', rt := Q } [some (.ref sc), some (.ref o), some (.ref b), some (.ref p), some (.ref cl), some y, none, none, none] H1 := by
      refine ⟨_, (zg (zu (i := 6) sc_law.nd rfl (Or.inl rfl) (@uo _ _ _))
      (zg (zu (i := 7) sc_law.nd rfl (Or.inl rfl) (@uo _ _ _))
      (zg (za9 (i := 8) C.q_TrueError.toErr rfl C.m_TrueError sc_law.nd rfl rfl (fun J pn => (@zh _ _ _ (zu (i := 6) sc_law.nd rfl (Or.inl rfl) (y7 p0 (hr.mono (by decide)) ib rfl (za (pv 3) (za (pv 5) (@zb _))))))) (fun e => (@zh _ _ _ (zu (i := 7) sc_law.nd rfl (Or.inl rfl) (@yd _ _ _ _ (za (zq i8 rfl B.isinstance yj (za (pv 8) (za (we (v := .ref a.NoRule) rfl C.m_NoRule rfl) (@zb _)))) (za (zq gm rfl B.isinstance yj (za (pv 8) (za (ur rfl B.ValueError io) (@zb _)))) (za (zq nj rfl B.isinstance yj (@za _ _ _ _ _ (pv 8) (@za _ _ _ _ _ (@yl _ _ _ _ _ (@za _ _ _ _ _ (we (v := .ref a.NoHouse) rfl C.m_NoHouse rfl) (@za _ _ _ _ _ (we (v := .ref a.NoMenu) rfl C.m_NoMenu rfl) (@za _ _ _ _ _ (we (v := .ref a.NoPays) rfl C.m_NoPays rfl) (@za _ _ _ _ _ (we (v := .ref a.NoRow) rfl C.m_NoRow rfl) (@zb _) (zi nofun)) (zi nofun)) (zi nofun)) (zi nofun))) (@zb _) (zi nofun)) (zi nofun))) (za (zq nj rfl B.isinstance yj (@za _ _ _ _ _ (pv 8) (@za _ _ _ _ _ (@yl _ _ _ _ _ (@za _ _ _ _ _ (we (v := .ref a.NoShare) rfl C.m_NoShare rfl) (@za _ _ _ _ _ (we (v := .ref a.NoStand) rfl C.m_NoStand rfl) (@za _ _ _ _ _ (we (v := .ref a.NoWeight) rfl C.m_NoWeight rfl) (@za _ _ _ _ _ (we (v := .ref a.NoWord) rfl C.m_NoWord rfl) (@zb _) (zi nofun)) (zi nofun)) (zi nofun)) (zi nofun))) (@zb _) (zi nofun)) (zi nofun))) (@zb _))))))))))
      (zg (@yb _ _ _ _ _ _ _ _ (@xp _ _ _ _ (xq (zo o9 (hr.mono (by decide)) rfl (za (pv 1) (za (pv 2) (za (pv 5) (@zb _))))))) (@zh _ _ _ (@zt _ _ _ _ (@xy _ _ _ _ _ _ _ _ (op_eqF (Nat.lt_of_succ_lt (hu_of hr))) (pv 7) (@yd _ _ _ _ (za (@xr _ _ _ _) (za (@xr _ _ _ _) (za (@xr _ _ _ _) (za (@xr _ _ _ _) (@zb _)))))) (z0 _)))) (@z5 _))
      (zh (@zt _ _ _ _ (@sj _ _ _ _ _ _ _ (@xy _ _ _ _ _ _ _ _ fb (pv 7) (@uo _ _ _) (z0 _)) (@si _ _ _ _ _ (@xy _ _ _ _ _ _ _ _ y9 (zo jv (hr.mono (by decide)) rfl (za (pv 3) (za (pv 6) (@zb _)))) (pv 5) (z0 _)))))))))), fun H1 o b p o' h cl y outs xs ds hs ho hh G hH hy => ?_⟩
      simp only [zk, zj, ↓reduceIte];refine ⟨J67 a H1 [some (V.ref sc), some (V.ref o), some (V.ref b), some (V.ref p), some (V.ref cl), some y, some V.non, some V.non, none] (bg K H1 y \/ ∃ z, y = .str z /\ z.length <= 30000 /\ ¬ ∃ cls zz, RuleOf ds outs (csT z) cls zz), fun pn => ?_, fun σ1 c H2 hJ => ?_⟩
      . rcases hy with ⟨z, rfl, hz⟩ | hy
        . refine ⟨p, o', h, _, hs, outs, ds, rfl, hH, G, .inr ⟨z, rfl, hz, fun cls zz hR H2 l S2 hRl => ?_, fun hno H2 S2 => ⟨S2, rfl, rfl, .inr ⟨z, rfl, hz, hno⟩⟩⟩⟩
          refine ⟨o, b, _, outs, xs, ds, rfl, S2 _ _ ho, hh.mono S2, G, .inr ⟨z, rfl, hz, fun H3 b' S3 hb => ⟨b', rfl, ?_⟩⟩⟩;obtain rfl : b' = true := hb.mpr ⟨cls, zz, hR⟩;refine iteF (iteT ⟨p, o', h, l, hs, outs, ds, cls, zz, rfl, hH.mono (S2.trans S3), hR.cls G, hRl.mono S3, fun H4 S4 => ?_⟩);rw [hR.text G.handsD];refine ⟨rfl, ?_⟩;rw [decide_eq_true rfl];exact q _
        . exact ⟨p, o', h, _, hs, outs, ds, rfl, hH, G, .inl ⟨hy, fun H2 S2 => ⟨S2, rfl, rfl, .inl hy⟩⟩⟩
      . obtain ⟨S2, rfl, rfl, hb⟩ := hJ
        refine ⟨_, rfl, C.q_NoRule.toErr, C.s_NoRule_TrueError, fun e ea hea => ?_⟩;have Sa : Same H2 (upd H2 ea (ExcO ea a.NoRule)) := Same.upd (Same.refl _) hea;have ha : upd H2 ea (ExcO ea a.NoRule) ea = some (ExcO ea a.NoRule) := zc;generalize upd H2 ea (ExcO ea a.NoRule) = H3 at *;refine ⟨_, rfl, _, rfl, _, ha, C.q_NoRule, _, C.k_NoRule_NoRule, _, rfl, _, rfl, _, ha, C.q_NoRule, _, C.v_NoRule, _, rfl, by decide, fun p1 hp1 => ?_⟩;have Sb : Same H3 (upd H3 p1 (.tup [V.ref a.NoHouse, V.ref a.NoMenu, V.ref a.NoPays, V.ref a.NoRow])) := Same.upd (Same.refl _) hp1;have hb1 : upd H3 p1 (.tup [V.ref a.NoHouse, V.ref a.NoMenu, V.ref a.NoPays, V.ref a.NoRow]) p1 = some (.tup [V.ref a.NoHouse, V.ref a.NoMenu, V.ref a.NoPays, V.ref a.NoRow]) := zc;generalize upd H3 p1 (.tup [V.ref a.NoHouse, V.ref a.NoMenu, V.ref a.NoPays, V.ref a.NoRow]) = H4 at *;refine ⟨_, rfl, _, Sb _ _ ha, C.q_NoRule, [a.NoHouse, a.NoMenu, a.NoPays, a.NoRow], .of hb1, false, p8 ⟨C.k_NoRule_NoHouse, C.k_NoRule_NoMenu, C.k_NoRule_NoPays, C.k_NoRule_NoRow, trivial⟩, ?_⟩;refine ⟨_, rfl, by decide, fun p2 hp2 => ?_⟩;have Sc : Same H4 (upd H4 p2 (.tup [V.ref a.NoShare, V.ref a.NoStand, V.ref a.NoWeight, V.ref a.NoWord])) := Same.upd (Same.refl _) hp2;have hcc : upd H4 p2 (.tup [V.ref a.NoShare, V.ref a.NoStand, V.ref a.NoWeight, V.ref a.NoWord]) p2 = some (.tup [V.ref a.NoShare, V.ref a.NoStand, V.ref a.NoWeight, V.ref a.NoWord]) := zc;generalize upd H4 p2 (.tup [V.ref a.NoShare, V.ref a.NoStand, V.ref a.NoWeight, V.ref a.NoWord]) = H5 at *;refine ⟨_, rfl, _, (Sb.trans Sc) _ _ ha, C.q_NoRule, [a.NoShare, a.NoStand, a.NoWeight, a.NoWord], .of hcc, false, p8 ⟨C.k_NoRule_NoShare, C.k_NoRule_NoStand, C.k_NoRule_NoWeight, C.k_NoRule_NoWord, trivial⟩, by decide, fun p3 hp3 => ?_⟩;have Sd : Same H5 (upd H5 p3 (.lst [V.bl true, V.bl true, V.bl false, V.bl false])) := Same.upd (Same.refl _) hp3;have hdd : upd H5 p3 (.lst [V.bl true, V.bl true, V.bl false, V.bl false]) p3 = some (.lst [V.bl true, V.bl true, V.bl false, V.bl false]) := zc;generalize upd H5 p3 (.lst [V.bl true, V.bl true, V.bl false, V.bl false]) = H6 at *;have S6 := S2.trans (Sa.trans (Sb.trans (Sc.trans Sd)));simp only [km, zk, zj, ↓reduceIte];have fin : ∀ H7, Same H6 H7 -> 1 + 1 + 1 + 1 <= sizeLine /\ ∀ p : Addr, H7 p = none -> ∃ x, SqL K (upd H7 p (.lst [V.bl true, V.bl true, V.bl false, V.bl false])) p3 x /\ ∃ x_2, SqL K (upd H7 p (.lst [V.bl true, V.bl true, V.bl false, V.bl false])) p x_2 /\ x.all yx = true /\ x_2.all yx = true /\ Q (V.bl (eqVs x x_2)) (upd H7 p (.lst [V.bl true, V.bl true, V.bl false, V.bl false])) := fun H7 S7 => ⟨by decide, fun p hp => ⟨_, .of ((S7.trans (Same.upd (Same.refl _) hp)) _ _ hdd), _, .of zc, rfl, rfl, q _⟩⟩
        refine ⟨o, b, y, outs, xs, ds, rfl, S6 _ _ ho, hh.mono S6, G, ?_⟩
        rcases hb with hb | ⟨z, rfl, hz, hno⟩
        . refine .inl ⟨?_, fun H7 S7 => ⟨false, rfl, iteT (fin H7 S7)⟩⟩
          obtain ⟨T, t1, t2⟩ := hb;exact ⟨T, TyOf.mono67 S6 t1, t2⟩
        . refine .inr ⟨z, rfl, hz, fun H7 b' S7 hb' => ⟨b', rfl, ?_⟩⟩
          obtain rfl : b' = false := by
            cases b' with
            | false => rfl
            | true => exact absurd (hb'.mp rfl) hno
          exact iteT (fin H7 S7)
    obtain ⟨tr, hrest, hR⟩ := rest
    refine ⟨_, (zg (kt (zo px (hr.mono (by decide)) rfl (za (pv 0) (@zb _))) (f8 rfl (vx (z6 (i := 1) sc_law.nd rfl (Or.inl rfl)) (vx (z6 (i := 2) sc_law.nd rfl (Or.inl rfl)) (@jp _)))))
      (zg (zu (i := 3) sc_law.nd rfl (Or.inl rfl) (zbv ki (hr.mono (by decide)) rfl (za (pv 1) (za (pv 2) (@zb _)))))
      (zg (zu (i := 4) sc_law.nd rfl (Or.inl rfl) (zo re (hr.mono (by decide)) rfl (za (pv 0) (za (pv 1) (za (pv 2) (za (zo oy (hr.mono (by decide)) rfl (za (pv 2) (@zb _))) (@zb _)))))))
      (zg (zu (i := 5) sc_law.nd rfl (Or.inl rfl) (zo sy (hr.mono (by decide)) rfl (za (x9 PySem.F.plainAttrs_str PySem.F.slot_str_join PySem.F.type_str_join oh (@zp _ _ _ _) (za (yr ["clause"] ["script", "outcomes", "hands", "house", "clauses", "text", "found", "kinds", "e"] rfl (@yo _ _ _ _ (pv 4)) (fun _ => (z6 (i := 0) (show (["clause", "script", "outcomes", "hands", "house", "clauses", "text", "found", "kinds", "e"] : List Str).Nodup by decide +kernel) rfl (Or.inl rfl))) (fun _ => (@ym _)) (fun _ => (@zr _ _ _ _ _ _ _ z9 (pv 0) (@zd _ _ _ _) (fun _ _ => rfl))) rfl (by decide +kernel) rfl rfl) (@zb _))) (za (zo yt (hr.mono (by decide)) rfl (za (pv 0) (za (@zd _ _ _ _) (@zb _)))) (@zb _)))))
      hrest)))), ?_⟩
    rw [show start ["script", "outcomes", "hands", "house", "clauses", "text", "found", "kinds", "e"] [V.ref sc] = [some (V.ref sc), none, none, none, none, none, none, none, none] from rfl];simp only [zk, zj, ↓reduceIte];refine ⟨sc, ns, rfl, hS, fun H1 t o b outs xs ds S1 ht ho hL G w7 => ?_⟩;refine ⟨t, rfl, _, .of ht, rfl, _, _, rfl, _, _, rfl, rfl, o, b, outs, xs, ds, rfl, ho, hL, G, fun H2 p o' h hs S2 hH => ?_⟩;have h4 := G.hands;have h8 : ∀ d ∈ ds, d.words.length <= 8 := fun d hd => (G.words1 d hd).2
    refine ⟨b, xs, ds, rfl, hL.mono S2, h4.2, h8, fun H3 l as S3 R3 => ?_⟩;have S13 := S2.trans S3;have hL3 := hL.mono S13;have hg : ∀ d ∈ ds, GoodN d.name /\ 1 <= d.words.length /\ d.words.length <= 7 /\ ∀ z ∈ d.words, GoodN z := fun d hd => ⟨G.handsG d hd, (G.words1 d hd).1, w7 d hd, G.wordsG d hd⟩
    have hN := hL3.named hg;have lW := hN.len;have hwid : ∀ r ∈ xi (ds.map HD.words), r.length = ds.length := fun r hr => by rw [aq hr, Za]
    have hRl : (xi (ds.map HD.words)).length = (ds.map fun d => d.words.length).prod := by rw [zah, Yv]; rfl
    have hR1 : 1 <= (xi (ds.map HD.words)).length := by
      rw [hRl]
      exact j2 fun x hx => by
        obtain ⟨d, hd, rfl⟩ := Zp.mp hx;exact (G.words1 d hd).1
    have hR2 : (xi (ds.map HD.words)).length <= 256 := by rw [hRl]; exact G.few
    have R3w := R3.wide hwid
    have hzl : (as.zip (xi (ds.map HD.words))).length = (xi (ds.map HD.words)).length := by
      rw [Yq, R3.tups.len]; omega
    generalize ((xs.zip ds).map fun p => (p.1.t, p.2.words)) = hw at *;refine ⟨sc, o, b, l, ns, outs, hw, as.zip (xi (ds.map HD.words)), ds, rfl, (S1.trans S13).seq hS, hlen, S13 _ _ ho, G.outs1.1, GoodN.short G.outsG, hN, by omega, by omega, by rw [lW]; exact R3w, by omega, by omega, fun H4 cl cs tz z y S4 hcl hC l18 htz hz => ?_⟩;obtain ⟨cls, ecls⟩ : ∃ cls, cs.map (fun c => c.2) = cls := ⟨_, rfl⟩;have lcs : cls.length = cs.length := by rw [<- ecls, Za]
    have hOk : ClsOk outs ds cls z := by
      refine ⟨G, fun c hc => ?_, fun c hc => ?_, by omega, hz⟩
      . rw [<- ecls] at hc
        obtain ⟨e, he, rfl⟩ := Zp.mp hc;have := hC e he;exact ⟨this.ok, this.dep, this.out⟩
      . rw [<- ecls] at hc
        obtain ⟨e, he, rfl⟩ := Zp.mp hc;exact Zd (hC e he).len (by decide)
    have items : ∀ i x, ((cs.map fun c => c.1) ++ [V.ref tz])[i]? = some x -> ItemC H4 ds cls z i x := fun i x hx => by
      by_cases hi : i < cs.length
      . rw [Zg (by rw [Za]; exact hi), Ze, Zb hi] at hx
        cases hx;obtain ⟨t', x', y', e, b1, b2⟩ := (hC _ (Zl hi)).ex;have ec : cls[i]? = some (cs[i]).2 := by rw [<- ecls, Ze, Zb hi]; rfl
        refine ⟨⟨t', x', _, _, y', e, b1, ?_, fun c hc => ?_, fun e => by omega⟩⟩
        . rw [txts, rlW, Ze, Zg (by rw [Za]; omega), Ze, ec]; rfl
        . rw [ec] at hc
          cases hc;exact ⟨rfl, b2⟩
      . rw [Zf (by rw [Za]; omega), Za] at hx
        have h0 : i - cs.length = 0 := by
          have := (Zc.mp hx).1;simp at this;omega
        rw [h0] at hx;cases hx;have ei : i = cls.length := by omega
        subst ei;refine ⟨⟨tz, _, _, _, y, rfl, htz, ?_, fun c hc => ?_, fun _ => ⟨rfl, rfl⟩⟩⟩
        . rw [txts, rlW, Ze, Zf (by rw [Za]; exact Zm _), Za, Nat.sub_self, jz]; rfl
        . rw [List.getElem?_eq_none (Zm _)] at hc
          cases hc
    have hfl : ((cs.map fun c => c.1) ++ [V.ref tz]).length = cls.length + 1 := by rw [Zo, Za, lcs]; rfl
    generalize ((cs.map fun c => c.1) ++ [V.ref tz]) = cvs at *;refine ⟨rfl, cl, rfl, ⟨_, .of hcl⟩, fun d2 => ?_⟩;have ltx : (txts ds cls z).length = cls.length + 1 := by rw [txts, Za, hOk.rlen]
    refine ye (xs := cvs) (PvTx H4 (txts ds cls z)) ⟨rfl, rfl⟩ ?_ ?_ ?_
    . rintro i ys H7 hi ⟨rfl, rfl⟩
      refine ⟨?_, .of hcl⟩;rw [Za, Zj];exact Zd (show _ <= 100 by omega) (by decide)
    . rintro i x ys H7 hx ⟨rfl, rfl⟩
      obtain ⟨t', y0, o0, w0, y1, rfl, ht', ew, _, _⟩ := (items i x hx).ex;simp only [zk, zj, ↓reduceIte];refine ⟨_, .of ht', _, zn (j := 2) rfl, rfl, ?_⟩;rw [Zq, ew, Zn];rfl
    . rintro ys H7 ⟨rfl, rfl⟩ l7 hl7
      rw [hfl, <- ltx, Zt];have S8 : Same H7 (upd H7 l7 (.lst ((txts ds cls z).map V.str))) := Same.upd (Same.refl _) hl7;have u8 : upd H7 l7 (.lst ((txts ds cls z).map V.str)) l7 = some (.lst ((txts ds cls z).map V.str)) := zc;generalize upd H7 l7 (.lst ((txts ds cls z).map V.str)) = H8 at *;refine ⟨txts ds cls z, .of u8, hOk.join, ?_⟩;have S48 := S4.trans S8
      have ltz : (Txt.join (Str.ofString "; ") (txts ds cls z)).length <= 8000 := by
        rw [wb];have h2 : (Str.ofString "; ").length = 2 := by decide +kernel
        have hsum : ∀ (ys : List Str), (∀ y ∈ ys, y.length <= 400) -> (ys.map fun x => x.length).sum <= ys.length * 400 := by
          intro ys
          induction ys with
          | nil => intro _; simp
          | cons y ys ih =>
            intro hy;have h1 := hy y ZA;have h3 := ih fun x hx => hy x (Zv _ hx)
            rw [ZM, Yn, ZL];omega
        have h3 := hsum _ hOk.short;have h4 := StrLaws.join_length_le (Str.ofString "; ") (txts ds cls z);rw [h2] at h4;rw [ltx] at h3 h4;omega
      exact ⟨sc, ns, 3, rfl, (S1.trans (S13.trans S48)).seq hS, by decide, fun v => ⟨_, v, rfl, ltz, fun H9 y S9 hy => hR H9 o b p o' h cl y outs xs ds hs ((S13.trans (S48.trans S9)) _ _ ho) (hL.mono (S13.trans (S48.trans S9))) G (hH.mono (S3.trans (S48.trans S9))) hy⟩⟩
theorem law_ok (B : Bt mg) (C : Ct K mg a) (d_is_whole : zl K mg "is_whole" rn ["thing"]) (d_is_bounded : zl K mg "is_bounded" ui ["thing"]) (d_is_grid_row : zl K mg "is_grid_row" vk ["thing", "width"]) (d_is_name : zl K mg "is_name" ph ["thing"]) (d_are_names : zl K mg "are_names" ux ["thing", "most"]) (d_are_worths : zl K mg "are_worths" ub ["thing", "height", "width"]) (d_is_hand : zl K mg "is_hand" qy ["thing", "width"]) (d_name_of : zl K mg "name_of" sk ["hand"]) (d_names_of : zl K mg "names_of" ue ["hands"]) (d_words_of_hand : zl K mg "words_of_hand" wa ["hand"]) (d_worths_of_hand : zl K mg "worths_of_hand" wp ["hand"]) (d_count_of_rows : zl K mg "count_of_rows" wx ["hands"]) (d_makes_house : zl K mg "makes_house" vo ["outcomes", "hands"]) (d_kept_hand : zl K mg "kept_hand" vh ["hand"]) (d_house_of : zl K mg "house_of" ua ["outcomes", "hands"]) (d_outcomes_of : zl K mg "outcomes_of" vj ["house"]) (d_hands_of : zl K mg "hands_of" rf ["house"]) (d_condition_of : zl K mg "condition_of" va ["told"]) (d_place_of : zl K mg "place_of" rj ["told"]) (d_word_at : zl K mg "word_at" pp ["words", "place"]) (d_read_says : zl K mg "read_says" tj ["house", "name", "word"]) (d_read_count : zl K mg "read_count" up ["house", "figure", "word"]) (d_read_condition : zl K mg "read_condition" wq ["house", "words", "place"]) (d_read_deal : zl K mg "read_deal" tf ["house", "words"]) (d_read_clause : zl K mg "read_clause" vp ["house", "words"]) (d_clauses_in : zl K mg "clauses_in" uk ["text"]) (d_read_rule : zl K mg "read_rule" tm ["house", "text"]) (d_condition_words : zl K mg "condition_words" wc ["house", "condition"]) (d_clause_text : zl K mg "clause_text" vm ["house", "condition", "outcome"]) (d_shown : zl K mg "shown" mv ["house", "rule"]) (d_law_cell_at : zl K mg "_law_cell_at" vn ["script", "k"]) (d_law_pool : zl K mg "_law_pool" z7 ["cell", "many"]) (d_law_parts : zl K mg "_law_parts" tu ["script"]) (d_law_rows : zl K mg "_law_rows" rg ["hands"]) (d_law_leaf : zl K mg "_law_leaf" qb ["cell", "hands", "rows"]) (d_law_joined : zl K mg "_law_joined" um ["head", "one", "other"]) (d_law_step : zl K mg "_law_step" xz ["stack", "cell", "hands", "rows"]) (d_law_clauses : zl K mg "_law_clauses" vq ["script", "outcomes", "hands", "rows"]) (d_law_spoiled : zl K mg "_law_spoiled" ze ["text", "cell"]) (d_law_has : zl K mg "_law_has" q8 ["hands", "word"]) (d_law_says : zl K mg "_law_says" rp ["hands", "name", "word"]) (d_law_behind : zl K mg "_law_behind" uq ["hands", "words"]) (d_law_good : zl K mg "_law_good" rh ["outcomes", "hands", "text"]) (base : Heap) {f : Addr} {fd : FuncData} (F : Fun K "law" "law" qx f fd) : FnOk P w K mg base CX0 50 f fd ["script"] (ad K) := by
  have c1 := yt (P := P) (w := w) (base := base) B d_law_cell_at;have c2 := uv (P := P) (w := w) (base := base) B d_law_pool;have c3 := ox B (o7 (P := P) (w := w) (base := base) B d_law_leaf) (qr B d_law_joined) d_law_step;have n1 := t8 (P := P) (w := w) (base := base) B d_is_name;have n2 := ww B n1 d_are_names;have n3 := rc B (qo B (o8 (P := P) (w := w) (base := base) B d_is_whole) d_is_bounded) d_is_grid_row;have n4 := qf B n3 d_are_worths;have n5 := mf B n1 n2 n4 d_is_hand;have n6 := xh (P := P) (w := w) (base := base) d_name_of;have n7 := yq (P := P) (w := w) (base := base) d_words_of_hand;have n8 := xu (P := P) (w := w) (base := base) d_worths_of_hand;have n9 := wu B n2 n5 (ug n6 d_names_of) (ud B n7 d_count_of_rows) d_makes_house;have n10 := bv B C n9 (e5 B n6 n7 n8 d_kept_hand) d_house_of;have m0 := iu (P := P) (w := w) (base := base) d_outcomes_of;have m1 := am (P := P) (w := w) (base := base) d_hands_of;have mw := kx (P := P) (w := w) (base := base) d_words_of_hand;have r1 := wj (P := P) (w := w) (base := base) B C d_word_at;have r2 := u0 B C m1 (aj (j0 (P := P) (w := w) (base := base) d_name_of) d_names_of) mw d_read_says;have r3 := xb (P := P) (w := w) (base := base) d_condition_of;have r4 := x6 (P := P) (w := w) (base := base) d_place_of;have r5 := vd B C m0 d_read_deal;have r6 := yz B C r1 r2 (uh B C m1 mw d_read_count) r3 r4 d_read_condition 41;have r7 := p0 B C (ql (P := P) (w := w) (base := base) B C d_clauses_in) (ra B C r6 r3 r4 r5 d_read_clause) r5 d_read_rule;exact law_fn B C (px B c1 c2 d_law_parts) n10 (oy d_law_rows) (re B c1 c3 d_law_clauses) c1 (sy (P := P) (w := w) (base := base) B d_law_spoiled) r7 (o9 B (qt B (ny (P := P) (w := w) (base := base) B d_law_has) (o4 (P := P) (w := w) (base := base) B d_law_says) d_law_behind) d_law_good) (jv B (rb B (xg B m1 (j0 (P := P) (w := w) (base := base) d_name_of) d_condition_words 40) d_clause_text) d_shown) F
end
end Mine
namespace Tp
open PySem PySem.W PySem.Calls PyProof.Rows
noncomputable section
abbrev pr : Program := PySem.Challenge.pw_trueword_k67_no_rule
def en (P : Params) (x : Str) (t : Nat) (v : Value) : DictEntry := ⟨PyData.keyHash P x, .str x t, v⟩
abbrev fn (i : Nat) (name qual : Str) (dV kV doc pm : Value) (an : Option Addr) (cdv ct : Value) : FuncData := fnOf name qual (L2.vz (Mine.top i)) (L2.zx (Mine.top i)) (L2.zf (Mine.top i)) dV kV doc pm an cdv ct
abbrev fx (i : Nat) (name qual : Str) (g : Addr) (dV kV doc pm : Value) (an : Option Addr) (cdv ct : Value) (b : Addr) : FuncData := ⟨name, qual, L2.vz (Mine.top i), .stmts (L2.zx (Mine.top i)), L2.zf (Mine.top i), g, [], dV, kV, doc, pm, an, cdv, ct, b⟩
def oE : Obj := ⟨.type "tuple", none, .seq #[] 0, #[]⟩
def oF : Obj := ⟨.none, none, .fields #[], #[]⟩
def tl : Nat -> List Str -> List Value
  | _, [] => []
  | t, x :: r => .str x t :: tl (t + 1) r
def ts (t : Nat) (xs : List Str) : Obj := ⟨.type "tuple", none, .seq (tl t xs).toArray 0, #[]⟩
def fo (i : Nat) (n m : Str) (t c : Nat) : Obj := ⟨.type "function", none, .func (fn i n n .none .none .none (.str m t) none (.ref c) .none), #[]⟩
def xo (i : Nat) (n : Str) : Obj := ⟨.none, none, .func (fx i n n 0 .none .none .none .none none .none .none 0), #[]⟩
def co (n : Str) (t l c f a : Nat) (b : Bool) (e : Nat) (v1 v2 v3 v4 : Value) (k : Nat) : Obj := ⟨.type "code", none, .fields #[.str n t, .str n (t + 1), .str "/claim/cut.py" (t + 2), .int l 0, .int c 0, .int 0 0, .int 0 0, .int f 0, .ref a, .bool b, .int 181 0, .ref e, v1, v2, v3, v4, .int k 0, .int l 0, .str "/claim/cut.py" (k + 1)], #[]⟩
def ia (t : BT) : Nat -> List Obj -> BT
  | _, [] => t
  | n, o :: r => ia (t.ins n o) (n + 1) r
def lf (P : Params) : Life := (boot_heap P).life
def env : Env := { scope := pr.main.scope, locals := mainNs, globals := mainNs, cells := [], code := (.ref 13), frame := some 14 }
def cd : Code := .body (behindTheImports pr) env
def qp : Pos := ⟨0, 0, 0, 0⟩
def o13 : Obj := (co "<module>" 182 1 0 0 11 false 12 .none .none .none .none 185)
def ha (P : Params) : Heap := ⟨⟨[boot_o_0 P, boot_o_1 P, boot_o_2 P, boot_o_3 P, boot_o_4 P, boot_o_5 P, boot_o_6 P, boot_o_7 P, boot_o_8 P, boot_o_9 P, boot_o_10 P, oE, oF, o13, ⟨(.type "frame"), none, .plain, #[(some (.ref 13)), (some (.ref 3)), (some (.ref 3)), none, (some (.str "__main__" 164)), none, (some (.ref 0))]⟩]⟩, lf P⟩
def t0 (P : Params) : BT := (.node (boot_o_0 P) (.node (boot_o_1 P) (.node (boot_o_3 P) (.node (boot_o_7 P) .nil .nil) (.node (oE) .nil .nil)) (.node (boot_o_5 P) (.node (boot_o_9 P) .nil .nil) (.node (o13) .nil .nil))) (.node (boot_o_2 P) (.node (boot_o_4 P) (.node (boot_o_8 P) .nil .nil) (.node (oF) .nil .nil)) (.node (boot_o_6 P) (.node (boot_o_10 P) .nil .nil) (.node (⟨(.type "frame"), none, .plain, #[(some (.ref 13)), (some (.ref 3)), (some (.ref 3)), none, (some (.str "__main__" 164)), none, (some (.ref 0))]⟩) .nil .nil))))
def o3 (P : Params) : Obj := ⟨(.type "dict"), none, (.dict #[en P "__name__" 165 (.str "trueword.errors" 187), en P "__doc__" 166 .none, en P "__package__" 167 .none, en P "__loader__" 168 (.builtin "__main__.__loader__#opaque"), en P "__spec__" 169 .none, en P "__annotations__" 170 (.ref 6), en P "__builtins__" 171 (.ref 4), en P "__file__" 173 (.str "/claim/cut.py" 172), en P "__cached__" 174 .none, en P "TrueError" 206 (.ref 24), en P "NoPays" 222 (.ref 37), en P "NoHouse" 238 (.ref 49), en P "NoMenu" 254 (.ref 61), en P "NoWeight" 270 (.ref 73), en P "NoShare" 286 (.ref 85), en P "NoRule" 302 (.ref 97)] 16), #[]⟩
def o17 (P : Params) : Obj := ⟨(.type "dict"), none, (.dict #[en P "__module__" 196 (.str "trueword.errors" 187), en P "__qualname__" 198 (.str "TrueError" 197), en P "__firstlineno__" 200 (.int (2) 199), en P "__static_attributes__" 201 (.ref 22)] 4), #[]⟩
def o20 : Obj := (co "TrueError" 191 2 0 0 18 false 19 .none .none .none .none 194)
def o23 (P : Params) : Obj := ⟨(.type "dict"), none, (.dict #[en P "__module__" 196 (.str "trueword.errors" 187), en P "__firstlineno__" 200 (.int (2) 199), en P "__static_attributes__" 201 (.ref 22), en P "__weakref__" 203 (.ref 25), en P "__doc__" 204 .none] 3), #[]⟩
def o24 : Obj := ⟨(.type "type"), none, (.cls ⟨"TrueError", [(.type "ValueError")], [(.ref 24), (.type "ValueError"), (.type "Exception"), (.type "BaseException"), (.type "object")], 23, "TrueError", true, [], [(.ref 37), (.ref 49), (.ref 61), (.ref 73), (.ref 85), (.ref 97)], false, none, false⟩), #[(some (.ref 15)), none, (some (.str "TrueError" 189)), (some (.str "TrueError" 197)), (some (.builtin "ValueError.__new__")), (some (.bool true))]⟩
def o30 (P : Params) : Obj := ⟨(.type "dict"), none, (.dict #[en P "__module__" 214 (.str "trueword.errors" 187), en P "__qualname__" 216 (.str "NoPays" 215), en P "__firstlineno__" 218 (.int (4) 217), en P "__static_attributes__" 219 (.ref 35)] 4), #[]⟩
def o33 : Obj := (co "NoPays" 209 4 0 0 31 false 32 .none .none .none .none 212)
def o36 (P : Params) : Obj := ⟨(.type "dict"), none, (.dict #[en P "__module__" 214 (.str "trueword.errors" 187), en P "__firstlineno__" 218 (.int (4) 217), en P "__static_attributes__" 219 (.ref 35), en P "__doc__" 220 .none] 2), #[]⟩
def o37 : Obj := ⟨(.type "type"), none, (.cls ⟨"NoPays", [(.ref 24)], [(.ref 37), (.ref 24), (.type "ValueError"), (.type "Exception"), (.type "BaseException"), (.type "object")], 36, "NoPays", true, [], [], false, none, false⟩), #[(some (.ref 28)), none, (some (.str "NoPays" 207)), (some (.str "NoPays" 215)), (some (.builtin "ValueError.__new__")), (some (.bool true))]⟩
def o42 (P : Params) : Obj := ⟨(.type "dict"), none, (.dict #[en P "__module__" 230 (.str "trueword.errors" 187), en P "__qualname__" 232 (.str "NoHouse" 231), en P "__firstlineno__" 234 (.int (6) 233), en P "__static_attributes__" 235 (.ref 47)] 4), #[]⟩
def o45 : Obj := (co "NoHouse" 225 6 0 0 43 false 44 .none .none .none .none 228)
def o48 (P : Params) : Obj := ⟨(.type "dict"), none, (.dict #[en P "__module__" 230 (.str "trueword.errors" 187), en P "__firstlineno__" 234 (.int (6) 233), en P "__static_attributes__" 235 (.ref 47), en P "__doc__" 236 .none] 2), #[]⟩
def o49 : Obj := ⟨(.type "type"), none, (.cls ⟨"NoHouse", [(.ref 24)], [(.ref 49), (.ref 24), (.type "ValueError"), (.type "Exception"), (.type "BaseException"), (.type "object")], 48, "NoHouse", true, [], [], false, none, false⟩), #[(some (.ref 40)), none, (some (.str "NoHouse" 223)), (some (.str "NoHouse" 231)), (some (.builtin "ValueError.__new__")), (some (.bool true))]⟩
def o54 (P : Params) : Obj := ⟨(.type "dict"), none, (.dict #[en P "__module__" 246 (.str "trueword.errors" 187), en P "__qualname__" 248 (.str "NoMenu" 247), en P "__firstlineno__" 250 (.int (8) 249), en P "__static_attributes__" 251 (.ref 59)] 4), #[]⟩
def o57 : Obj := (co "NoMenu" 241 8 0 0 55 false 56 .none .none .none .none 244)
def o60 (P : Params) : Obj := ⟨(.type "dict"), none, (.dict #[en P "__module__" 246 (.str "trueword.errors" 187), en P "__firstlineno__" 250 (.int (8) 249), en P "__static_attributes__" 251 (.ref 59), en P "__doc__" 252 .none] 2), #[]⟩
def o61 : Obj := ⟨(.type "type"), none, (.cls ⟨"NoMenu", [(.ref 24)], [(.ref 61), (.ref 24), (.type "ValueError"), (.type "Exception"), (.type "BaseException"), (.type "object")], 60, "NoMenu", true, [], [], false, none, false⟩), #[(some (.ref 52)), none, (some (.str "NoMenu" 239)), (some (.str "NoMenu" 247)), (some (.builtin "ValueError.__new__")), (some (.bool true))]⟩
def o66 (P : Params) : Obj := ⟨(.type "dict"), none, (.dict #[en P "__module__" 262 (.str "trueword.errors" 187), en P "__qualname__" 264 (.str "NoWeight" 263), en P "__firstlineno__" 266 (.int (10) 265), en P "__static_attributes__" 267 (.ref 71)] 4), #[]⟩
def o69 : Obj := (co "NoWeight" 257 10 0 0 67 false 68 .none .none .none .none 260)
def o72 (P : Params) : Obj := ⟨(.type "dict"), none, (.dict #[en P "__module__" 262 (.str "trueword.errors" 187), en P "__firstlineno__" 266 (.int (10) 265), en P "__static_attributes__" 267 (.ref 71), en P "__doc__" 268 .none] 2), #[]⟩
def o73 : Obj := ⟨(.type "type"), none, (.cls ⟨"NoWeight", [(.ref 24)], [(.ref 73), (.ref 24), (.type "ValueError"), (.type "Exception"), (.type "BaseException"), (.type "object")], 72, "NoWeight", true, [], [], false, none, false⟩), #[(some (.ref 64)), none, (some (.str "NoWeight" 255)), (some (.str "NoWeight" 263)), (some (.builtin "ValueError.__new__")), (some (.bool true))]⟩
def o78 (P : Params) : Obj := ⟨(.type "dict"), none, (.dict #[en P "__module__" 278 (.str "trueword.errors" 187), en P "__qualname__" 280 (.str "NoShare" 279), en P "__firstlineno__" 282 (.int (12) 281), en P "__static_attributes__" 283 (.ref 83)] 4), #[]⟩
def o81 : Obj := (co "NoShare" 273 12 0 0 79 false 80 .none .none .none .none 276)
def o84 (P : Params) : Obj := ⟨(.type "dict"), none, (.dict #[en P "__module__" 278 (.str "trueword.errors" 187), en P "__firstlineno__" 282 (.int (12) 281), en P "__static_attributes__" 283 (.ref 83), en P "__doc__" 284 .none] 2), #[]⟩
def o85 : Obj := ⟨(.type "type"), none, (.cls ⟨"NoShare", [(.ref 24)], [(.ref 85), (.ref 24), (.type "ValueError"), (.type "Exception"), (.type "BaseException"), (.type "object")], 84, "NoShare", true, [], [], false, none, false⟩), #[(some (.ref 76)), none, (some (.str "NoShare" 271)), (some (.str "NoShare" 279)), (some (.builtin "ValueError.__new__")), (some (.bool true))]⟩
def o90 (P : Params) : Obj := ⟨(.type "dict"), none, (.dict #[en P "__module__" 294 (.str "trueword.errors" 187), en P "__qualname__" 296 (.str "NoRule" 295), en P "__firstlineno__" 298 (.int (14) 297), en P "__static_attributes__" 299 (.ref 95)] 4), #[]⟩
def o93 : Obj := (co "NoRule" 289 14 0 0 91 false 92 .none .none .none .none 292)
def o96 (P : Params) : Obj := ⟨(.type "dict"), none, (.dict #[en P "__module__" 294 (.str "trueword.errors" 187), en P "__firstlineno__" 298 (.int (14) 297), en P "__static_attributes__" 299 (.ref 95), en P "__doc__" 300 .none] 2), #[]⟩
def o97 : Obj := ⟨(.type "type"), none, (.cls ⟨"NoRule", [(.ref 24)], [(.ref 97), (.ref 24), (.type "ValueError"), (.type "Exception"), (.type "BaseException"), (.type "object")], 96, "NoRule", true, [], [], false, none, false⟩), #[(some (.ref 88)), none, (some (.str "NoRule" 287)), (some (.str "NoRule" 295)), (some (.builtin "ValueError.__new__")), (some (.bool true))]⟩
def t1 (P : Params) : BT := ia (((t0 P).set 3 fun _ => o3 P).set 12 fun _ => ⟨.none, none, (.fields #[(.int (2) 0), (.int (0) 0), (.ref 20), (.int (4) 0), (.int (0) 0), (.ref 33), (.int (6) 0), (.int (0) 0), (.ref 45), (.int (8) 0), (.int (0) 0), (.ref 57), (.int (10) 0), (.int (0) 0), (.ref 69), (.int (12) 0), (.int (0) 0), (.ref 81), (.int (14) 0), (.int (0) 0), (.ref 93)]), #[]⟩) 15 [⟨(.type "tuple"), none, (.seq #[(.type "ValueError")] 0), #[]⟩, ⟨(.type "builtin_function_or_method"), none, (.fields #[(.builtin "type.__prepare__"), (.type "type")]), #[]⟩, o17 P, oE, oF, o20, ⟨(.type "frame"), none, .plain, #[(some (.ref 20)), (some (.ref 3)), (some (.ref 17)), none, (some (.str "trueword.errors" 187)), none, (some (.ref 0))]⟩, oE, o23 P, o24, ⟨(.type "getset_descriptor"), none, (.fields #[(.str "__weakref__" 202), (.ref 24), (.builtin "ExceptionGroup.__weakref__"), .none]), #[]⟩, ⟨(.type "super"), none, (.fields #[(.ref 24), (.ref 24), (.ref 24)]), #[]⟩, ⟨(.type "builtin_function_or_method"), none, (.fields #[(.builtin "object.__init_subclass__"), (.ref 24)]), #[]⟩, ⟨(.type "tuple"), none, (.seq #[(.ref 24)] 0), #[]⟩, ⟨(.type "builtin_function_or_method"), none, (.fields #[(.builtin "type.__prepare__"), (.type "type")]), #[]⟩, o30 P, oE, oF, o33, ⟨(.type "frame"), none, .plain, #[(some (.ref 33)), (some (.ref 3)), (some (.ref 30)), none, (some (.str "trueword.errors" 187)), none, (some (.ref 0))]⟩, oE, o36 P, o37, ⟨(.type "super"), none, (.fields #[(.ref 37), (.ref 37), (.ref 37)]), #[]⟩, ⟨(.type "builtin_function_or_method"), none, (.fields #[(.builtin "object.__init_subclass__"), (.ref 37)]), #[]⟩, ⟨(.type "tuple"), none, (.seq #[(.ref 24)] 0), #[]⟩, ⟨(.type "builtin_function_or_method"), none, (.fields #[(.builtin "type.__prepare__"), (.type "type")]), #[]⟩, o42 P, oE, oF, o45, ⟨(.type "frame"), none, .plain, #[(some (.ref 45)), (some (.ref 3)), (some (.ref 42)), none, (some (.str "trueword.errors" 187)), none, (some (.ref 0))]⟩, oE, o48 P, o49, ⟨(.type "super"), none, (.fields #[(.ref 49), (.ref 49), (.ref 49)]), #[]⟩, ⟨(.type "builtin_function_or_method"), none, (.fields #[(.builtin "object.__init_subclass__"), (.ref 49)]), #[]⟩, ⟨(.type "tuple"), none, (.seq #[(.ref 24)] 0), #[]⟩, ⟨(.type "builtin_function_or_method"), none, (.fields #[(.builtin "type.__prepare__"), (.type "type")]), #[]⟩, o54 P, oE, oF, o57, ⟨(.type "frame"), none, .plain, #[(some (.ref 57)), (some (.ref 3)), (some (.ref 54)), none, (some (.str "trueword.errors" 187)), none, (some (.ref 0))]⟩, oE, o60 P, o61, ⟨(.type "super"), none, (.fields #[(.ref 61), (.ref 61), (.ref 61)]), #[]⟩, ⟨(.type "builtin_function_or_method"), none, (.fields #[(.builtin "object.__init_subclass__"), (.ref 61)]), #[]⟩, ⟨(.type "tuple"), none, (.seq #[(.ref 24)] 0), #[]⟩, ⟨(.type "builtin_function_or_method"), none, (.fields #[(.builtin "type.__prepare__"), (.type "type")]), #[]⟩, o66 P, oE, oF, o69, ⟨(.type "frame"), none, .plain, #[(some (.ref 69)), (some (.ref 3)), (some (.ref 66)), none, (some (.str "trueword.errors" 187)), none, (some (.ref 0))]⟩, oE, o72 P, o73, ⟨(.type "super"), none, (.fields #[(.ref 73), (.ref 73), (.ref 73)]), #[]⟩, ⟨(.type "builtin_function_or_method"), none, (.fields #[(.builtin "object.__init_subclass__"), (.ref 73)]), #[]⟩, ⟨(.type "tuple"), none, (.seq #[(.ref 24)] 0), #[]⟩, ⟨(.type "builtin_function_or_method"), none, (.fields #[(.builtin "type.__prepare__"), (.type "type")]), #[]⟩, o78 P, oE, oF, o81, ⟨(.type "frame"), none, .plain, #[(some (.ref 81)), (some (.ref 3)), (some (.ref 78)), none, (some (.str "trueword.errors" 187)), none, (some (.ref 0))]⟩, oE, o84 P, o85, ⟨(.type "super"), none, (.fields #[(.ref 85), (.ref 85), (.ref 85)]), #[]⟩, ⟨(.type "builtin_function_or_method"), none, (.fields #[(.builtin "object.__init_subclass__"), (.ref 85)]), #[]⟩, ⟨(.type "tuple"), none, (.seq #[(.ref 24)] 0), #[]⟩, ⟨(.type "builtin_function_or_method"), none, (.fields #[(.builtin "type.__prepare__"), (.type "type")]), #[]⟩, o90 P, oE, oF, o93, ⟨(.type "frame"), none, .plain, #[(some (.ref 93)), (some (.ref 3)), (some (.ref 90)), none, (some (.str "trueword.errors" 187)), none, (some (.ref 0))]⟩, oE, o96 P, o97, ⟨(.type "super"), none, (.fields #[(.ref 97), (.ref 97), (.ref 97)]), #[]⟩, ⟨(.type "builtin_function_or_method"), none, (.fields #[(.builtin "object.__init_subclass__"), (.ref 97)]), #[]⟩]
def o3_1 (P : Params) : Obj := ⟨(.type "dict"), none, (.dict #[en P "__name__" 165 (.str "trueword.rules" 479), en P "__doc__" 166 .none, en P "__package__" 167 .none, en P "__loader__" 168 (.builtin "__main__.__loader__#opaque"), en P "__spec__" 169 .none, en P "__annotations__" 170 (.ref 6), en P "__builtins__" 171 (.ref 4), en P "__file__" 173 (.str "/claim/cut.py" 172), en P "__cached__" 174 .none, en P "TrueError" 206 (.ref 24), en P "NoPays" 222 (.ref 37), en P "NoHouse" 238 (.ref 49), en P "NoMenu" 254 (.ref 61), en P "NoWeight" 270 (.ref 73), en P "NoShare" 286 (.ref 85), en P "NoRule" 302 (.ref 97), en P "NoRow" 318 (.ref 109), en P "NoStand" 334 (.ref 121), en P "NoWord" 350 (.ref 133), en P "MOST_WORDS" 354 (.int (8) 353), en P "is_whole" 361 (.ref 142), en P "is_bounded" 368 (.ref 149), en P "is_grid_row" 374 (.ref 154), en P "MOST_LETTERS" 378 (.int (8) 377), en P "MOST_OUTCOMES" 380 (.int (8) 379), en P "MOST_HANDS" 382 (.int (4) 381), en P "MOST_ROWS" 384 (.int (256) 383), en P "is_name" 390 (.ref 159), en P "are_names" 396 (.ref 164), en P "are_worths" 402 (.ref 169), en P "is_hand" 410 (.ref 176), en P "name_of" 417 (.ref 183), en P "names_of" 423 (.ref 188), en P "words_of_hand" 430 (.ref 195), en P "worths_of_hand" 437 (.ref 202), en P "count_of_rows" 446 (.ref 209), en P "makes_house" 452 (.ref 214), en P "kept_hand" 458 (.ref 219), en P "house_of" 464 (.ref 224), en P "outcomes_of" 471 (.ref 231), en P "hands_of" 478 (.ref 238), en P "MOST_CLAUSES" 482 (.int (20) 481), en P "MOST_CLAUSE_WORDS" 484 (.int (40) 483), en P "COUNTS" 489 (.ref 239), en P "condition_of" 496 (.ref 246), en P "place_of" 503 (.ref 253), en P "word_at" 511 (.ref 260), en P "read_says" 522 (.ref 267), en P "read_count" 528 (.ref 272), en P "read_condition" 541 (.ref 279), en P "read_deal" 549 (.ref 286), en P "read_clause" 558 (.ref 293), en P "clauses_in" 564 (.ref 298)] 53), #[]⟩
def o24_1 : Obj := ⟨(.type "type"), none, (.cls ⟨"TrueError", [(.type "ValueError")], [(.ref 24), (.type "ValueError"), (.type "Exception"), (.type "BaseException"), (.type "object")], 23, "TrueError", true, [], [(.ref 37), (.ref 49), (.ref 61), (.ref 73), (.ref 85), (.ref 97), (.ref 109), (.ref 121), (.ref 133)], false, none, false⟩), #[(some (.ref 15)), none, (some (.str "TrueError" 189)), (some (.str "TrueError" 197)), (some (.builtin "ValueError.__new__")), (some (.bool true))]⟩
def o102 (P : Params) : Obj := ⟨(.type "dict"), none, (.dict #[en P "__module__" 310 (.str "trueword.errors" 187), en P "__qualname__" 312 (.str "NoRow" 311), en P "__firstlineno__" 314 (.int (16) 313), en P "__static_attributes__" 315 (.ref 107)] 4), #[]⟩
def o105 : Obj := (co "NoRow" 305 16 0 0 103 false 104 .none .none .none .none 308)
def o108 (P : Params) : Obj := ⟨(.type "dict"), none, (.dict #[en P "__module__" 310 (.str "trueword.errors" 187), en P "__firstlineno__" 314 (.int (16) 313), en P "__static_attributes__" 315 (.ref 107), en P "__doc__" 316 .none] 2), #[]⟩
def o109 : Obj := ⟨(.type "type"), none, (.cls ⟨"NoRow", [(.ref 24)], [(.ref 109), (.ref 24), (.type "ValueError"), (.type "Exception"), (.type "BaseException"), (.type "object")], 108, "NoRow", true, [], [], false, none, false⟩), #[(some (.ref 100)), none, (some (.str "NoRow" 303)), (some (.str "NoRow" 311)), (some (.builtin "ValueError.__new__")), (some (.bool true))]⟩
def o114 (P : Params) : Obj := ⟨(.type "dict"), none, (.dict #[en P "__module__" 326 (.str "trueword.errors" 187), en P "__qualname__" 328 (.str "NoStand" 327), en P "__firstlineno__" 330 (.int (18) 329), en P "__static_attributes__" 331 (.ref 119)] 4), #[]⟩
def o117 : Obj := (co "NoStand" 321 18 0 0 115 false 116 .none .none .none .none 324)
def o120 (P : Params) : Obj := ⟨(.type "dict"), none, (.dict #[en P "__module__" 326 (.str "trueword.errors" 187), en P "__firstlineno__" 330 (.int (18) 329), en P "__static_attributes__" 331 (.ref 119), en P "__doc__" 332 .none] 2), #[]⟩
def o121 : Obj := ⟨(.type "type"), none, (.cls ⟨"NoStand", [(.ref 24)], [(.ref 121), (.ref 24), (.type "ValueError"), (.type "Exception"), (.type "BaseException"), (.type "object")], 120, "NoStand", true, [], [], false, none, false⟩), #[(some (.ref 112)), none, (some (.str "NoStand" 319)), (some (.str "NoStand" 327)), (some (.builtin "ValueError.__new__")), (some (.bool true))]⟩
def o126 (P : Params) : Obj := ⟨(.type "dict"), none, (.dict #[en P "__module__" 342 (.str "trueword.errors" 187), en P "__qualname__" 344 (.str "NoWord" 343), en P "__firstlineno__" 346 (.int (20) 345), en P "__static_attributes__" 347 (.ref 131)] 4), #[]⟩
def o129 : Obj := (co "NoWord" 337 20 0 0 127 false 128 .none .none .none .none 340)
def o132 (P : Params) : Obj := ⟨(.type "dict"), none, (.dict #[en P "__module__" 342 (.str "trueword.errors" 187), en P "__firstlineno__" 346 (.int (20) 345), en P "__static_attributes__" 347 (.ref 131), en P "__doc__" 348 .none] 2), #[]⟩
def o133 : Obj := ⟨(.type "type"), none, (.cls ⟨"NoWord", [(.ref 24)], [(.ref 133), (.ref 24), (.type "ValueError"), (.type "Exception"), (.type "BaseException"), (.type "object")], 132, "NoWord", true, [], [], false, none, false⟩), #[(some (.ref 124)), none, (some (.str "NoWord" 335)), (some (.str "NoWord" 343)), (some (.builtin "ValueError.__new__")), (some (.bool true))]⟩
def o141 : Obj := (co "is_whole" 355 24 1 3 136 true 137 .none (.ref 138) (.ref 139) (.ref 140) 359)
def o142 : Obj := (fo 13 "is_whole" "trueword.grids" 351 141)
def o148 : Obj := (co "is_bounded" 362 26 1 3 143 true 144 .none (.ref 145) (.ref 146) (.ref 147) 366)
def o149 : Obj := (fo 14 "is_bounded" "trueword.grids" 351 148)
def o153 : Obj := (co "is_grid_row" 369 28 2 3 150 true 151 .none .none .none (.ref 152) 372)
def o154 : Obj := (fo 15 "is_grid_row" "trueword.grids" 351 153)
def o158 : Obj := (co "is_name" 385 37 1 3 155 true 156 .none .none .none (.ref 157) 388)
def o159 : Obj := (fo 21 "is_name" "trueword.houses" 375 158)
def o163 : Obj := (co "are_names" 391 41 2 3 160 true 161 .none .none .none (.ref 162) 394)
def o164 : Obj := (fo 22 "are_names" "trueword.houses" 375 163)
def o168 : Obj := (co "are_worths" 397 45 3 3 165 true 166 .none .none .none (.ref 167) 400)
def o169 : Obj := (fo 23 "are_worths" "trueword.houses" 375 168)
def o175 : Obj := (co "is_hand" 403 49 2 3 170 true 171 .none (.ref 172) (.ref 173) (.ref 174) 408)
def o176 : Obj := (fo 24 "is_hand" "trueword.houses" 375 175)
def o182 : Obj := (co "name_of" 411 53 1 3 177 true 178 .none (.ref 179) (.ref 180) (.ref 181) 415)
def o183 : Obj := (fo 25 "name_of" "trueword.houses" 375 182)
def o187 : Obj := (co "names_of" 418 55 1 3 184 true 185 .none .none .none (.ref 186) 421)
def o188 : Obj := (fo 26 "names_of" "trueword.houses" 375 187)
def o194 : Obj := (co "words_of_hand" 424 57 1 3 189 true 190 .none (.ref 191) (.ref 192) (.ref 193) 428)
def o195 : Obj := (fo 27 "words_of_hand" "trueword.houses" 375 194)
def o201 : Obj := (co "worths_of_hand" 431 59 1 3 196 true 197 .none (.ref 198) (.ref 199) (.ref 200) 435)
def o202 : Obj := (fo 28 "worths_of_hand" "trueword.houses" 375 201)
def o208 : Obj := (co "count_of_rows" 438 61 1 3 203 true 204 .none (.ref 205) (.ref 206) (.ref 207) 444)
def o209 : Obj := (fo 29 "count_of_rows" "trueword.houses" 375 208)
def o213 : Obj := (co "makes_house" 447 66 2 3 210 true 211 .none .none .none (.ref 212) 450)
def o214 : Obj := (fo 30 "makes_house" "trueword.houses" 375 213)
def o218 : Obj := (co "kept_hand" 453 72 1 3 215 true 216 .none .none .none (.ref 217) 456)
def o219 : Obj := (fo 31 "kept_hand" "trueword.houses" 375 218)
def o223 : Obj := (co "house_of" 459 75 2 3 220 true 221 .none .none .none (.ref 222) 462)
def o224 : Obj := (fo 32 "house_of" "trueword.houses" 375 223)
def o230 : Obj := (co "outcomes_of" 465 79 1 3 225 true 226 .none (.ref 227) (.ref 228) (.ref 229) 469)
def o231 : Obj := (fo 33 "outcomes_of" "trueword.houses" 375 230)
def o237 : Obj := (co "hands_of" 472 81 1 3 232 true 233 .none (.ref 234) (.ref 235) (.ref 236) 476)
def o238 : Obj := (fo 34 "hands_of" "trueword.houses" 375 237)
def o239 : Obj := (ts 485 ["1", "2", "3", "4"])
def o245 : Obj := (co "condition_of" 490 87 1 3 240 true 241 .none (.ref 242) (.ref 243) (.ref 244) 494)
def o246 : Obj := (fo 39 "condition_of" "trueword.rules" 479 245)
def o252 : Obj := (co "place_of" 497 89 1 3 247 true 248 .none (.ref 249) (.ref 250) (.ref 251) 501)
def o253 : Obj := (fo 40 "place_of" "trueword.rules" 479 252)
def o259 : Obj := (co "word_at" 504 91 2 3 254 true 255 .none (.ref 256) (.ref 257) (.ref 258) 509)
def o260 : Obj := (fo 41 "word_at" "trueword.rules" 479 259)
def o266 : Obj := (co "read_says" 512 95 3 3 261 true 262 .none (.ref 263) (.ref 264) (.ref 265) 520)
def o267 : Obj := (fo 42 "read_says" "trueword.rules" 479 266)
def o271 : Obj := (co "read_count" 523 103 3 3 268 true 269 .none .none .none (.ref 270) 526)
def o272 : Obj := (fo 43 "read_count" "trueword.rules" 479 271)
def o278 : Obj := (co "read_condition" 529 109 3 3 273 true 274 .none (.ref 275) (.ref 276) (.ref 277) 539)
def o279 : Obj := (fo 44 "read_condition" "trueword.rules" 479 278)
def o285 : Obj := (co "read_deal" 542 123 2 3 280 true 281 .none (.ref 282) (.ref 283) (.ref 284) 547)
def o286 : Obj := (fo 45 "read_deal" "trueword.rules" 479 285)
def o292 : Obj := (co "read_clause" 550 127 2 3 287 true 288 .none (.ref 289) (.ref 290) (.ref 291) 556)
def o293 : Obj := (fo 46 "read_clause" "trueword.rules" 479 292)
def o297 : Obj := (co "clauses_in" 559 132 1 3 294 true 295 .none .none .none (.ref 296) 562)
def o298 : Obj := (fo 47 "clauses_in" "trueword.rules" 479 297)
def t2 (P : Params) : BT := ia ((((t1 P).set 3 fun _ => o3_1 P).set 12 fun _ => ⟨.none, none, (.fields #[(.int (2) 0), (.int (0) 0), (.ref 20), (.int (4) 0), (.int (0) 0), (.ref 33), (.int (6) 0), (.int (0) 0), (.ref 45), (.int (8) 0), (.int (0) 0), (.ref 57), (.int (10) 0), (.int (0) 0), (.ref 69), (.int (12) 0), (.int (0) 0), (.ref 81), (.int (14) 0), (.int (0) 0), (.ref 93), (.int (16) 0), (.int (0) 0), (.ref 105), (.int (18) 0), (.int (0) 0), (.ref 117), (.int (20) 0), (.int (0) 0), (.ref 129), (.int (24) 0), (.int (0) 0), (.ref 141), (.int (26) 0), (.int (0) 0), (.ref 148), (.int (28) 0), (.int (0) 0), (.ref 153), (.int (37) 0), (.int (0) 0), (.ref 158), (.int (41) 0), (.int (0) 0), (.ref 163), (.int (45) 0), (.int (0) 0), (.ref 168), (.int (49) 0), (.int (0) 0), (.ref 175), (.int (53) 0), (.int (0) 0), (.ref 182), (.int (55) 0), (.int (0) 0), (.ref 187), (.int (57) 0), (.int (0) 0), (.ref 194), (.int (59) 0), (.int (0) 0), (.ref 201), (.int (61) 0), (.int (0) 0), (.ref 208), (.int (66) 0), (.int (0) 0), (.ref 213), (.int (72) 0), (.int (0) 0), (.ref 218), (.int (75) 0), (.int (0) 0), (.ref 223), (.int (79) 0), (.int (0) 0), (.ref 230), (.int (81) 0), (.int (0) 0), (.ref 237), (.int (87) 0), (.int (0) 0), (.ref 245), (.int (89) 0), (.int (0) 0), (.ref 252), (.int (91) 0), (.int (0) 0), (.ref 259), (.int (95) 0), (.int (0) 0), (.ref 266), (.int (103) 0), (.int (0) 0), (.ref 271), (.int (109) 0), (.int (0) 0), (.ref 278), (.int (123) 0), (.int (0) 0), (.ref 285), (.int (127) 0), (.int (0) 0), (.ref 292), (.int (132) 0), (.int (0) 0), (.ref 297)]), #[]⟩).set 24 fun _ => o24_1) 100 [⟨(.type "tuple"), none, (.seq #[(.ref 24)] 0), #[]⟩, ⟨(.type "builtin_function_or_method"), none, (.fields #[(.builtin "type.__prepare__"), (.type "type")]), #[]⟩, o102 P, oE, oF, o105, ⟨(.type "frame"), none, .plain, #[(some (.ref 105)), (some (.ref 3)), (some (.ref 102)), none, (some (.str "trueword.errors" 187)), none, (some (.ref 0))]⟩, oE, o108 P, o109, ⟨(.type "super"), none, (.fields #[(.ref 109), (.ref 109), (.ref 109)]), #[]⟩, ⟨(.type "builtin_function_or_method"), none, (.fields #[(.builtin "object.__init_subclass__"), (.ref 109)]), #[]⟩, ⟨(.type "tuple"), none, (.seq #[(.ref 24)] 0), #[]⟩, ⟨(.type "builtin_function_or_method"), none, (.fields #[(.builtin "type.__prepare__"), (.type "type")]), #[]⟩, o114 P, oE, oF, o117, ⟨(.type "frame"), none, .plain, #[(some (.ref 117)), (some (.ref 3)), (some (.ref 114)), none, (some (.str "trueword.errors" 187)), none, (some (.ref 0))]⟩, oE, o120 P, o121, ⟨(.type "super"), none, (.fields #[(.ref 121), (.ref 121), (.ref 121)]), #[]⟩, ⟨(.type "builtin_function_or_method"), none, (.fields #[(.builtin "object.__init_subclass__"), (.ref 121)]), #[]⟩, ⟨(.type "tuple"), none, (.seq #[(.ref 24)] 0), #[]⟩, ⟨(.type "builtin_function_or_method"), none, (.fields #[(.builtin "type.__prepare__"), (.type "type")]), #[]⟩, o126 P, oE, oF, o129, ⟨(.type "frame"), none, .plain, #[(some (.ref 129)), (some (.ref 3)), (some (.ref 126)), none, (some (.str "trueword.errors" 187)), none, (some (.ref 0))]⟩, oE, o132 P, o133, ⟨(.type "super"), none, (.fields #[(.ref 133), (.ref 133), (.ref 133)]), #[]⟩, ⟨(.type "builtin_function_or_method"), none, (.fields #[(.builtin "object.__init_subclass__"), (.ref 133)]), #[]⟩, oE, oF, (ts 358 ["thing"]), oE, (xo 13 "is_whole"), o141, o142, oE, oF, (ts 365 ["thing"]), oE, (xo 14 "is_bounded"), o148, o149, oE, oF, (xo 15 "is_grid_row"), o153, o154, oE, oF, (xo 21 "is_name"), o158, o159, oE, oF, (xo 22 "are_names"), o163, o164, oE, oF, (xo 23 "are_worths"), o168, o169, oE, oF, (ts 406 ["thing", "width"]), oE, (xo 24 "is_hand"), o175, o176, oE, oF, (ts 414 ["hand"]), oE, (xo 25 "name_of"), o182, o183, oE, oF, (xo 26 "names_of"), o187, o188, oE, oF, (ts 427 ["hand"]), oE, (xo 27 "words_of_hand"), o194, o195, oE, oF, (ts 434 ["hand"]), oE, (xo 28 "worths_of_hand"), o201, o202, oE, oF, (ts 441 ["hands", "count", "hand"]), oE, (xo 29 "count_of_rows"), o208, o209, oE, oF, (xo 30 "makes_house"), o213, o214, oE, oF, (xo 31 "kept_hand"), o218, o219, oE, oF, (xo 32 "house_of"), o223, o224, oE, oF, (ts 468 ["house"]), oE, (xo 33 "outcomes_of"), o230, o231, oE, oF, (ts 475 ["house"]), oE, (xo 34 "hands_of"), o237, o238, o239, oE, oF, (ts 493 ["told"]), oE, (xo 39 "condition_of"), o245, o246, oE, oF, (ts 500 ["told"]), oE, (xo 40 "place_of"), o252, o253, oE, oF, (ts 507 ["words", "place"]), oE, (xo 41 "word_at"), o259, o260, oE, oF, (ts 515 ["house", "name", "word", "names", "k"]), oE, (xo 42 "read_says"), o266, o267, oE, oF, (xo 43 "read_count"), o271, o272, oE, oF, (ts 532 ["house", "words", "place", "kind", "told", "one", "other"]), oE, (xo 44 "read_condition"), o278, o279, oE, oF, (ts 545 ["house", "words"]), oE, (xo 45 "read_deal"), o285, o286, oE, oF, (ts 553 ["house", "words", "told"]), oE, (xo 46 "read_clause"), o292, o293, oE, oF, (xo 47 "clauses_in"), o297, o298]
def o3_2 (P : Params) : Obj := ⟨(.type "dict"), none, (.dict #[en P "__name__" 165 (.str "law_trueword_k67_no_rule" 597), en P "__doc__" 166 .none, en P "__package__" 167 .none, en P "__loader__" 168 (.builtin "__main__.__loader__#opaque"), en P "__spec__" 169 .none, en P "__annotations__" 170 (.ref 6), en P "__builtins__" 171 (.ref 4), en P "__file__" 173 (.str "/claim/cut.py" 172), en P "__cached__" 174 .none, en P "TrueError" 206 (.ref 24), en P "NoPays" 222 (.ref 37), en P "NoHouse" 238 (.ref 49), en P "NoMenu" 254 (.ref 61), en P "NoWeight" 270 (.ref 73), en P "NoShare" 286 (.ref 85), en P "NoRule" 302 (.ref 97), en P "NoRow" 318 (.ref 109), en P "NoStand" 334 (.ref 121), en P "NoWord" 350 (.ref 133), en P "MOST_WORDS" 354 (.int (8) 353), en P "is_whole" 361 (.ref 142), en P "is_bounded" 368 (.ref 149), en P "is_grid_row" 374 (.ref 154), en P "MOST_LETTERS" 378 (.int (8) 377), en P "MOST_OUTCOMES" 380 (.int (8) 379), en P "MOST_HANDS" 382 (.int (4) 381), en P "MOST_ROWS" 384 (.int (256) 383), en P "is_name" 390 (.ref 159), en P "are_names" 396 (.ref 164), en P "are_worths" 402 (.ref 169), en P "is_hand" 410 (.ref 176), en P "name_of" 417 (.ref 183), en P "names_of" 423 (.ref 188), en P "words_of_hand" 430 (.ref 195), en P "worths_of_hand" 437 (.ref 202), en P "count_of_rows" 446 (.ref 209), en P "makes_house" 452 (.ref 214), en P "kept_hand" 458 (.ref 219), en P "house_of" 464 (.ref 224), en P "outcomes_of" 471 (.ref 231), en P "hands_of" 478 (.ref 238), en P "MOST_CLAUSES" 482 (.int (20) 481), en P "MOST_CLAUSE_WORDS" 484 (.int (40) 483), en P "COUNTS" 489 (.ref 239), en P "condition_of" 496 (.ref 246), en P "place_of" 503 (.ref 253), en P "word_at" 511 (.ref 260), en P "read_says" 522 (.ref 267), en P "read_count" 528 (.ref 272), en P "read_condition" 541 (.ref 279), en P "read_deal" 549 (.ref 286), en P "read_clause" 558 (.ref 293), en P "clauses_in" 564 (.ref 298), en P "read_rule" 570 (.ref 303), en P "condition_words" 581 (.ref 310), en P "clause_text" 590 (.ref 317), en P "shown" 596 (.ref 322), en P "_law_cell_at" 606 (.ref 329), en P "_law_pool" 612 (.ref 334), en P "_law_parts" 618 (.ref 339), en P "_law_rows" 624 (.ref 344), en P "_law_leaf" 630 (.ref 349), en P "_law_joined" 641 (.ref 356), en P "_law_step" 647 (.ref 361), en P "_law_clauses" 653 (.ref 366), en P "_law_spoiled" 669 (.ref 373), en P "_law_has" 675 (.ref 378), en P "_law_says" 681 (.ref 383), en P "_law_behind" 692 (.ref 390), en P "_law_good" 704 (.ref 397), en P "law" 710 (.ref 402)] 71), #[]⟩
def o302 : Obj := (co "read_rule" 565 137 2 3 299 true 300 .none .none .none (.ref 301) 568)
def o303 : Obj := (fo 48 "read_rule" "trueword.rules" 479 302)
def o309 : Obj := (co "condition_words" 571 143 2 3 304 true 305 .none (.ref 306) (.ref 307) (.ref 308) 579)
def o310 : Obj := (fo 49 "condition_words" "trueword.rules" 479 309)
def o316 : Obj := (co "clause_text" 582 153 3 3 311 true 312 .none (.ref 313) (.ref 314) (.ref 315) 588)
def o317 : Obj := (fo 50 "clause_text" "trueword.rules" 479 316)
def o321 : Obj := (co "shown" 591 157 2 3 318 true 319 .none .none .none (.ref 320) 594)
def o322 : Obj := (fo 51 "shown" "trueword.rules" 479 321)
def o328 : Obj := (co "_law_cell_at" 599 160 2 3 323 true 324 .none (.ref 325) (.ref 326) (.ref 327) 604)
def o329 : Obj := (fo 53 "_law_cell_at" "law_trueword_k67_no_rule" 597 328)
def o333 : Obj := (co "_law_pool" 607 164 2 3 330 true 331 .none .none .none (.ref 332) 610)
def o334 : Obj := (fo 54 "_law_pool" "law_trueword_k67_no_rule" 597 333)
def o338 : Obj := (co "_law_parts" 613 178 1 3 335 true 336 .none .none .none (.ref 337) 616)
def o339 : Obj := (fo 55 "_law_parts" "law_trueword_k67_no_rule" 597 338)
def o343 : Obj := (co "_law_rows" 619 188 1 3 340 true 341 .none .none .none (.ref 342) 622)
def o344 : Obj := (fo 56 "_law_rows" "law_trueword_k67_no_rule" 597 343)
def o348 : Obj := (co "_law_leaf" 625 196 3 3 345 true 346 .none .none .none (.ref 347) 628)
def o349 : Obj := (fo 57 "_law_leaf" "law_trueword_k67_no_rule" 597 348)
def o355 : Obj := (co "_law_joined" 631 205 3 3 350 true 351 .none (.ref 352) (.ref 353) (.ref 354) 639)
def o356 : Obj := (fo 58 "_law_joined" "law_trueword_k67_no_rule" 597 355)
def o360 : Obj := (co "_law_step" 642 213 4 3 357 true 358 .none .none .none (.ref 359) 645)
def o361 : Obj := (fo 59 "_law_step" "law_trueword_k67_no_rule" 597 360)
def o365 : Obj := (co "_law_clauses" 648 221 4 3 362 true 363 .none .none .none (.ref 364) 651)
def o366 : Obj := (fo 60 "_law_clauses" "law_trueword_k67_no_rule" 597 365)
def o372 : Obj := (co "_law_spoiled" 654 235 2 3 367 true 368 .none (.ref 369) (.ref 370) (.ref 371) 667)
def o373 : Obj := (fo 61 "_law_spoiled" "law_trueword_k67_no_rule" 597 372)
def o377 : Obj := (co "_law_has" 670 261 2 3 374 true 375 .none .none .none (.ref 376) 673)
def o378 : Obj := (fo 62 "_law_has" "law_trueword_k67_no_rule" 597 377)
def o382 : Obj := (co "_law_says" 676 263 3 3 379 true 380 .none .none .none (.ref 381) 679)
def o383 : Obj := (fo 63 "_law_says" "law_trueword_k67_no_rule" 597 382)
def o389 : Obj := (co "_law_behind" 682 265 2 3 384 true 385 .none (.ref 386) (.ref 387) (.ref 388) 690)
def o390 : Obj := (fo 64 "_law_behind" "law_trueword_k67_no_rule" 597 389)
def o396 : Obj := (co "_law_good" 693 282 3 3 391 true 392 .none (.ref 393) (.ref 394) (.ref 395) 702)
def o397 : Obj := (fo 65 "_law_good" "law_trueword_k67_no_rule" 597 396)
def o401 : Obj := (co "law" 705 299 1 3 398 true 399 .none .none .none (.ref 400) 708)
def o402 : Obj := (fo 66 "law" "law_trueword_k67_no_rule" 597 401)
def t3 (P : Params) : BT := ia (((t2 P).set 3 fun _ => o3_2 P).set 12 fun _ => ⟨.none, none, (.fields #[(.int (2) 0), (.int (0) 0), (.ref 20), (.int (4) 0), (.int (0) 0), (.ref 33), (.int (6) 0), (.int (0) 0), (.ref 45), (.int (8) 0), (.int (0) 0), (.ref 57), (.int (10) 0), (.int (0) 0), (.ref 69), (.int (12) 0), (.int (0) 0), (.ref 81), (.int (14) 0), (.int (0) 0), (.ref 93), (.int (16) 0), (.int (0) 0), (.ref 105), (.int (18) 0), (.int (0) 0), (.ref 117), (.int (20) 0), (.int (0) 0), (.ref 129), (.int (24) 0), (.int (0) 0), (.ref 141), (.int (26) 0), (.int (0) 0), (.ref 148), (.int (28) 0), (.int (0) 0), (.ref 153), (.int (37) 0), (.int (0) 0), (.ref 158), (.int (41) 0), (.int (0) 0), (.ref 163), (.int (45) 0), (.int (0) 0), (.ref 168), (.int (49) 0), (.int (0) 0), (.ref 175), (.int (53) 0), (.int (0) 0), (.ref 182), (.int (55) 0), (.int (0) 0), (.ref 187), (.int (57) 0), (.int (0) 0), (.ref 194), (.int (59) 0), (.int (0) 0), (.ref 201), (.int (61) 0), (.int (0) 0), (.ref 208), (.int (66) 0), (.int (0) 0), (.ref 213), (.int (72) 0), (.int (0) 0), (.ref 218), (.int (75) 0), (.int (0) 0), (.ref 223), (.int (79) 0), (.int (0) 0), (.ref 230), (.int (81) 0), (.int (0) 0), (.ref 237), (.int (87) 0), (.int (0) 0), (.ref 245), (.int (89) 0), (.int (0) 0), (.ref 252), (.int (91) 0), (.int (0) 0), (.ref 259), (.int (95) 0), (.int (0) 0), (.ref 266), (.int (103) 0), (.int (0) 0), (.ref 271), (.int (109) 0), (.int (0) 0), (.ref 278), (.int (123) 0), (.int (0) 0), (.ref 285), (.int (127) 0), (.int (0) 0), (.ref 292), (.int (132) 0), (.int (0) 0), (.ref 297), (.int (137) 0), (.int (0) 0), (.ref 302), (.int (143) 0), (.int (0) 0), (.ref 309), (.int (153) 0), (.int (0) 0), (.ref 316), (.int (157) 0), (.int (0) 0), (.ref 321), (.int (160) 0), (.int (0) 0), (.ref 328), (.int (164) 0), (.int (0) 0), (.ref 333), (.int (178) 0), (.int (0) 0), (.ref 338), (.int (188) 0), (.int (0) 0), (.ref 343), (.int (196) 0), (.int (0) 0), (.ref 348), (.int (205) 0), (.int (0) 0), (.ref 355), (.int (213) 0), (.int (0) 0), (.ref 360), (.int (221) 0), (.int (0) 0), (.ref 365), (.int (235) 0), (.int (0) 0), (.ref 372), (.int (261) 0), (.int (0) 0), (.ref 377), (.int (263) 0), (.int (0) 0), (.ref 382), (.int (265) 0), (.int (0) 0), (.ref 389), (.int (282) 0), (.int (0) 0), (.ref 396), (.int (299) 0), (.int (0) 0), (.ref 401)]), #[]⟩) 299 [oE, oF, (xo 48 "read_rule"), o302, o303, oE, oF, (ts 574 ["house", "condition", "kind", "words", "part"]), oE, (xo 49 "condition_words"), o309, o310, oE, oF, (ts 585 ["house", "condition", "outcome"]), oE, (xo 50 "clause_text"), o316, o317, oE, oF, (xo 51 "shown"), o321, o322, oE, oF, (ts 602 ["script", "k"]), oE, (xo 53 "_law_cell_at"), o328, o329, oE, oF, (xo 54 "_law_pool"), o333, o334, oE, oF, (xo 55 "_law_parts"), o338, o339, oE, oF, (xo 56 "_law_rows"), o343, o344, oE, oF, (xo 57 "_law_leaf"), o348, o349, oE, oF, (ts 634 ["head", "one", "other", "truths", "j"]), oE, (xo 58 "_law_joined"), o355, o356, oE, oF, (xo 59 "_law_step"), o360, o361, oE, oF, (xo 60 "_law_clauses"), o365, o366, oE, oF, (ts 657 ["text", "cell", "number", "way", "place", "signs", "sign", "words", "k", "some"]), oE, (xo 61 "_law_spoiled"), o372, o373, oE, oF, (xo 62 "_law_has"), o377, o378, oE, oF, (xo 63 "_law_says"), o382, o383, oE, oF, (ts 685 ["hands", "words", "place", "wanted", "three"]), oE, (xo 64 "_law_behind"), o389, o390, oE, oF, (ts 696 ["outcomes", "hands", "text", "pieces", "k", "words"]), oE, (xo 65 "_law_good"), o396, o397, oE, oF, (xo 66 "law"), o401, o402]
def hf (P : Params) : Heap := absHeap (t3 P) 403 (lf P)
def s0 (w : World) (os : OsState) : SharedT := ⟨t0 w.params, 15, lf w.params, Array.mk [], boot_drawn, 187, os⟩
def s1 (w : World) (os : OsState) : SharedT := ⟨t1 w.params, 100, lf w.params, Array.mk [], boot_drawn, 303, os⟩
def s2 (w : World) (os : OsState) : SharedT := ⟨t2 w.params, 299, lf w.params, Array.mk [], boot_drawn, 565, os⟩
def s3 (w : World) (os : OsState) : SharedT := ⟨t3 w.params, 403, lf w.params, Array.mk [], boot_drawn, 711, os⟩
def l0 : List Stmt := (pr.main.body.drop 0).take 8
def l1 : List Stmt := (pr.main.body.drop 8).take 40
def l2 : List Stmt := (pr.main.body.drop 48).take 19
theorem bs : behindTheImports pr = l0 ++ (l1 ++ (l2 ++ ([]))) := by kernel_rfl
theorem r_pre (w : World) (os : OsState) : topGo treeTable pr w 11 (some (.ref 6)) 12 ⟨boot_heap w.params, Array.mk [], boot_drawn, boot_toks, os⟩ (topStub pr) = some (⟨ha w.params, Array.mk [], boot_drawn, 187, os⟩, ⟨denote treeTable cd, cd, ⟨0, 0, 0, 0⟩, [topFrame qp]⟩) := by kernel_rfl
theorem zdu (w : World) (os : OsState) : segRun treeTable pr w 11 (some (.ref 6)) 1 1 ⟨ha w.params, Array.mk [], boot_drawn, 187, os⟩ (blockOf (behindTheImports pr) env cd ⟨0, 0, 0, 0⟩ [topFrame qp]) = some (.next, (s0 w os).abs, cd, ⟨0, 0, 0, 0⟩) := by kernel_rfl
theorem r0 (w : World) (os : OsState) : segRunT treeTable pr w 11 (some (.ref 6)) 1 1474 (s0 w os) (piecesOf l0 env cd ⟨0, 0, 0, 0⟩ [topFrame qp]) = some (.next, s1 w os, cd, ⟨14, 0, 15, 8⟩) := by
  rw [PySem.W.Fast.te10110043849684766642, PySem.W.Fast.te14364793385576792824]; kernel_rfl
theorem r1 (w : World) (os : OsState) : segRunT treeTable pr w 11 (some (.ref 6)) 1 1485 (s1 w os) (piecesOf l1 env cd ⟨14, 0, 15, 8⟩ [topFrame qp]) = some (.next, s2 w os, cd, ⟨132, 0, 136, 18⟩) := by
  rw [PySem.W.Fast.te10110043849684766642, PySem.W.Fast.te14364793385576792824]; kernel_rfl
theorem r2 (w : World) (os : OsState) : segRunT treeTable pr w 11 (some (.ref 6)) 1 528 (s2 w os) (piecesOf l2 env cd ⟨132, 0, 136, 18⟩ [topFrame qp]) = some (.next, s3 w os, cd, ⟨299, 0, 312, 56⟩) := by
  rw [PySem.W.Fast.te10110043849684766642, PySem.W.Fast.te14364793385576792824]; kernel_rfl
theorem r_fin (w : World) (os : OsState) : topRun treeTable pr w 11 (some (.ref 6)) 2 (s3 w os).abs ⟨doneF .next, cd, ⟨299, 0, 312, 56⟩, [topFrame qp]⟩ = some ⟨hf w.params, Array.mk [], boot_drawn, 711, os⟩ := by kernel_rfl
theorem r_rest (w : World) (os : OsState) : topRun treeTable pr w 11 (some (.ref 6)) (1474 + (1485 + (528 + (2)))) (s0 w os).abs (restOf (behindTheImports pr) env cd ⟨0, 0, 0, 0⟩ [topFrame qp]) = some ⟨hf w.params, Array.mk [], boot_drawn, 711, os⟩ := by
  have k := piece_app (segRun_of (r0 w os)) (piece_app (segRun_of (r1 w os)) (piece_app (segRun_of (r2 w os)) (piece_nil (r_fin w os))));exact (congrArg (fun b => topRun treeTable pr w 11 (some (.ref 6)) (1474 + (1485 + (528 + (2)))) (s0 w os).abs (restOf b env cd ⟨0, 0, 0, 0⟩ [topFrame qp])) bs).trans k
theorem r_all (w : World) (os : OsState) : topRun treeTable pr w 11 (some (.ref 6)) (12 + (1 + (1474 + (1485 + (528 + (2)))))) ⟨boot_heap w.params, Array.mk [], boot_drawn, boot_toks, os⟩ (topStub pr) = some ⟨hf w.params, Array.mk [], boot_drawn, 711, os⟩ := go_top (r_pre w os) (piece_block (zdu w os) (r_rest w os))
def ks : List Addr := [3, 13, 17, 20, 23, 24, 30, 33, 36, 37, 42, 45, 48, 49, 54, 57, 60, 61, 66, 69, 72, 73, 78, 81, 84, 85, 90, 93, 96, 97, 102, 105, 108, 109, 114, 117, 120, 121, 126, 129, 132, 133, 141, 142, 148, 149, 153, 154, 158, 159, 163, 164, 168, 169, 175, 176, 182, 183, 187, 188, 194, 195, 201, 202, 208, 209, 213, 214, 218, 219, 223, 224, 230, 231, 237, 238, 239, 245, 246, 252, 253, 259, 260, 266, 267, 271, 272, 278, 279, 285, 286, 292, 293, 297, 298, 302, 303, 309, 310, 316, 317, 321, 322, 328, 329, 333, 334, 338, 339, 343, 344, 348, 349, 355, 356, 360, 361, 365, 366, 372, 373, 377, 378, 382, 383, 389, 390, 396, 397, 401, 402]
def K : Params -> Frag := fun P => (nat_lit 3, o3_2 P) :: (nat_lit 13, o13) :: (nat_lit 17, o17 P) :: (nat_lit 20, o20) :: (nat_lit 23, o23 P) :: (nat_lit 24, o24_1) :: (nat_lit 30, o30 P) :: (nat_lit 33, o33) :: (nat_lit 36, o36 P) :: (nat_lit 37, o37) :: (nat_lit 42, o42 P) :: (nat_lit 45, o45) :: (nat_lit 48, o48 P) :: (nat_lit 49, o49) :: (nat_lit 54, o54 P) :: (nat_lit 57, o57) :: (nat_lit 60, o60 P) :: (nat_lit 61, o61) :: (nat_lit 66, o66 P) :: (nat_lit 69, o69) :: (nat_lit 72, o72 P) :: (nat_lit 73, o73) :: (nat_lit 78, o78 P) :: (nat_lit 81, o81) :: (nat_lit 84, o84 P) :: (nat_lit 85, o85) :: (nat_lit 90, o90 P) :: (nat_lit 93, o93) :: (nat_lit 96, o96 P) :: (nat_lit 97, o97) :: (nat_lit 102, o102 P) :: (nat_lit 105, o105) :: (nat_lit 108, o108 P) :: (nat_lit 109, o109) :: (nat_lit 114, o114 P) :: (nat_lit 117, o117) :: (nat_lit 120, o120 P) :: (nat_lit 121, o121) :: (nat_lit 126, o126 P) :: (nat_lit 129, o129) :: (nat_lit 132, o132 P) :: (nat_lit 133, o133) :: (nat_lit 141, o141) :: (nat_lit 142, o142) :: (nat_lit 148, o148) :: (nat_lit 149, o149) :: (nat_lit 153, o153) :: (nat_lit 154, o154) :: (nat_lit 158, o158) :: (nat_lit 159, o159) :: (nat_lit 163, o163) :: (nat_lit 164, o164) :: (nat_lit 168, o168) :: (nat_lit 169, o169) :: (nat_lit 175, o175) :: (nat_lit 176, o176) :: (nat_lit 182, o182) :: (nat_lit 183, o183) :: (nat_lit 187, o187) :: (nat_lit 188, o188) :: (nat_lit 194, o194) :: (nat_lit 195, o195) :: (nat_lit 201, o201) :: (nat_lit 202, o202) :: (nat_lit 208, o208) :: (nat_lit 209, o209) :: (nat_lit 213, o213) :: (nat_lit 214, o214) :: (nat_lit 218, o218) :: (nat_lit 219, o219) :: (nat_lit 223, o223) :: (nat_lit 224, o224) :: (nat_lit 230, o230) :: (nat_lit 231, o231) :: (nat_lit 237, o237) :: (nat_lit 238, o238) :: (nat_lit 239, o239) :: (nat_lit 245, o245) :: (nat_lit 246, o246) :: (nat_lit 252, o252) :: (nat_lit 253, o253) :: (nat_lit 259, o259) :: (nat_lit 260, o260) :: (nat_lit 266, o266) :: (nat_lit 267, o267) :: (nat_lit 271, o271) :: (nat_lit 272, o272) :: (nat_lit 278, o278) :: (nat_lit 279, o279) :: (nat_lit 285, o285) :: (nat_lit 286, o286) :: (nat_lit 292, o292) :: (nat_lit 293, o293) :: (nat_lit 297, o297) :: (nat_lit 298, o298) :: (nat_lit 302, o302) :: (nat_lit 303, o303) :: (nat_lit 309, o309) :: (nat_lit 310, o310) :: (nat_lit 316, o316) :: (nat_lit 317, o317) :: (nat_lit 321, o321) :: (nat_lit 322, o322) :: (nat_lit 328, o328) :: (nat_lit 329, o329) :: (nat_lit 333, o333) :: (nat_lit 334, o334) :: (nat_lit 338, o338) :: (nat_lit 339, o339) :: (nat_lit 343, o343) :: (nat_lit 344, o344) :: (nat_lit 348, o348) :: (nat_lit 349, o349) :: (nat_lit 355, o355) :: (nat_lit 356, o356) :: (nat_lit 360, o360) :: (nat_lit 361, o361) :: (nat_lit 365, o365) :: (nat_lit 366, o366) :: (nat_lit 372, o372) :: (nat_lit 373, o373) :: (nat_lit 377, o377) :: (nat_lit 378, o378) :: (nat_lit 382, o382) :: (nat_lit 383, o383) :: (nat_lit 389, o389) :: (nat_lit 390, o390) :: (nat_lit 396, o396) :: (nat_lit 397, o397) :: (nat_lit 401, o401) :: (nat_lit 402, o402) :: []
theorem ke (P : Params) : ks = (K P).map (·.1) := by kernel_rfl
def lo : List Str := pr.main.scope.names.map (·.1)
def vw : Program := { pr with main := { pr.main with body := [Mine.qx] } }
def fs (w : World) (os : OsState) : Shared := ⟨hf w.params, Array.mk [], boot_drawn, 711, os⟩
theorem z_size (w : World) : ((boot_heap w.params).isNs mainGlobals && (Array.mk [] : Array GenState).size == 0, (boot_heap w.params).objs.size, (boot_heap w.params).nsMap mainGlobals "__annotations__") = (true, 11, (some (.ref 6))) := by kernel_rfl
theorem z_one (w : World) (os : OsState) : (staticsOk (importedModules pr.main.body) (boot_heap w.params) (hf w.params) && namesBound pr (hf w.params) && gensDone (fs w os) && laidKept (boot_heap w.params) (hf w.params)) = true := by kernel_rfl
theorem z_two (w : World) (os : OsState) : openSeen vw lo (importedModules pr.main.body) (fun _ => true) true (fs w os) = openGood vw lo := by
  rw [PySem.W.Fast.te4187177175401517315]; kernel_rfl
theorem zdm (w : World) (os : OsState) : (kHook K ks ke).obs (fs w os) = (kHook K ks ke).val w := by kernel_rfl
theorem z_open : opening pr = plainProg pr.main.scope.names := by kernel_rfl
theorem zct (s : Shared) : fenceModules? pr s = some s := by kernel_rfl
theorem left : LeftO pr vw lo (fun _ => true) (kHook K ks ke).obs (kHook K ks ke).val 1000000 :=
  LeftO.of_pieces (boot_open z_open rfl zct) z_size r_all rfl fun w => funext fun os => looks_pair (z_one w os) (looks_pair (z_two w os) (zdm w os))
end
end Tp
open PySem PySem.W PyProof.Rows
set_option maxRecDepth 100000 in
set_option maxHeartbeats 0 in
theorem PySem.Challenge.cw_trueword_k67_no_rule_holds : PySem.Challenge.rw_trueword_k67_no_rule.Holds := by
  refine holds_law (by rw [PySem.W.Fast.te9446332074065402090]; kernel_rfl) fun said => ?_
  refine holds_open (q := Tp.vw) (loose := Tp.lo) (Xt := fun _ => true) (XP := fun _ _ => True) (Yf := (kHook Tp.K Tp.ks Tp.ke).obs) (Ya := (kHook Tp.K Tp.ks Tp.ke).val) (YP := (kHook Tp.K Tp.ks Tp.ke).says) (N := 1000000) Tp.left (kHook Tp.K Tp.ks Tp.ke).of (kHook Tp.K Tp.ks Tp.ke).keeps (fun _ _ => trivial) (fun _ _ _ _ _ => trivial) (by rfl) (by rfl) (by rfl) (fun _ _ => recFacts_nil rfl) (by rfl) said (by decide +kernel) ⟨rfl, rfl, rfl, rfl, rfl, by decide +kernel⟩ ?hw ?hc
  case hw => w_witness2
  k_fill
  refine L2.zbt (l := PySem.Challenge.rw_trueword_k67_no_rule) (n := 63) (k := 50) (x := "script") (CX := L2.CX0) (sp := Mine.ad) rfl (by decide) rfl ⟨rfl, by decide, by decide⟩ (fun w h Y => PySem.W.kIn_of Y) ?F ?S ?C
  case F =>
    intro w mg fa h KX G hmg
    have N : mg "ValueError" = none /\ mg "abs" = none /\ mg "all" = none /\ mg "any" = none /\ mg "bool" = none /\ mg "int" = none /\ mg "isinstance" = none /\ mg "len" = none /\ mg "list" = none /\ mg "max" = none /\ mg "range" = none /\ mg "set" = none /\ mg "str" = none /\ mg "tuple" = none /\ True := by
      refine ⟨?_, ?_, ?_, ?_, ?_, ?_, ?_, ?_, ?_, ?_, ?_, ?_, ?_, ?_, trivial⟩ <;> (refine' PySem.W.mg_none_of KX G ?a; (case a => k_is))
    obtain ⟨n_ValueError, n_abs, n_all, n_any, n_bool, n_int, n_isinstance, n_len, n_list, n_max, n_range, n_set, n_str, n_tuple, -⟩ := N;have k0_MOST_WORDS := PySem.W.mg_of (n := "MOST_WORDS") KX G (by k_is);have k_MOST_WORDS : ∃ t, mg "MOST_WORDS" = some (Value.int 8 t) := ⟨_, k0_MOST_WORDS⟩;have k0_MOST_LETTERS := PySem.W.mg_of (n := "MOST_LETTERS") KX G (by k_is);have k_MOST_LETTERS : ∃ t, mg "MOST_LETTERS" = some (Value.int 8 t) := ⟨_, k0_MOST_LETTERS⟩;have k0_MOST_OUTCOMES := PySem.W.mg_of (n := "MOST_OUTCOMES") KX G (by k_is);have k_MOST_OUTCOMES : ∃ t, mg "MOST_OUTCOMES" = some (Value.int 8 t) := ⟨_, k0_MOST_OUTCOMES⟩;have k0_MOST_HANDS := PySem.W.mg_of (n := "MOST_HANDS") KX G (by k_is);have k_MOST_HANDS : ∃ t, mg "MOST_HANDS" = some (Value.int 4 t) := ⟨_, k0_MOST_HANDS⟩;have k0_MOST_ROWS := PySem.W.mg_of (n := "MOST_ROWS") KX G (by k_is);have k_MOST_ROWS : ∃ t, mg "MOST_ROWS" = some (Value.int 256 t) := ⟨_, k0_MOST_ROWS⟩;have k0_MOST_CLAUSES := PySem.W.mg_of (n := "MOST_CLAUSES") KX G (by k_is);have k_MOST_CLAUSES : ∃ t, mg "MOST_CLAUSES" = some (Value.int 20 t) := ⟨_, k0_MOST_CLAUSES⟩;have k0_MOST_CLAUSE_WORDS := PySem.W.mg_of (n := "MOST_CLAUSE_WORDS") KX G (by k_is);have k_MOST_CLAUSE_WORDS : ∃ t, mg "MOST_CLAUSE_WORDS" = some (Value.int 40 t) := ⟨_, k0_MOST_CLAUSE_WORDS⟩;have B : Mine.Bt mg := ⟨n_ValueError, n_abs, n_all, n_any, n_bool, n_int, n_isinstance, n_len, n_list, n_max, n_range, n_set, n_str, n_tuple, k_MOST_WORDS, k_MOST_LETTERS, k_MOST_OUTCOMES, k_MOST_HANDS, k_MOST_ROWS, k_MOST_CLAUSES, k_MOST_CLAUSE_WORDS⟩;have z_NoHouse := L2.gj (name := "NoHouse") KX G (by k_is) (by k_exc) (by k_is) (by k_is) (by k_is);have z_NoRule := L2.gj (name := "NoRule") KX G (by k_is) (by k_exc) (by k_is) (by k_is) (by k_is);have z_TrueError := L2.gj (name := "TrueError") KX G (by k_is) (by k_exc) (by k_is) (by k_is) (by k_is);have z_NoWord := PySem.W.mg_of (n := "NoWord") KX G (by k_is);have z_NoWeight := PySem.W.mg_of (n := "NoWeight") KX G (by k_is);have z_NoStand := PySem.W.mg_of (n := "NoStand") KX G (by k_is);have z_NoShare := PySem.W.mg_of (n := "NoShare") KX G (by k_is);have z_NoRow := PySem.W.mg_of (n := "NoRow") KX G (by k_is);have z_NoPays := PySem.W.mg_of (n := "NoPays") KX G (by k_is);have z_NoMenu := PySem.W.mg_of (n := "NoMenu") KX G (by k_is);have t_COUNTS := L2.tup_mk (name := "COUNTS") (xs := [.str (Str.ofString "1"), .str (Str.ofString "2"), .str (Str.ofString "3"), .str (Str.ofString "4")]) KX G (by k_is) (by k_is) (by decide) (.cons ⟨_, rfl⟩ (.cons ⟨_, rfl⟩ (.cons ⟨_, rfl⟩ (.cons ⟨_, rfl⟩ (.nil)))));have C := Mine.Ct.mk (mg := mg) (a := ⟨_, _, _, _, _, _, _, _, _, _⟩) (z_NoHouse.1) (z_NoHouse.2) (z_NoRule.1) (z_NoRule.2) (L2.zc7 (by k_is)) (z_TrueError.1) (z_TrueError.2) (z_NoWord) (z_NoWeight) (z_NoStand) (z_NoShare) (z_NoRow) (z_NoPays) (z_NoMenu) (t_COUNTS) (L2.uc (by decide) (by k_is) (by k_is) (by k_is)) (by k_is) (L2.zcn) (by k_is) (L2.uc (by decide) (by k_is) (by k_is) (by k_is)) (L2.uc (by decide) (by k_is) (by k_is) (by k_is)) (L2.uc (by decide) (by k_is) (by k_is) (by k_is)) (L2.uc (by decide) (by k_is) (by k_is) (by k_is)) (L2.uc (by decide) (by k_is) (by k_is) (by k_is)) (L2.uc (by decide) (by k_is) (by k_is) (by k_is)) (L2.uc (by decide) (by k_is) (by k_is) (by k_is)) (L2.uc (by decide) (by k_is) (by k_is) (by k_is))
    have D : L2.zl (L2.KOf KX) mg "is_whole" Mine.rn ["thing"] /\ L2.zl (L2.KOf KX) mg "is_bounded" Mine.ui ["thing"] /\ L2.zl (L2.KOf KX) mg "is_grid_row" Mine.vk ["thing", "width"] /\ L2.zl (L2.KOf KX) mg "is_name" Mine.ph ["thing"] /\ L2.zl (L2.KOf KX) mg "are_names" Mine.ux ["thing", "most"] /\ L2.zl (L2.KOf KX) mg "are_worths" Mine.ub ["thing", "height", "width"] /\ L2.zl (L2.KOf KX) mg "is_hand" Mine.qy ["thing", "width"] /\ L2.zl (L2.KOf KX) mg "name_of" Mine.sk ["hand"] /\ L2.zl (L2.KOf KX) mg "names_of" Mine.ue ["hands"] /\ L2.zl (L2.KOf KX) mg "words_of_hand" Mine.wa ["hand"] /\ L2.zl (L2.KOf KX) mg "worths_of_hand" Mine.wp ["hand"] /\ L2.zl (L2.KOf KX) mg "count_of_rows" Mine.wx ["hands"] /\ L2.zl (L2.KOf KX) mg "makes_house" Mine.vo ["outcomes", "hands"] /\ L2.zl (L2.KOf KX) mg "kept_hand" Mine.vh ["hand"] /\ L2.zl (L2.KOf KX) mg "house_of" Mine.ua ["outcomes", "hands"] /\ L2.zl (L2.KOf KX) mg "outcomes_of" Mine.vj ["house"] /\ L2.zl (L2.KOf KX) mg "hands_of" Mine.rf ["house"] /\ L2.zl (L2.KOf KX) mg "condition_of" Mine.va ["told"] /\ L2.zl (L2.KOf KX) mg "place_of" Mine.rj ["told"] /\ L2.zl (L2.KOf KX) mg "word_at" Mine.pp ["words", "place"] /\ L2.zl (L2.KOf KX) mg "read_says" Mine.tj ["house", "name", "word"] /\ L2.zl (L2.KOf KX) mg "read_count" Mine.up ["house", "figure", "word"] /\ L2.zl (L2.KOf KX) mg "read_condition" Mine.wq ["house", "words", "place"] /\ L2.zl (L2.KOf KX) mg "read_deal" Mine.tf ["house", "words"] /\ L2.zl (L2.KOf KX) mg "read_clause" Mine.vp ["house", "words"] /\ L2.zl (L2.KOf KX) mg "clauses_in" Mine.uk ["text"] /\ L2.zl (L2.KOf KX) mg "read_rule" Mine.tm ["house", "text"] /\ L2.zl (L2.KOf KX) mg "condition_words" Mine.wc ["house", "condition"] /\ L2.zl (L2.KOf KX) mg "clause_text" Mine.vm ["house", "condition", "outcome"] /\ L2.zl (L2.KOf KX) mg "shown" Mine.mv ["house", "rule"] /\ L2.zl (L2.KOf KX) mg "_law_cell_at" Mine.vn ["script", "k"] /\ L2.zl (L2.KOf KX) mg "_law_pool" Mine.z7 ["cell", "many"] /\ L2.zl (L2.KOf KX) mg "_law_parts" Mine.tu ["script"] /\ L2.zl (L2.KOf KX) mg "_law_rows" Mine.rg ["hands"] /\ L2.zl (L2.KOf KX) mg "_law_leaf" Mine.qb ["cell", "hands", "rows"] /\ L2.zl (L2.KOf KX) mg "_law_joined" Mine.um ["head", "one", "other"] /\ L2.zl (L2.KOf KX) mg "_law_step" Mine.xz ["stack", "cell", "hands", "rows"] /\ L2.zl (L2.KOf KX) mg "_law_clauses" Mine.vq ["script", "outcomes", "hands", "rows"] /\ L2.zl (L2.KOf KX) mg "_law_spoiled" Mine.ze ["text", "cell"] /\ L2.zl (L2.KOf KX) mg "_law_has" Mine.q8 ["hands", "word"] /\ L2.zl (L2.KOf KX) mg "_law_says" Mine.rp ["hands", "name", "word"] /\ L2.zl (L2.KOf KX) mg "_law_behind" Mine.uq ["hands", "words"] /\ L2.zl (L2.KOf KX) mg "_law_good" Mine.rh ["outcomes", "hands", "text"] /\ L2.zl (L2.KOf KX) mg "law" Mine.qx ["script"] /\ True := by
      refine ⟨?_, ?_, ?_, ?_, ?_, ?_, ?_, ?_, ?_, ?_, ?_, ?_, ?_, ?_, ?_, ?_, ?_, ?_, ?_, ?_, ?_, ?_, ?_, ?_, ?_, ?_, ?_, ?_, ?_, ?_, ?_, ?_, ?_, ?_, ?_, ?_, ?_, ?_, ?_, ?_, ?_, ?_, ?_, ?_, trivial⟩ <;> (dsimp only [L2.KOf]; refine' L2.def_mk KX G ?a ?l ?c ?k ?h; (case a => k_is); (case l => k_is); (case c => k_is); (case k => k_is); (case h => first | exact (fun _ _ _ _ _ _ us hl => match us, hl with | [_], _ => rfl) | exact (fun _ _ _ _ _ _ us hl => match us, hl with | [_, _], _ => rfl) | exact (fun _ _ _ _ _ _ us hl => match us, hl with | [_, _, _], _ => rfl) | exact (fun _ _ _ _ _ _ us hl => match us, hl with | [_, _, _, _], _ => rfl)))
    obtain ⟨d_is_whole, d_is_bounded, d_is_grid_row, d_is_name, d_are_names, d_are_worths, d_is_hand, d_name_of, d_names_of, d_words_of_hand, d_worths_of_hand, d_count_of_rows, d_makes_house, d_kept_hand, d_house_of, d_outcomes_of, d_hands_of, d_condition_of, d_place_of, d_word_at, d_read_says, d_read_count, d_read_condition, d_read_deal, d_read_clause, d_clauses_in, d_read_rule, d_condition_words, d_clause_text, d_shown, d_law_cell_at, d_law_pool, d_law_parts, d_law_rows, d_law_leaf, d_law_joined, d_law_step, d_law_clauses, d_law_spoiled, d_law_has, d_law_says, d_law_behind, d_law_good, d_law, -⟩ := D;obtain ⟨f, fd, e1, F1, b1⟩ := d_law.ex;have e2 := hmg.symm.trans e1;cases e2;refine ⟨fd, fun s u => ?_, fun base kb nb => ?_⟩
    . exact Mine.ax F1 s u
    . exact Mine.law_ok B C d_is_whole d_is_bounded d_is_grid_row d_is_name d_are_names d_are_worths d_is_hand d_name_of d_names_of d_words_of_hand d_worths_of_hand d_count_of_rows d_makes_house d_kept_hand d_house_of d_outcomes_of d_hands_of d_condition_of d_place_of d_word_at d_read_says d_read_count d_read_condition d_read_deal d_read_clause d_clauses_in d_read_rule d_condition_words d_clause_text d_shown d_law_cell_at d_law_pool d_law_parts d_law_rows d_law_leaf d_law_joined d_law_step d_law_clauses d_law_spoiled d_law_has d_law_says d_law_behind d_law_good base F1
  case S => exact fun K H a ns hl hO hS => ⟨a, ns, rfl, hS, hl, fun _ => rfl⟩
  case C => exact fun _ _ _ _ z => z
#print axioms PySem.Challenge.cw_trueword_k67_no_rule_holds

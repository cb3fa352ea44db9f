import PyProof.Rows.All
import Wide.All
import OpenK.AllK
import Wide.FinOn
import Lean
import PyProof.EqAt
import PyProof.EqKinds
import PyProof.TupleCall
import PySem.Challenge.RW_trueword_k52_no_weights
abbrev Fg := PySem.W.Frag
abbrev Za := @List.length_map
abbrev Zb := @List.getElem?_eq_getElem
abbrev Zc := @List.getElem?_eq_some_iff
abbrev Zd := @Nat.le_trans
abbrev Ze := @List.getElem?_map
abbrev Zf := @List.getElem?_append_right
abbrev Zg := @List.getElem?_append_left
abbrev Zh := @Nat.lt_of_lt_of_le
abbrev Zi := @List.mem_of_getElem?
abbrev Zj := @List.length_take
abbrev Zk := @List.getD_eq_getElem?_getD
abbrev Zl := @List.getElem_mem
abbrev Zm := @Nat.le_refl
abbrev Zn := @List.map_append
abbrev Zo := @List.length_append
abbrev Zp := @List.mem_map
abbrev Zq := @List.take_add_one
abbrev Zr := @List.size_toArray
abbrev Zs := @Nat.ne_of_lt
abbrev Zt := @List.take_length
abbrev Zu := @List.mem_append_right
abbrev Zv := @List.mem_cons_of_mem
abbrev Zw := @Int.toNat_natCast
abbrev Zx := @List.not_mem_nil
abbrev Zy := @List.getElem_of_mem
abbrev Zz := @List.idxOf_lt_length_iff
abbrev ZA := @List.mem_cons_self
abbrev ZB := @Nat.min_le_right
abbrev ZC := @List.mem_singleton
abbrev ZD := @Nat.not_lt
abbrev ZE := @Nat.zero_le
abbrev ZF := @List.lookup_cons
abbrev ZG := @List.take_of_length_le
abbrev ZH := @List.mem_append
abbrev ZI := @List.length_replicate
abbrev ZJ := @Nat.lt_irrefl
abbrev ZK := @List.mem_cons
abbrev ZL := @List.all_eq_true
abbrev ZM := @List.map_cons
abbrev ZN := @List.length_range
abbrev ZO := @List.mem_filterMap
abbrev ZP := @List.mem_range
abbrev ZQ := @List.length_cons
abbrev ZR := @List.nodup_cons
abbrev ZS := @List.getElem?_set_self
abbrev ZT := @Nat.ne_of_gt
abbrev ZU := @List.append_nil
abbrev ZV := @List.range_succ
abbrev ZW := @Array.getElem?_eq_some_iff
abbrev ZX := @List.mem_append_left
abbrev ZY := @List.getElem?_set_ne
abbrev ZZ := @Array.length_toList
abbrev Yb := @List.getElem?_replicate
abbrev Yc := @List.length_eq_zero_iff
abbrev Yd := @List.length_set
abbrev Ye := @List.find?_cons
abbrev Yg := @Int.emod_lt_of_pos
abbrev Yh := @List.length_singleton
abbrev Yi := @Nat.succ_le_succ
abbrev Yj := @List.length_zipWith
abbrev Yk := @Nat.lt_of_le_of_lt
abbrev Yl := @Nat.mul_le_mul
abbrev Ym := @Nat.lt_succ_of_lt
abbrev Yn := @List.nodup_append
abbrev Yo := @List.getElem_inj
abbrev Yp := @Nat.lt_succ_self
abbrev Yq := @List.mem_flatten
abbrev Yr := @List.getElem?_eq_none
abbrev Ys := @List.max?_eq_some_iff
abbrev Yt := @List.map_nil
abbrev Yu := @List.length_nil
abbrev Yv := @Option.map_some
abbrev Yw := @List.all_map
abbrev Yx := @Int.emod_nonneg
abbrev Yy := @List.filterMap_cons
abbrev Yz := @List.replicate_succ
abbrev YA := @Nat.le_succ
abbrev YB := @List.getElem?_drop
abbrev YC := @List.contains_cons
abbrev YD := @List.pairwise_map
abbrev YE := @List.all_eq_false
abbrev YF := @Nat.le_of_lt
abbrev YG := @Nat.le_of_eq
abbrev YH := @Nat.min_self
abbrev YI := @List.length_drop
abbrev YJ := @List.map_map
abbrev YK := @List.of_mem_zip
abbrev YL := @List.foldl_cons
-- CHANGE: your row's module here, as the last of these rows
set_option Elab.async false
set_option maxHeartbeats 8000000
set_option linter.all false
set_option maxRecDepth 100000
namespace L2
open PySem PySem.Spec PyProof.Rows
abbrev Key := Sum Int Str
def mz : Key -> Value -> Bool
  | .inl k, v => Value.isInt k v
  | .inr x, v => Value.isStrOf x v
def keyH (w : World) : Key -> Int
  | .inl k => hashInt k
  | .inr x => hashStr w x
theorem xq : ∀ {k : Key} {v : Value}, mz k v = true -> (∃ i t, k = Sum.inl i /\ v = Value.int i t) \/ (∃ x t, k = Sum.inr x /\ v = Value.str x t)
  | .inl i, v, h => by
    obtain ⟨t, e⟩ := Value.isInt_shape (k := i) (v := v) h;exact .inl ⟨i, t, rfl, e⟩
  | .inr x, v, h => by
    obtain ⟨t, e⟩ := Value.isStrOf_shape (x := x) (v := v) h;exact .inr ⟨x, t, rfl, e⟩
theorem zb9 (i : Int) (t : Tok) : mz (.inl i) (.int i t) = true := by simp [mz, Value.isInt]
theorem zcc (x : Str) (t : Tok) : mz (.inr x) (.str x t) = true := by simp [mz, Value.isStrOf]
theorem key_ll (a b : Int) : decide ((Sum.inl a : Key) = Sum.inl b) = (a == b) := by
  by_cases e : a = b
  . subst e; simp
  . have h : ¬ (Sum.inl a : Key) = Sum.inl b := fun q => e (Sum.inl.inj q)
    rw [decide_eq_false h];exact (beq_eq_false_iff_ne.mpr e).symm
theorem key_rr (a b : Str) : decide ((Sum.inr a : Key) = Sum.inr b) = decide (a = b) := by
  by_cases e : a = b
  . subst e; simp
  . have h : ¬ (Sum.inr a : Key) = Sum.inr b := fun q => e (Sum.inr.inj q)
    rw [decide_eq_false h, decide_eq_false e]
theorem key_lr (a : Int) (b : Str) : decide ((Sum.inl a : Key) = Sum.inr b) = false := decide_eq_false (fun q => nomatch q)
theorem key_rl (a : Str) (b : Int) : decide ((Sum.inr a : Key) = Sum.inl b) = false := decide_eq_false (fun q => nomatch q)
def ua (prog : Program) (w : World) : PySem.KeyKind prog w Key where
  is := mz
  hash := keyH w
  inj := fun v a b ha hb => by
    rcases xq ha with ⟨i, t, rfl, rfl⟩ | ⟨x, t, rfl, rfl⟩
    . rcases xq hb with ⟨j, u, rfl, e⟩ | ⟨y, u, rfl, e⟩
      . injection e with e1 _; rw [e1]
      . exact nomatch e
    . rcases xq hb with ⟨j, u, rfl, e⟩ | ⟨y, u, rfl, e⟩
      . exact nomatch e
      . injection e with e1 _; rw [e1]
  byValue := fun k v h => by
    rcases xq h with ⟨i, t, rfl, rfl⟩ | ⟨x, t, rfl, rfl⟩ <;> rfl
  pyHash := fun hv h => by
    rcases xq hv with ⟨i, t, rfl, rfl⟩ | ⟨x, t, rfl, rfl⟩
    . exact wpAny_pyHash_int h
    . exact wpAny_pyHash_str h
  eqBool := fun hu hv h => by
    rcases xq hu with ⟨i, t, rfl, rfl⟩ | ⟨x, t, rfl, rfl⟩
    . rcases xq hv with ⟨j, u, rfl, rfl⟩ | ⟨y, u, rfl, rfl⟩
      . rw [key_ll] at h; exact wpAny_eqBool_int h
      . rw [key_lr] at h; exact SeqAt.EqAt.int_str i t y u _ _ _ _ h
    . rcases xq hv with ⟨j, u, rfl, rfl⟩ | ⟨y, u, rfl, rfl⟩
      . rw [key_rl] at h; exact SeqAt.EqAt.str_int x t j u _ _ _ _ h
      . rw [key_rr] at h; exact wpAny_eqBool_str h
  «strs» := fun k x t v h => by
    rcases xq h with ⟨i, u, rfl, e⟩ | ⟨y, u, rfl, e⟩
    . exact nomatch e
    . injection e with e1 _
      subst e1;cases v <;> rfl
theorem cq (prog : Program) (w : World) (i : Int) (t : Tok) : (ua prog w).is (.inl i) (.int i t) = true := zb9 i t
theorem ba (prog : Program) (w : World) (x : Str) (t : Tok) : (ua prog w).is (.inr x) (.str x t) = true := zcc x t
end L2
namespace L2
open PySem PySem.Spec PyProof.Rows
inductive V where
  | non | bl (b : Bool) | int (i : Int) | str (x : Str) | byt (b : Array UInt8) | flt (b : UInt64) | ref (a : Addr) | ty (n : String)
  deriving DecidableEq
def RelV : V -> Value -> Prop
  | .non, u => u = Value.none
  | .bl b, u => u = Value.bool b
  | .int i, u => ∃ t, u = Value.int i t
  | .str x, u => ∃ t, u = Value.str x t
  | .byt b, u => ∃ t, u = Value.bytes b t
  | .flt b, u => ∃ t, u = Value.float b t
  | .ref a, u => u = Value.ref a
  | .ty n, u => u = Value.type n
abbrev Vals : List V -> List Value -> Prop := Paired RelV
theorem Vals.length {xs : List V} {us : List Value} (r : Vals xs us) : xs.length = us.length := Paired.length r
theorem Vals.get : ∀ {xs : List V} {us : List Value} {i : Nat} {x : V}, Vals xs us -> xs[i]? = some x -> ∃ u, us[i]? = some u /\ RelV x u
  | _, _, _, _, .nil, e => by simp at e
  | _, _, 0, _, .cons r _, e => by simp at e; subst e; exact ⟨_, rfl, r⟩
  | _, _, i + 1, x, .cons _ t, e => by
    obtain ⟨u, h1, h2⟩ := Vals.get (i := i) (x := x) t (by simpa using e);exact ⟨u, by simpa using h1, h2⟩
theorem Vals.set {x : V} {u : Value} (r : RelV x u) : ∀ {xs : List V} {us : List Value} (i : Nat), Vals xs us -> Vals (xs.set i x) (us.set i u)
  | _, _, _, .nil => .nil
  | _, _, 0, .cons _ t => .cons r t
  | _, _, i + 1, .cons q t => .cons q (Vals.set r i t)
theorem Vals.append : ∀ {xs ys : List V} {us ws : List Value}, Vals xs us -> Vals ys ws -> Vals (xs ++ ys) (us ++ ws)
  | _, _, _, _, .nil, s => s
  | _, _, _, _, .cons r t, s => .cons r (Vals.append t s)
theorem Vals.take : ∀ {xs : List V} {us : List Value} (n : Nat), Vals xs us -> Vals (xs.take n) (us.take n)
  | _, _, 0, _ => .nil
  | _, _, _ + 1, .nil => .nil
  | _, _, n + 1, .cons r t => .cons r (Vals.take n t)
theorem Vals.drop : ∀ {xs : List V} {us : List Value} (n : Nat), Vals xs us -> Vals (xs.drop n) (us.drop n)
  | _, _, 0, r => r
  | _, _, _ + 1, .nil => .nil
  | _, _, n + 1, .cons _ t => Vals.drop n t
def RelO : Option V -> Option Value -> Prop
  | some v, some u => RelV v u
  | none, none => True
  | _, _ => False
def KV {κ : Type} : List (κ × V) -> List (κ × Value) -> Prop := Paired fun (p : κ × V) (q : κ × Value) => p.1 = q.1 /\ RelV p.2 q.2
def kV : Key -> V
  | .inl i => .int i
  | .inr x => .str x
inductive HO where
    | lst (xs : List V)
    | tup (xs : List V)
    | dK (kvs : List (Key × V)) | dT (kvs : List (List Key × V))
    | set (S : Int -> Bool) (n : Nat)
    | ins (C dx : Addr) (fs : List (Str × V))
    | own (x : Addr)
    | xd (fs : List (Str × V))
    | met (f x : Addr)
    | rng (lo hi : Int)
    | frz (o : Obj) (u : HO)
    | tbl (ps : Array Value)
    | ext (φ : Heap -> Prop)
abbrev Hp := Addr -> Option HO
def upd (H : Hp) (a : Addr) (o : HO) : Hp := fun b => if b = a then some o else H b
theorem zf {H : Hp} {a : Addr} {o : HO} : upd H a o a = some o := by unfold upd; rw [if_pos rfl]
theorem zp {H : Hp} {a b : Addr} {o : HO} (h : b ≠ a) : upd H a o b = H b := by unfold upd; rw [if_neg h]
theorem xk {H : Hp} {a b : Addr} {o : HO} (h : H a = some o) (h' : H b = none) : a ≠ b := by
  intro e; subst e; rw [h] at h'; cases h'
def IsTupD (h : Heap) (a : Addr) (items : Array Value) : Prop := ∃ o, h.get? a = some o /\ o.cls = .type "tuple" /\ ∃ n, o.data = .seq items n /\ o.dict = none
theorem IsTupD.tup {h : Heap} {a : Addr} {items : Array Value} (q : IsTupD h a items) : IsTup h a items := by
  obtain ⟨o, e, c, n, d, _⟩ := q;exact ⟨o, e, c, n, d⟩
theorem IsTupD.new (h : Heap) (items : Array Value) : IsTupD (h.push { cls := .type "tuple", data := .seq items }) h.objs.size items := ⟨_, Heap.get?_push_size _ rfl, rfl, _, rfl, rfl⟩
section
variable (P : Program) (w : World)
def ObjOk (H : Hp) (h : Heap) (a : Addr) : HO -> Prop
  | .lst xs => xs.length <= sizeLine /\ ∃ (its : List Value) (n : Nat), Vals xs its /\ h.get? a = some { cls := .type "list", data := .seq its.toArray n }
  | .tup xs => xs.length <= sizeLine /\ ∃ its : List Value, Vals xs its /\ IsTupD h a its.toArray
  | .dK kvs => kvs.length <= sizeLine /\ (a == sysModules) = false /\ ∃ vs, KV kvs vs /\ h.DictOf (ua P w) a vs
  | .dT kvs => kvs.length <= sizeLine /\ (a == sysModules) = false /\ ∃ xs : List (List Key × Addr × Value),
      Paired (fun (p : List Key × V) (q : List Key × Addr × Value) => p.1 = q.1 /\ H q.2.1 = some (.tup (p.1.map kV)) /\ RelV p.2 q.2.2) kvs xs /\
      ∃ o es ep, h.get? a = some o /\ o.ExactDict /\ o.data = .dict es ep /\ es.toList = xs.map (entryOfKey (tupleKind (ua P w))) /\ (xs.map (·.1)).Nodup
  | .set S n => h.SetOf (intKind P w) a S n
  | .ins C dx fs => H dx = some (.own a) /\ fs.length <= 1000 /\ dx ≠ a /\ h.get? a = some (PySem.W.instObj C dx) /\
      ∃ mA, h.Ns1 dx mA /\ (∀ f, RelO (fs.lookup f) (mA f)) /\ PySem.Within mA (fs.map (·.1))
  | .own _ => ∃ o, h.get? a = some o
  | .xd fs => ∃ mA, h.Ns1 a mA /\ ∀ f, RelO (fs.lookup f) (mA f)
  | .rng lo hi => ∃ t u v, h.get? a = some { cls := .type "range", data := .fields #[.int lo t, .int hi u, .int 1 v] }
  | .frz o u => h.get? a = some o /\ ObjOk H h a u
  | .tbl ps => h.get? a = some { cls := .none, data := .fields ps }
  | .met f x => h.get? a = some (PySem.W.methodObj (.ref f) (.ref x))
  | .ext φ => φ h /\ (∃ o, h.get? a = some o) /\ ∀ h1 h2 : Heap, φ h1 -> (∀ o, h1.get? a = some o -> h2.get? a = some o) -> φ h2
def HOk (H : Hp) (h : Heap) : Prop := ∀ a o, H a = some o -> ObjOk P w H h a o
end
section
variable {P : Program} {w : World} {H H' : Hp} {h h' : Heap} {a : Addr} {o : HO}
theorem ObjOk.lt (x : ObjOk P w H h a o) : a < h.objs.size := by
  cases o with
  | lst xs => obtain ⟨_, _, _, _, e⟩ := x; exact Heap.lt_size e
  | tup xs => obtain ⟨_, _, _, p⟩ := x; exact p.tup.lt
  | dK kvs => obtain ⟨_, _, _, _, o, _, _, e, _⟩ := x; exact Heap.lt_size e
  | dT kvs => obtain ⟨_, _, _, _, o, _, _, e, _⟩ := x; exact Heap.lt_size e
  | set S n => obtain ⟨o, _, _, _, e, _⟩ := x; exact Heap.lt_size e
  | ins C dx fs => obtain ⟨_, _, _, e, _⟩ := x; exact Heap.lt_size e
  | own y => obtain ⟨_, e⟩ := x; exact Heap.lt_size e
  | xd fs => obtain ⟨_, ⟨_, _, _, e, _⟩, _⟩ := x; exact Heap.lt_size e
  | rng lo hi => obtain ⟨_, _, _, e⟩ := x; exact Heap.lt_size e
  | frz ob u => obtain ⟨e, _⟩ := x; exact Heap.lt_size e
  | tbl ps => exact Heap.lt_size (show h.get? a = some _ from x)
  | met f y => exact Heap.lt_size (show h.get? a = some _ from x)
  | ext φ => obtain ⟨_, ⟨_, e⟩, _⟩ := x; exact Heap.lt_size e
theorem Paired.mapP {α β : Type} {F G : α -> β -> Prop} : ∀ {l₁ : List α} {l₂ : List β}, Paired F l₁ l₂ -> (∀ a b, F a b -> G a b) -> Paired G l₁ l₂
  | _, _, .nil, _ => .nil
  | _, _, .cons r t, f => .cons (f _ _ r) (Paired.mapP t f)
theorem ObjOk.stay (x : ObjOk P w H h a o) (k : ∀ b u, (b = a \/ H b = some (.own a)) -> h.get? b = some u -> h'.get? b = some u)
    (ho : ∀ b, H b = some (.own a) -> H' b = some (.own a)) (ht : ∀ b xs, H b = some (.tup xs) -> H' b = some (.tup xs)) : ObjOk P w H' h' a o := by
  induction o with
  | lst xs => obtain ⟨z, its, n, r, e⟩ := x; exact ⟨z, its, n, r, k _ _ (.inl rfl) e⟩
  | tup xs => obtain ⟨z, its, r, ob, e, c⟩ := x; exact ⟨z, its, r, ob, k _ _ (.inl rfl) e, c⟩
  | dK kvs => obtain ⟨z, y, vs, r, ob, es, ep, e, c⟩ := x; exact ⟨z, y, vs, r, ob, es, ep, k _ _ (.inl rfl) e, c⟩
  | dT kvs =>
    obtain ⟨z, y, xs, r, ob, es, ep, e, c⟩ := x;exact ⟨z, y, xs, Paired.mapP r fun p q z => ⟨z.1, ht _ _ z.2.1, z.2.2⟩, ob, es, ep, k _ _ (.inl rfl) e, c⟩
  | set S n => obtain ⟨ob, es, ep, t, e, c⟩ := x; exact ⟨ob, es, ep, t, k _ _ (.inl rfl) e, c⟩
  | ins C dx fs =>
    obtain ⟨d, z, ne, e, mA, ⟨od, es, ep, e2, c⟩, r⟩ := x;exact ⟨ho _ d, z, ne, k _ _ (.inl rfl) e, mA, ⟨od, es, ep, k _ _ (.inr d) e2, c⟩, r⟩
  | own y => obtain ⟨ob, e⟩ := x; exact ⟨ob, k _ _ (.inl rfl) e⟩
  | xd fs => obtain ⟨mA, ⟨od, es, ep, e, c⟩, r⟩ := x; exact ⟨mA, ⟨od, es, ep, k _ _ (.inl rfl) e, c⟩, r⟩
  | rng lo hi => obtain ⟨t, u, v, e⟩ := x; exact ⟨t, u, v, k _ _ (.inl rfl) e⟩
  | frz ob u ih => obtain ⟨e, q⟩ := x; exact ⟨k _ _ (.inl rfl) e, ih q⟩
  | tbl ps =>
    have e : h.get? a = some { cls := .none, data := .fields ps } := x
    show h'.get? a = some { cls := .none, data := .fields ps }
    exact k a _ (.inl rfl) e
  | met f y =>
    have e : h.get? a = some (PySem.W.methodObj (.ref f) (.ref y)) := x
    show h'.get? a = some (PySem.W.methodObj (.ref f) (.ref y))
    exact k a _ (.inl rfl) e
  | ext φ => obtain ⟨p, ⟨o, e⟩, st⟩ := x; exact ⟨st _ _ p fun o q => k _ _ (.inl rfl) q, ⟨o, k _ _ (.inl rfl) e⟩, st⟩
theorem HOk.lt (x : HOk P w H h) (e : H a = some o) : a < h.objs.size := (x a o e).lt
theorem HOk.fresh (x : HOk P w H h) (e : h.objs.size <= a) : H a = none := by
  cases q : H a with
  | none => rfl
  | some u => exact absurd (Zh (x.lt q) e) (ZJ _)
theorem HOk.kept (x : HOk P w H h) (k : ∀ b u, h.get? b = some u -> h'.get? b = some u) : HOk P w H h' := fun a o e =>
  (x a o e).stay (fun b u _ q => k b u q) (fun _ q => q) fun _ _ q => q
theorem HOk.laid (x : HOk P w H h) (k : ∀ b u, h.get? b = some u -> h'.get? b = some u) (hp : h.objs.size <= a) (new : ObjOk P w (upd H a o) h' a o) : HOk P w (upd H a o) h' := fun b u e => by
  have hn := x.fresh hp
  by_cases hb : b = a
  . subst hb; rw [zf] at e; cases e; exact new
  . rw [zp hb] at e
    exact (x b u e).stay (fun c v _ q => k c v q) (fun c q => by rw [zp (xk q hn)]; exact q) fun c xs q => by rw [zp (xk q hn)]; exact q
end
def Rd (H : Hp) (a : Addr) (u : HO) : Prop := H a = some u \/ ∃ o, H a = some (.frz o u)
theorem Rd.of {H : Hp} {a : Addr} {u : HO} (h : H a = some u) : Rd H a u := .inl h
theorem Rd.ok {P : Program} {w : World} {H : Hp} {h : Heap} {a : Addr} {u : HO} (r : Rd H a u) (x : HOk P w H h) : ObjOk P w H h a u := by
  rcases r with r | ⟨o, r⟩
  . exact x a u r
  . obtain ⟨_, q⟩ := x a _ r
    exact q
def Mut : Option HO -> Prop
  | some (.lst _) => True
  | some (.dK _) => True
  | some (.dT _) => True
  | some (.set _ _) => True
  | some (.ins _ _ _) => True
  | some (.ext _) => True
  | _ => False
section
variable {P : Program} {w : World} {H : Hp} {h h' : Heap} {x e : Addr} {o' : HO}
theorem HOk.write (ok : HOk P w H h) (mu : Mut (H x)) (he : e = x \/ H e = some (.own x)) (k : ∀ b u, b ≠ e -> h.get? b = some u -> h'.get? b = some u) (heo : ∃ u, h'.get? e = some u)
    (new : ObjOk P w (upd H x o') h' x o') : HOk P w (upd H x o') h' := fun b u q => by
  have nown : ∀ c y, H c = some (.own y) -> c ≠ x := fun c y r z => by subst z; rw [r] at mu; exact mu
  have ntup : ∀ c xs, H c = some (.tup xs) -> c ≠ x := fun c xs r z => by subst z; rw [r] at mu; exact mu
  by_cases hb : b = x
  . subst hb; rw [zf] at q; cases q; exact new
  . rw [zp hb] at q
    by_cases hbe : b = e
    . have q' : H b = some (.own x) := by
        rcases he with z | z
        . exact absurd (hbe.trans z) hb
        . rw [hbe]; exact z
      rw [q] at q'; cases q';obtain ⟨v, hv⟩ := heo;exact ⟨v, by rw [hbe]; exact hv⟩
    . refine (ok b u q).stay (fun c v hc r => k c v ?_ r) (fun c r => by rw [zp (nown c b r)]; exact r) fun c xs r => by rw [zp (ntup c xs r)]; exact r
      rcases hc with rfl | hc
      . exact hbe
      . rintro rfl
        rcases he with z | z
        . exact nown c b hc z
        . rw [hc] at z; cases z; exact hb rfl
end
structure Un (fs ex : List Addr) (H H' : Hp) (h h' : Heap) : Prop where
  keep : ∀ b o, h.get? b = some o -> H b = none -> b ∉ fs -> b ∉ ex -> h'.get? b = some o
  slot : ∀ b o, h.get? b = some o -> H b = none -> b ∈ fs -> b ∉ ex -> ∃ sl, h'.get? b = some { o with slots := sl }
  free : ∀ b o, h.get? b = some o -> H b = none -> b ∉ ex -> H' b = none
  there : ∀ b o, h.get? b = some o -> b ∉ ex -> ∃ o', h'.get? b = some o'
  tups : ∀ b xs, H b = some (.tup xs) -> H' b = some (.tup xs)
  frzs : ∀ b o u, H b = some (.frz o u) -> H' b = some (.frz o u)
  tbls : ∀ b ps, H b = some (.tbl ps) -> ∃ more, H' b = some (.tbl (ps ++ more))
section
variable {fs fs' ex ex' : List Addr} {H H1 H2 : Hp} {h h1 h2 h' : Heap} {a x e : Addr} {o : HO}
theorem Un.any (u : Un fs ex H H1 h h1) {b : Addr} {ob : Obj} (q : h.get? b = some ob) (n : H b = none) (hx : b ∉ ex) : ∃ sl, h1.get? b = some { ob with slots := sl } := by
  by_cases hb : b ∈ fs
  . exact u.slot b ob q n hb hx
  . exact ⟨ob.slots, u.keep b ob q n hb hx⟩
theorem Un.trans (a : Un fs ex H H1 h h1) (b : Un fs ex H1 H2 h1 h2) : Un fs ex H H2 h h2 where
  keep := fun c ob q n hc hx => b.keep c ob (a.keep c ob q n hc hx) (a.free c ob q n hx) hc hx
  slot := fun c ob q n hc hx => by
    obtain ⟨sl, e1⟩ := a.slot c ob q n hc hx;obtain ⟨sl', e2⟩ := b.slot c _ e1 (a.free c ob q n hx) hc hx;exact ⟨sl', e2⟩
  free := fun c ob q n hx => by
    obtain ⟨o', e1⟩ := a.there c ob q hx;exact b.free c o' e1 (a.free c ob q n hx) hx
  there := fun c ob q hx => by
    obtain ⟨o', e1⟩ := a.there c ob q hx;exact b.there c o' e1 hx
  tups := fun c xs q => b.tups c xs (a.tups c xs q)
  frzs := fun c ob xs q => b.frzs c ob xs (a.frzs c ob xs q)
  tbls := fun c ps q => by
    obtain ⟨m1, e1⟩ := a.tbls c ps q;obtain ⟨m2, e2⟩ := b.tbls c _ e1;exact ⟨m1 ++ m2, by rw [e2, Array.append_assoc]⟩
theorem Un.kept (k : ∀ b u, h.get? b = some u -> h'.get? b = some u) : Un fs ex H H h h' :=
  ⟨fun b ob q _ _ _ => k b ob q, fun b ob q _ _ _ => ⟨ob.slots, k b ob q⟩, fun _ _ _ n _ => n, fun b ob q _ => ⟨ob, k b ob q⟩, fun _ _ q => q, fun _ _ _ q => q, fun _ ps q => ⟨#[], by rw [q]; simp⟩⟩
theorem Un.refl : Un fs ex H H h h := Un.kept fun _ _ q => q
theorem Un.laid (k : ∀ b u, h.get? b = some u -> h'.get? b = some u) (hp : h.objs.size <= a) (hn : H a = none) : Un fs ex H (upd H a o) h h' where
  keep := fun b u q _ _ _ => k b u q
  slot := fun b u q _ _ _ => ⟨u.slots, k b u q⟩
  free := fun b u q n _ => by rw [zp (Zs (Zh (Heap.lt_size q) hp))]; exact n
  there := fun b u q _ => ⟨u, k b u q⟩
  tups := fun b xs q => by rw [zp (xk q hn)]; exact q
  frzs := fun b u xs q => by rw [zp (xk q hn)]; exact q
  tbls := fun b ps q => ⟨#[], by rw [zp (xk q hn), q]; simp⟩
theorem Un.write (mu : Mut (H x)) (he : e = x \/ H e = some (.own x)) (k : ∀ b u, b ≠ e -> h.get? b = some u -> h'.get? b = some u) (heo : ∃ u, h'.get? e = some u) : Un fs ex H (upd H x o) h h' := by
  have hx : ∀ b, H b = none -> b ≠ x := fun b n z => by subst z; rw [n] at mu; exact mu
  have hb : ∀ b, H b = none -> b ≠ e := fun b n z => by
    subst z
    rcases he with r | r
    . exact hx b n r
    . rw [n] at r; cases r
  have hm : ∀ b u, H b = some u -> ¬ Mut (some u) -> b ≠ x := fun b u q nm z => by subst z; rw [q] at mu; exact nm mu
  refine ⟨fun b u q n _ _ => k b u (hb b n) q, fun b u q n _ _ => ⟨u.slots, k b u (hb b n) q⟩, fun b u q n _ => by rw [zp (hx b n)]; exact n, fun b u q _ => ?_,
    fun b xs q => by rw [zp (hm b _ q fun z => z)]; exact q, fun b u xs q => by rw [zp (hm b _ q fun z => z)]; exact q, fun b ps q => ⟨#[], by rw [zp (hm b _ q fun z => z), q]; simp⟩⟩
  by_cases hbe : b = e
  . subst hbe; exact heo
  . exact ⟨u, k b u hbe q⟩
theorem Un.mono (u : Un fs ex H H1 h h1) (hs : ∀ b ∈ fs, b ∈ fs') (hx : ∀ b ∈ ex, b ∈ ex') : Un fs' ex' H H1 h h1 :=
  ⟨fun b ob q n hb he => u.keep b ob q n (fun z => hb (hs b z)) fun z => he (hx b z), fun _ _ q n _ he => u.any q n fun z => he (hx _ z), fun b ob q n he => u.free b ob q n fun z => he (hx b z), fun b ob q he => u.there b ob q fun z => he (hx b z), u.tups, u.frzs, u.tbls⟩
end
def trk (h : Heap) (H : Hp) : List Addr := (List.range h.objs.size).filter fun a => (H a).isSome
def hidT (h : Heap) (H : Hp) : Heap := PySem.W.hideAll h (trk h H)
theorem za3 (h : Heap) (H : Hp) : (hidT h H).objs.size = h.objs.size := PySem.W.hideAll_size _ _
theorem zc5 {h : Heap} {H : Hp} {b : Addr} {o : Obj} (e : h.get? b = some o) (n : H b = none) : (hidT h H).get? b = some o :=
  PySem.W.hideAll_get _ e fun hm => by
    have q : (H b).isSome = true := (List.mem_filter.mp hm).2;rw [n] at q; simp at q
theorem zdz {h : Heap} {H : Hp} {b : Addr} {o : Obj} (e : (hidT h H).get? b = some o) : h.get? b = some o /\ H b = none := by
  have e' : h.get? b = some o := PySem.W.of_hideAll (trk h H) e;refine ⟨e', ?_⟩
  cases q : H b with
  | none => rfl
  | some x =>
    have hm : b ∈ trk h H := List.mem_filter.mpr ⟨ZP.mpr (Heap.lt_size e'), by simp [q]⟩;have z : (hidT h H).get? b = none := PySem.W.hideAll_none (trk h H) hm;rw [z] at e; cases e
def ze2 (g h : Heap) (L : Addr) : List (Addr × Obj) := (List.range h.objs.size).filterMap fun a => if a = L \/ (g.get? a).isSome = true then none else (h.get? a).map fun o => (a, o)
def rest (g h : Heap) (L d : Addr) : List (Addr × Obj) := (ze2 g h L).filter fun p => decide (p.1 ≠ d)
end L2
namespace L2
open PySem PySem.Spec PyProof.Rows
structure Mod (K : Fg) (mg : Str -> Option Value) (base : Heap) : Prop where
  kin : K.In base
  glob : base.Ns mainGlobals mg
  blt : ∃ mb, base.Ns builtinsNs mb /\ ∀ x : Str, x ≠ "__name__" -> mb x = bootBuiltins x
  nolimit : base.NoLimit
structure Cx where
  prog : Program
  w : World
  K : Fg
  mg : Str -> Option Value
  base : Heap
  A : Around
  N : List Str
  s₀ : Shared
  H₀ : Hp
  env : Env
  outer : List Env
  stack : List Env
  ex : List Addr
  fn : Str -> Bool
  calm : Bool
  pn : List (Addr × Obj)
  xe : Value -> Shared -> Prop
def frs (l : List Env) : List Addr := l.filterMap (·.frame)
abbrev Cx.fs (X : Cx) : List Addr := frs X.outer
def Vis (sc : Scope) (x : Str) : Prop := sc.names.lookup x = some .local \/ sc.names.lookup x = some .cell \/ sc.names.lookup x = some .free
def Loc (sc : Scope) (x : Str) : Prop := sc.names.lookup x = some .local \/ sc.names.lookup x = some .cell
def Look (env : Env) (h : Heap) (m : Str -> Option Value) (x : Str) (u : Value) : Prop :=
  (env.kindOf x = some .local /\ m x = some u) \/ ((env.kindOf x = some .cell \/ env.kindOf x = some .free) /\ ∃ c, env.cells.lookup x = some c /\ h.IsCell c (some u))
structure Cx.Ok (X : Cx) : Prop where
  mod : Mod X.K X.mg X.base
  kind : X.env.scope.kind = .function
  glob : X.env.globals = mainGlobals
  blt : X.env.builtins = builtinsNs
  above : X.s₀.heap.objs.size <= X.env.locals
  inj : ∀ x y c, X.env.cells.lookup x = some c -> X.env.cells.lookup y = some c -> x = y
  has : ∀ x, (X.env.kindOf x = some .cell \/ X.env.kindOf x = some .free) -> ∃ c, X.env.cells.lookup x = some c
  cab : ∀ x c, X.fn x = true -> X.env.cells.lookup x = some c -> X.s₀.heap.objs.size <= c
  hd : X.calm = true -> X.A.handled = none
  frames : X.A.frames = some X.stack
  stk : X.stack = X.outer \/ (X.stack = X.env :: X.outer /\ X.env.frame = some X.env.locals)
  exf : ∀ b ∈ X.ex, b ≠ X.env.locals /\ ∀ x c, X.env.cells.lookup x = some c -> c ≠ b
  bs : ∀ b o, X.base.get? b = some o -> X.s₀.heap.get? b = some o /\ X.H₀ b = none
  bsz : X.base.objs.size <= X.s₀.heap.objs.size
  noex : ∀ b o, X.base.get? b = some o -> b ∉ X.ex
  exfs : ∀ b ∈ X.ex, b ∉ X.fs
  funs : X.s₀.heap.FunFrames X.base X.outer
  frf : ∀ b ∈ X.fs, X.H₀ b = none
structure Inv (X : Cx) (pins : List (Addr × Obj)) (σ : List (Option V)) (H : Hp) (s : Shared) : Prop where
  ok : X.Ok
  os : s.os = X.s₀.os
  bare : AllBare s.gens
  base : Un X.fs X.ex X.H₀ H X.s₀.heap s.heap
  loc : ∃ m, s.heap.Ns X.env.locals m /\ ∀ (i : Nat) (x : Str) (v : V), X.N[i]? = some x -> σ[i]? = some (some v) -> Vis X.env.scope x -> ∃ u, RelV v u /\ Look X.env s.heap m x u
  cell : ∀ x c, X.env.cells.lookup x = some c -> ∃ v, s.heap.IsCell c v
  free : H X.env.locals = none
  freeC : ∀ x c, X.env.cells.lookup x = some c -> H c = none
  pin : ∀ p ∈ X.pn ++ pins, s.heap.get? p.1 = some p.2 /\ H p.1 = none /\ p.1 ≠ X.env.locals /\ p.1 ∉ X.fs /\ ∀ v, p.2.data ≠ .cell v
  hok : HOk X.prog X.w H s.heap
  len : σ.length = X.N.length
section
variable {X : Cx} {pins : List (Addr × Obj)} {σ : List (Option V)} {H H' : Hp} {s : Shared} {h' : Heap}
theorem Cx.Ok.nofr (ok : X.Ok) {b : Addr} {o : Obj} (e : X.base.get? b = some o) : b ∉ X.fs := fun hb => by
  have := (ok.funs.mem hb).1;rw [e] at this; cases this
theorem Inv.bs (I : Inv X pins σ H s) : ∀ b o, X.base.get? b = some o -> s.heap.get? b = some o /\ H b = none := fun b o e =>
  ⟨I.base.keep b o (I.ok.bs b o e).1 (I.ok.bs b o e).2 (I.ok.nofr e) (I.ok.noex b o e), I.base.free b o (I.ok.bs b o e).1 (I.ok.bs b o e).2 (I.ok.noex b o e)⟩
theorem Inv.bk (I : Inv X pins σ H s) : ∀ b o, X.base.get? b = some o -> s.heap.get? b = some o := fun b o e => (I.bs b o e).1
theorem Inv.mod (I : Inv X pins σ H s) : Mod X.K X.mg X.base := I.ok.mod
theorem Inv.kIn (I : Inv X pins σ H s) : X.K.In s.heap := I.ok.mod.kin.keeps I.bk
theorem Inv.nolimit (I : Inv X pins σ H s) : s.heap.NoLimit := I.ok.mod.nolimit.keeps I.bk
theorem Inv.fr (I : Inv X pins σ H s) : ∃ m, Fr X.base X.env.locals s.heap m :=
  let ⟨m, hn, _⟩ := I.loc
  ⟨m, hn, I.bk, Zd I.ok.bsz I.ok.above⟩
theorem Inv.lt (I : Inv X pins σ H s) : X.env.locals < s.heap.objs.size := let ⟨_, hn, _⟩ := I.loc; hn.lt
theorem Inv.sz (I : Inv X pins σ H s) : X.s₀.heap.objs.size <= s.heap.objs.size := Zd I.ok.above (YF I.lt)
theorem Inv.nofs (I : Inv X pins σ H s) {a : Addr} (h : s.heap.objs.size <= a) : a ∉ X.fs := fun hb => by
  obtain ⟨_, o, ho, _⟩ := I.ok.funs.mem hb;exact absurd (Zh (Heap.lt_size ho) (Zd I.sz h)) (ZJ _)
theorem Inv.cne (I : Inv X pins σ H s) : ∀ x c, X.env.cells.lookup x = some c -> c ≠ X.env.locals := fun x c e z => by
  obtain ⟨v, o, ho, hd⟩ := I.cell x c e;obtain ⟨m, ⟨o', es, ep, ho', hd', _⟩, _⟩ := I.loc;rw [z, ho'] at ho; cases ho; rw [hd'] at hd; cases hd
theorem Inv.funs (I : Inv X pins σ H s) : s.heap.FunFrames X.base X.outer := by
  have all : ∀ (l : List Env), (∀ b ∈ frs l, b ∈ X.fs) -> X.s₀.heap.FunFrames X.base l -> s.heap.FunFrames X.base l := by
    intro l
    induction l with
    | nil => intro _ _; trivial
    | cons env r ih =>
      intro hs hl;obtain ⟨hk, ⟨L, o, hf, hn, ho, hd⟩, hr⟩ := hl;have hL : L ∈ X.fs := hs L (by unfold frs; rw [Yy, hf]; exact ZA);obtain ⟨sl, e⟩ := I.base.slot L o ho (I.ok.frf L hL) hL fun z => I.ok.exfs L z hL
      exact ⟨hk, ⟨L, _, hf, hn, e, hd⟩, ih (fun b hb => hs b (by unfold frs; rw [Yy, hf]; exact Zv _ hb)) hr⟩
  exact all X.outer (fun _ hb => hb) I.ok.funs
theorem Inv.stack (I : Inv X pins σ H s) : s.heap.FunFrames X.base X.stack := by
  rcases I.ok.stk with e | ⟨e, hf⟩
  . rw [e]; exact I.funs
  . rw [e]
    obtain ⟨m, hn, _⟩ := I.loc;refine .cons (by rw [I.ok.kind]; decide) hf hn ?_ I.funs;exact Heap.get?_none_of_le (Zd I.ok.bsz I.ok.above)
theorem Inv.stkSub (I : Inv X pins σ H s) : ∀ b ∈ frs X.stack, b ∈ X.env.locals :: X.fs := fun b hb => by
  rcases I.ok.stk with e | ⟨e, hf⟩
  . rw [e] at hb; exact Zv _ hb
  . rw [e] at hb
    unfold frs at hb;rw [Yy, hf] at hb;exact hb
theorem Inv.stkFree (I : Inv X pins σ H s) : ∀ b ∈ frs X.stack, H b = none := fun b hb => by
  rcases ZK.mp (I.stkSub b hb) with e | hb
  . rw [e]; exact I.free
  . obtain ⟨_, o, ho, _⟩ := I.ok.funs.mem hb
    exact I.base.free b o ho (I.ok.frf b hb) fun z => I.ok.exfs b z hb
theorem Inv.step {g' : Array GenState} {t' : Nat} {d' : Drawn} {ch : List Addr} (I : Inv X pins σ H s)
    (hch : ∀ b ∈ ch, (b ∈ X.ex \/ X.s₀.heap.objs.size <= b) /\ b ≠ X.env.locals /\ (∀ x c, X.env.cells.lookup x = some c -> c ≠ b) /\ ∀ p ∈ X.pn ++ pins, p.1 ≠ b)
    (keep : ∀ b o, b ≠ X.env.locals -> b ∉ X.fs -> b ∉ ch -> s.heap.get? b = some o -> H b = none -> h'.get? b = some o)
    (slot : ∀ b o, b ≠ X.env.locals -> b ∈ X.fs -> b ∉ ch -> s.heap.get? b = some o -> H b = none -> ∃ sl, h'.get? b = some { o with slots := sl }) (free : ∀ b o, b ∉ ch -> s.heap.get? b = some o -> H b = none -> H' b = none)
    (there : ∀ b o, b ∉ ch -> s.heap.get? b = some o -> ∃ o', h'.get? b = some o')
    (tups : ∀ b xs, H b = some (.tup xs) -> H' b = some (.tup xs)) (frzs : ∀ b o u, H b = some (.frz o u) -> H' b = some (.frz o u)) (tbls : ∀ b ps, H b = some (.tbl ps) -> ∃ more, H' b = some (.tbl (ps ++ more)))
    (ns : ∀ m, s.heap.Ns X.env.locals m -> h'.Ns X.env.locals m) (hok : HOk X.prog X.w H' h') (hg : AllBare g') :
    Inv X pins σ H' { s with heap := h', gens := g', drawn := d', toks := t' } := by
  have neL : ∀ b o, X.s₀.heap.get? b = some o -> b ≠ X.env.locals := fun b o e => Zs (Zh (Heap.lt_size e) I.ok.above)
  have neC : ∀ b o, X.s₀.heap.get? b = some o -> b ∉ X.ex -> b ∉ ch := fun b o e hx hb => by
    rcases (hch b hb).1 with z | z
    . exact hx z
    . exact absurd (Zh (Heap.lt_size e) z) (ZJ _)
  have cellK : ∀ x c, X.env.cells.lookup x = some c -> ∀ v, s.heap.IsCell c v -> h'.IsCell c v := fun x c e v ⟨o, ho, hd⟩ => by
    have nch : c ∉ ch := fun z => (hch c z).2.2.1 x c e rfl
    by_cases hc : c ∈ X.fs
    . obtain ⟨sl, q⟩ := slot c o (I.cne x c e) hc nch ho (I.freeC x c e)
      exact ⟨_, q, hd⟩
    . exact ⟨o, keep c o (I.cne x c e) hc nch ho (I.freeC x c e), hd⟩
  refine ⟨I.ok, I.os, hg, ⟨fun b o e n hb hx => ?_, fun b o e n hb hx => ?_, fun b o e n hx => ?_, fun b o e hx => ?_, fun b xs e => tups b xs (I.base.tups b xs e), fun b o xs e => frzs b o xs (I.base.frzs b o xs e), fun b ps e => ?_⟩, ?_, fun x c e => ?_, ?_, fun x c e => ?_, fun p hp => ?_, hok, I.len⟩
  . exact keep b o (neL b o e) hb (neC b o e hx) (I.base.keep b o e n hb hx) (I.base.free b o e n hx)
  . obtain ⟨sl, e1⟩ := I.base.slot b o e n hb hx
    obtain ⟨sl', e2⟩ := slot b _ (neL b o e) hb (neC b o e hx) e1 (I.base.free b o e n hx);exact ⟨sl', e2⟩
  . obtain ⟨o', e1⟩ := I.base.there b o e hx
    exact free b o' (neC b o e hx) e1 (I.base.free b o e n hx)
  . obtain ⟨o', e1⟩ := I.base.there b o e hx
    exact there b o' (neC b o e hx) e1
  . obtain ⟨m1, e1⟩ := I.base.tbls b ps e
    obtain ⟨m2, e2⟩ := tbls b _ e1;exact ⟨m1 ++ m2, by rw [e2, Array.append_assoc]⟩
  . obtain ⟨m, hn, hl⟩ := I.loc
    refine ⟨m, ns m hn, fun i x v e1 e2 e3 => ?_⟩;obtain ⟨u, r, l⟩ := hl i x v e1 e2 e3;refine ⟨u, r, ?_⟩
    rcases l with l | ⟨k, c, e, z⟩
    . exact .inl l
    . exact .inr ⟨k, c, e, cellK x c e _ z⟩
  . obtain ⟨v, z⟩ := I.cell x c e
    exact ⟨v, cellK x c e v z⟩
  . obtain ⟨m, ⟨o, _, _, ho, _⟩, _⟩ := I.loc
    exact free _ o (fun z => (hch _ z).2.1 rfl) ho I.free
  . obtain ⟨v, o, ho, hd⟩ := I.cell x c e
    exact free c o (fun z => (hch c z).2.2.1 x c e rfl) ho (I.freeC x c e)
  . obtain ⟨e, n, ne, nf, d⟩ := I.pin p hp
    have nch : p.1 ∉ ch := fun z => (hch p.1 z).2.2.2 p hp rfl
    exact ⟨keep p.1 p.2 ne nf nch e n, free p.1 p.2 nch e n, ne, nf, d⟩
theorem Inv.un {t' : Nat} (I : Inv X pins σ H s) (u : Un X.fs [] H H' s.heap h') (hok : HOk X.prog X.w H' h') : Inv X pins σ H' { s with heap := h', toks := t' } := by
  obtain ⟨m, ⟨o, es, ep, ho, r⟩, _⟩ := id I.loc;obtain ⟨sl, hL⟩ := u.any ho I.free (by simp)
  exact I.step (g' := s.gens) (d' := s.drawn) (ch := []) (fun _ z => nomatch z) (fun b o _ hb _ e n => u.keep b o e n hb (by simp)) (fun b o _ hb _ e n => u.slot b o e n hb (by simp)) (fun b o _ e n => u.free b o e n (by simp)) (fun b o _ e => u.there b o e (by simp)) u.tups u.frzs u.tbls (fun m' hm => by
    obtain ⟨o', es', ep', ho', r'⟩ := hm;rw [ho] at ho'; cases ho'
    exact ⟨_, es', ep', hL, r'⟩) hok I.bare
theorem Inv.call {g' : Array GenState} {t' : Nat} {d' : Drawn} {ch : List Addr} (I : Inv X pins σ H s) (u : Un (frs X.stack) ch H H' s.heap h') (hok : HOk X.prog X.w H' h') (hg : AllBare g')
    (hch : ∀ b ∈ ch, (b ∈ X.ex \/ X.s₀.heap.objs.size <= b) /\ b ≠ X.env.locals /\ (∀ x c, X.env.cells.lookup x = some c -> c ≠ b) /\ ∀ p ∈ X.pn ++ pins, p.1 ≠ b) :
    Inv X pins σ H' { s with heap := h', gens := g', drawn := d', toks := t' } := by
  obtain ⟨m, ⟨o, es, ep, ho, r⟩, _⟩ := id I.loc;obtain ⟨sl, hL⟩ := u.any ho I.free fun z => (hch _ z).2.1 rfl
  exact I.step (ch := ch) hch (fun b o hL hb hc e n => u.keep b o e n (fun z => (ZK.mp (I.stkSub b z)).elim hL hb) hc) (fun b o _ _ hc e n => u.any e n hc) (fun b o hc e n => u.free b o e n hc) (fun b o hc e => u.there b o e hc) u.tups u.frzs u.tbls (fun m' hm => by
    obtain ⟨o', es', ep', ho', r'⟩ := hm;rw [ho] at ho'; cases ho'
    exact ⟨_, es', ep', hL, r'⟩) hok hg
theorem Inv.turned {t' : Nat} {it : Addr} (I : Inv X pins σ H s) (k : ∀ b o, b ≠ it -> s.heap.get? b = some o -> h'.get? b = some o) (hn : H it = none) (hL : it ≠ X.env.locals)
    (h1 : it ∈ X.ex \/ X.s₀.heap.objs.size <= it) (h2 : ∀ x c, X.env.cells.lookup x = some c -> c ≠ it) (h3 : ∀ p ∈ X.pn ++ pins, p.1 ≠ it) : Inv X pins σ H { s with heap := h', toks := t' } := by
  have nit : ∀ b u, H b = some u -> b ≠ it := fun b u e z => by rw [z, hn] at e; cases e
  refine I.step (g' := s.gens) (d' := s.drawn) (ch := [it]) (fun b hb => ?_) (fun b o _ _ hc e _ => k b o (fun z => hc (by simp [z])) e) (fun b o _ _ hc e _ => ⟨o.slots, k b o (fun z => hc (by simp [z])) e⟩) (fun _ _ _ _ n => n)
    (fun b o hc e => ⟨o, k b o (fun z => hc (by simp [z])) e⟩) (fun _ _ e => e) (fun _ _ _ e => e) (fun b ps e => ⟨#[], by rw [e]; simp⟩) (fun m hm => ?_) (fun b u e => ?_) I.bare
  . have e : b = it := by simpa using hb
    subst e;exact ⟨h1, hL, h2, h3⟩
  . obtain ⟨o, es, ep, ho, r⟩ := hm
    exact ⟨o, es, ep, k _ o (Ne.symm hL) ho, r⟩
  . refine (I.hok b u e).stay (fun c v hc q => k c v ?_ q) (fun _ q => q) fun _ _ q => q
    rcases hc with z | z
    . rw [z]; exact nit b u e
    . exact nit c _ z
theorem Inv.tok (I : Inv X pins σ H s) (t : Nat) : Inv X pins σ H { s with toks := t } := I.un (h' := s.heap) (t' := t) Un.refl I.hok
theorem Inv.kept {t' : Nat} (I : Inv X pins σ H s) (k : ∀ b u, s.heap.get? b = some u -> h'.get? b = some u) : Inv X pins σ H { s with heap := h', toks := t' } := I.un (Un.kept k) (I.hok.kept k)
theorem Inv.laid {a : Addr} {o : HO} {t' : Nat} (I : Inv X pins σ H s) (k : ∀ b u, s.heap.get? b = some u -> h'.get? b = some u) (hp : s.heap.objs.size <= a) (new : ObjOk X.prog X.w (upd H a o) h' a o) :
    Inv X pins σ (upd H a o) { s with heap := h', toks := t' } := I.un (Un.laid k hp (I.hok.fresh hp)) (I.hok.laid k hp new)
theorem Inv.write {x e : Addr} {o : HO} {t' : Nat} (I : Inv X pins σ H s) (mu : Mut (H x)) (he : e = x \/ H e = some (.own x)) (k : ∀ b u, b ≠ e -> s.heap.get? b = some u -> h'.get? b = some u) (heo : ∃ u, h'.get? e = some u)
    (new : ObjOk X.prog X.w (upd H x o) h' x o) : Inv X pins σ (upd H x o) { s with heap := h', toks := t' } := I.un (Un.write mu he k heo) (I.hok.write mu he k heo new)
theorem Inv.weak {σ' : List (Option V)} (I : Inv X pins σ H s) (hl : σ'.length = σ.length) (w : ∀ (i : Nat) v, σ'[i]? = some (some v) -> σ[i]? = some (some v)) : Inv X pins σ' H s :=
  ⟨I.ok, I.os, I.bare, I.base, let ⟨m, hn, hl'⟩ := I.loc; ⟨m, hn, fun i x v e1 e2 e3 => hl' i x v e1 (w i v e2) e3⟩, I.cell, I.free, I.freeC, I.pin, I.hok, hl.trans I.len⟩
theorem Inv.pins_of {pins' : List (Addr × Obj)} (I : Inv X pins σ H s) (h : ∀ p ∈ pins', s.heap.get? p.1 = some p.2 /\ H p.1 = none /\ p.1 ≠ X.env.locals /\ p.1 ∉ X.fs /\ ∀ v, p.2.data ≠ .cell v) : Inv X pins' σ H s :=
  ⟨I.ok, I.os, I.bare, I.base, I.loc, I.cell, I.free, I.freeC, fun p hp => (ZH.mp hp).elim (fun z => I.pin p (ZX _ z)) (h p), I.hok, I.len⟩
theorem kw {N : List Str} (hN : N.Nodup) {i j : Nat} {x : Str} (a : N[i]? = some x) (b : N[j]? = some x) : i = j := by
  obtain ⟨h1, e1⟩ := Zc.mp a;obtain ⟨h2, e2⟩ := Zc.mp b;exact (Yo hN).mp (e1.trans e2.symm)
theorem iq {M : Model} {A : Around} {E : Value -> Shared -> Prop} {i : Nat} {x : Str} {v : V} {u : Value} {Q : Unit -> Shared -> Prop} (I : Inv X pins σ H s) (hN : X.N.Nodup) (hi : X.N[i]? = some x) (hx : Loc X.env.scope x) (r : RelV v u)
    (h : ∀ s', Inv X pins (σ.set i (some v)) H s' -> (∃ a, Heap.SameBut a s.heap s'.heap /\ (a = X.env.locals \/ X.env.cells.lookup x = some a)) -> Q () s') (hf : X.fn x = true \/ X.env.scope.names.lookup x = some .local := by first | exact .inl rfl | exact .inr rfl | assumption) : wpAny M A (storeName X.env x u) Q E s := by
  obtain ⟨m, hn, hl⟩ := id I.loc;have hcls : (X.env.scope.kind == .class || (X.env.scope.kind == .module && X.env.locals != X.env.globals)) = false := by rw [I.ok.kind]; rfl
  have hiσ : i < σ.length := by rw [I.len]; exact (Zc.mp hi).1
  have cne := I.cne
  have tracked : ∀ {a : Addr} {h' : Heap}, (∃ o, s.heap.get? a = some o /\ H a = none) -> Heap.SameBut a s.heap h' -> HOk X.prog X.w H h' := fun {a h'} ha hs b ob e => by
    obtain ⟨_, _, hfree⟩ := ha;refine (I.hok b ob e).stay (fun c w' hc q => (hs.2 c ?_).trans q) (fun _ q => q) fun _ _ q => q
    rintro rfl
    rcases hc with rfl | hc
    . rw [hfree] at e; cases e
    . rw [hfree] at hc; cases hc
  rcases hx with hk | hk
  . refine wpAny_storeName_local hk hn (fun h' hn' hs => ?_) hcls
    obtain ⟨oL, _, _, hoL, _⟩ := id hn;refine h _ ⟨I.ok, I.os, I.bare, ⟨fun b o e n hb hx => ?_, fun b o e n hb hx => ?_, I.base.free, fun b o e hx => ?_, I.base.tups, I.base.frzs, I.base.tbls⟩, ⟨_, hn', fun j y v' e1 e2 e3 => ?_⟩, fun y c e => ?_, I.free, I.freeC, fun p hp => ?_, tracked ⟨oL, hoL, I.free⟩ hs, by simpa using I.len⟩ ⟨_, hs, .inl rfl⟩
    . exact (hs.2 b (Zs (Zh (Heap.lt_size e) I.ok.above))).trans (I.base.keep b o e n hb hx)
    . obtain ⟨sl, e1⟩ := I.base.slot b o e n hb hx
      exact ⟨sl, (hs.2 b (Zs (Zh (Heap.lt_size e) I.ok.above))).trans e1⟩
    . obtain ⟨o', e1⟩ := I.base.there b o e hx
      exact ⟨o', (hs.2 b (Zs (Zh (Heap.lt_size e) I.ok.above))).trans e1⟩
    . by_cases hj : j = i
      . subst hj
        rw [hi] at e1; cases e1;rw [ZS hiσ] at e2;cases e2;exact ⟨u, r, .inl ⟨hk, by simp⟩⟩
      . rw [ZY (Ne.symm hj)] at e2
        obtain ⟨u', r', q⟩ := hl j y v' e1 e2 e3;refine ⟨u', r', ?_⟩
        rcases q with ⟨k, e⟩ | ⟨k, c, e, z⟩
        . refine .inl ⟨k, ?_⟩
          have : y ≠ x := fun e => hj (kw hN e1 (e ▸ hi))
          simp [this, e]
        . exact .inr ⟨k, c, e, z.sameBut hs (cne y c e)⟩
    . obtain ⟨w', z⟩ := I.cell y c e
      exact ⟨w', z.sameBut hs (cne y c e)⟩
    . obtain ⟨e, n, ne, nf, d⟩ := I.pin p hp
      exact ⟨(hs.2 p.1 ne).trans e, n, ne, nf, d⟩
  . have hfn : X.fn x = true := by
      rcases hf with z | z
      . exact z
      . rw [z] at hk; cases hk
    obtain ⟨c, hc⟩ := I.ok.has x (.inl hk);obtain ⟨w', z⟩ := I.cell x c hc;refine wpAny_storeName_cell I.ok.kind hk hc z (fun h' hc' hs => ?_);obtain ⟨oc, hoc, hocd⟩ := id z;refine h { s with heap := h' } ⟨I.ok, I.os, I.bare, ⟨fun b o e n hb hx => ?_, fun b o e n hb hx => ?_, I.base.free, fun b o e hx => ?_, I.base.tups, I.base.frzs, I.base.tbls⟩, ⟨m, hn.sameBut hs (Ne.symm (cne x c hc)), fun j y v' e1 e2 e3 => ?_⟩, fun y c' e => ?_, I.free, I.freeC, fun p hp => ?_, tracked ⟨oc, hoc, I.freeC x c hc⟩ hs, by simpa using I.len⟩ ⟨c, hs, .inr hc⟩
    . exact (hs.2 b (Zs (Zh (Heap.lt_size e) (I.ok.cab x c hfn hc)))).trans (I.base.keep b o e n hb hx)
    . obtain ⟨sl, e1⟩ := I.base.slot b o e n hb hx
      exact ⟨sl, (hs.2 b (Zs (Zh (Heap.lt_size e) (I.ok.cab x c hfn hc)))).trans e1⟩
    . obtain ⟨o', e1⟩ := I.base.there b o e hx
      exact ⟨o', (hs.2 b (Zs (Zh (Heap.lt_size e) (I.ok.cab x c hfn hc)))).trans e1⟩
    . by_cases hj : j = i
      . subst hj
        rw [hi] at e1; cases e1;rw [ZS hiσ] at e2;cases e2;exact ⟨u, r, .inr ⟨.inl hk, c, hc, hc'⟩⟩
      . rw [ZY (Ne.symm hj)] at e2
        obtain ⟨u', r', q⟩ := hl j y v' e1 e2 e3;refine ⟨u', r', ?_⟩
        rcases q with q | ⟨k, c', e, z'⟩
        . exact .inl q
        . refine .inr ⟨k, c', e, z'.sameBut hs ?_⟩
          rintro rfl
          exact hj (kw hN e1 (I.ok.inj _ _ _ e hc ▸ hi))
    . by_cases hcc : c' = c
      . subst hcc; exact ⟨_, hc'⟩
      . obtain ⟨w2, z2⟩ := I.cell y c' e
        exact ⟨w2, z2.sameBut hs hcc⟩
    . obtain ⟨e, n, ne, nf, d⟩ := I.pin p hp
      refine ⟨(hs.2 p.1 ?_).trans e, n, ne, nf, d⟩;intro q;rw [q, hoc] at e;have q' : oc = p.2 := Option.some.inj e;exact d w' (by rw [<- q']; exact hocd)
theorem o9 {M : Model} {A : Around} {E : Value -> Shared -> Prop} {i : Nat} {x : Str} {v : V} {u : Value} {Q : Unit -> Shared -> Prop} (I : Inv X pins σ H s) (hN : X.N.Nodup) (hi : X.N[i]? = some x) (hx : Loc X.env.scope x) (r : RelV v u)
    (h : ∀ s', Inv X pins (σ.set i (some v)) H s' -> Q () s') (hf : X.fn x = true \/ X.env.scope.names.lookup x = some .local := by first | exact .inl rfl | exact .inr rfl | assumption) : wpAny M A (storeName X.env x u) Q E s :=
  iq I hN hi hx r (fun s' I' _ => h s' I') hf
theorem Inv.call' {s' : Shared} {ch : List Addr} (I : Inv X pins σ H s) (ho : s'.os = s.os) (u : Un (frs X.stack) ch H H' s.heap s'.heap) (hok : HOk X.prog X.w H' s'.heap) (hg : AllBare s'.gens)
    (hch : ∀ b ∈ ch, (b ∈ X.ex \/ X.s₀.heap.objs.size <= b) /\ b ≠ X.env.locals /\ (∀ x c, X.env.cells.lookup x = some c -> c ≠ b) /\ ∀ p ∈ X.pn ++ pins, p.1 ≠ b) : Inv X pins σ H' s' := by
  obtain ⟨h', g', d', t', o'⟩ := s';have e : o' = s.os := ho;subst e;exact I.call (g' := g') (t' := t') (d' := d') u hok hg hch
end
abbrev XK := Value -> Option Addr -> Hp -> Prop
abbrev St := List (Option V)
abbrev VK := V -> Hp -> Prop
abbrev TE := St -> Hp -> VK -> Prop
abbrev TT := St -> Hp -> (Bool -> Hp -> Prop) -> Prop
abbrev TA := St -> Hp -> (List V -> Hp -> Prop) -> Prop
structure Ends where
  nx : St -> Hp -> Prop
  rt : VK
  bk : St -> Hp -> Prop := fun _ _ => False
  ct : St -> Hp -> Prop := fun _ _ => False
abbrev TS := Ends -> St -> Hp -> Prop
def EP (X : Cx) (pins : List (Addr × Obj)) (σ : St) (Q : VK) (u : Value) (s' : Shared) : Prop := ∃ v H', Inv X pins σ H' s' /\ RelV v u /\ Q v H'
def TP (X : Cx) (pins : List (Addr × Obj)) (σ : St) (Q : Bool -> Hp -> Prop) (b : Bool) (s' : Shared) : Prop := ∃ H', Inv X pins σ H' s' /\ Q b H'
def AP (X : Cx) (pins : List (Addr × Obj)) (σ : St) (Q : List V -> Hp -> Prop) (us : List Value) (s' : Shared) : Prop := ∃ vs H', Inv X pins σ H' s' /\ Vals vs us /\ Q vs H'
def SP (X : Cx) (pins : List (Addr × Obj)) (D : Ends) (f : Flow) (s' : Shared) : Prop :=
  match f with
  | .next => ∃ σ' H', Inv X pins σ' H' s' /\ D.nx σ' H'
  | .brk => ∃ σ' H', Inv X pins σ' H' s' /\ D.bk σ' H'
  | .cont => ∃ σ' H', Inv X pins σ' H' s' /\ D.ct σ' H'
  | .ret u => ∃ v σ' H', Inv X pins σ' H' s' /\ RelV v u /\ D.rt v H'
def PE (X : Cx) (e : Expr) (t : TE) : Prop :=
  ∀ (pins : List (Addr × Obj)) (s : Shared) (σ : St) (H : Hp) (Q : VK), Inv X pins σ H s -> t σ H Q -> wpAny (model X.prog X.w) X.A (eval e X.env) (EP X pins σ Q) X.xe s
def PT (X : Cx) (e : Expr) (t : TT) : Prop :=
  ∀ (pins : List (Addr × Obj)) (s : Shared) (σ : St) (H : Hp) (Q : Bool -> Hp -> Prop), Inv X pins σ H s -> t σ H Q -> wpAny (model X.prog X.w) X.A (isTrue e X.env (eval e X.env)) (TP X pins σ Q) X.xe s
def PW (X : Cx) (e : Expr) (t : TT) : Prop :=
  ∀ (whole : Sem Value) (pins : List (Addr × Obj)) (s : Shared) (σ : St) (H : Hp) (Q : Bool -> Hp -> Prop), Inv X pins σ H s -> t σ H Q -> wpAny (model X.prog X.w) X.A (isTrue e X.env whole) (TP X pins σ Q) X.xe s
theorem PW.pt {X : Cx} {e : Expr} {t : TT} (h : PW X e t) : PT X e t := h _
def PA (X : Cx) (es : List Expr) (t : TA) : Prop :=
  ∀ (pos : Pos) (pins : List (Addr × Obj)) (s : Shared) (σ : St) (H : Hp) (Q : List V -> Hp -> Prop), Inv X pins σ H s -> t σ H Q -> wpAny (model X.prog X.w) X.A (spliced (backTo pos (starEach es X.env))) (AP X pins σ Q) X.xe s
def PS (X : Cx) (st : Stmt) (t : TS) : Prop :=
  ∀ (pins : List (Addr × Obj)) (s : Shared) (σ : St) (H : Hp) (D : Ends), Inv X pins σ H s -> t D σ H -> wpAny (model X.prog X.w) X.A (exec st X.env) (SP X pins D) X.xe s
def PSs (X : Cx) (st : List Stmt) (t : TS) : Prop :=
  ∀ (pins : List (Addr × Obj)) (s : Shared) (σ : St) (H : Hp) (D : Ends), Inv X pins σ H s -> t D σ H -> wpAny (model X.prog X.w) X.A (execs st X.env) (SP X pins D) X.xe s
theorem thn {α : Type} {t : Sem α} {Q Q' : α -> Shared -> Prop} {M : Model} {A : Around} {E : Value -> Shared -> Prop} {s : Shared} (h : wpAny M A t Q E s) (hQ : ∀ a s, Q a s -> Q' a s) : wpAny M A t Q' E s := wpAny_mono h hQ fun _ _ x => x
end L2
namespace L2
open PySem PySem.Spec PyProof.Rows
section
variable {X : Cx}
def tVar (i : Nat) : TE := fun σ H Q => ∃ v, σ[i]? = some (some v) /\ Q v H
def tC (v : V) : TE := fun _ H Q => Q v H
theorem pe_var {i : Nat} {x : Str} {pos : Pos} (hN : X.N[i]? = some x) (hv : Vis X.env.scope x) (hd : (x == ("__debug__" : Str)) = false := by decide) (hcd : (x == ("__classdict__" : Str)) = false := by decide) : PE X (.Name x pos) (tVar i) := by
  intro pins s σ H Q I h;obtain ⟨v, e, h⟩ := h;obtain ⟨m, hn, hl⟩ := I.loc;obtain ⟨u, r, l⟩ := hl i x v hN e hv;have fin : EP X pins σ Q u s := ⟨v, H, I, r, h⟩
  rcases l with ⟨hk, hm⟩ | ⟨hk, c, hc, hcell⟩
  . exact wpAny_Name (wpAny_loadName_local I.ok.kind hk hn hm fin) hd
  . rcases hk with hk | hk
    . exact wpAny_Name (wpAny_loadName_cell I.ok.kind hk hc hcell fin) hd
    . exact wpAny_Name (wpAny_loadName_free I.ok.kind hk hc hcell fin hcd) hd
theorem zd {i j pos} : PE X (.Constant (.int i) j pos) (tC (.int i)) := fun _ _ _ H _ I h => wpAny_Constant_int ⟨.int i, H, I.tok _, ⟨_, rfl⟩, h⟩
theorem vp {b j pos} : PE X (.Constant (.bool b) j pos) (tC (.bl b)) := fun _ _ _ H _ I h => Constant_bool ⟨.bl b, H, I, rfl, h⟩
theorem zbr {j pos} : PE X (.Constant .none j pos) (tC .non) := fun _ _ _ H _ I h => Constant_none ⟨.non, H, I, rfl, h⟩
theorem ud {x j pos} : PE X (.Constant (.str x) j pos) (tC (.str x)) := fun _ _ _ H _ I h => Calls.Constant_str ⟨.str x, H, I.tok _, ⟨_, rfl⟩, h⟩
def Gl (X : Cx) (x : Str) : Prop := X.env.kindOf x = some .globalImplicit
theorem om {E : Value -> Shared -> Prop} {pins : List (Addr × Obj)} {s : Shared} {σ : St} {H : Hp} {x : Str} {u : Value} {pos : Pos} {Q : Value -> Shared -> Prop} (I : Inv X pins σ H s) (hg : Gl X x) (hm : X.mg x = some u) (h : Q u s)
    (hd : (x == ("__debug__" : Str)) = false := by decide) : wpAny (model X.prog X.w) X.A (eval (.Name x pos) X.env) Q E s :=
  Calls.Name_function_global I.ok.kind hg (Calls.loadGlobal_global (by rw [I.ok.glob]; exact I.mod.glob.keeps I.bk) hm h) hd
theorem ss {E : Value -> Shared -> Prop} {pins : List (Addr × Obj)} {s : Shared} {σ : St} {H : Hp} {x : Str} {u : Value} {pos : Pos} {Q : Value -> Shared -> Prop} (I : Inv X pins σ H s) (hg : Gl X x) (hm : X.mg x = none) (hv : bootBuiltins x = some u) (h : Q u s)
    (hn : x ≠ "__name__" := by decide) (hd : (x == ("__debug__" : Str)) = false := by decide) : wpAny (model X.prog X.w) X.A (eval (.Name x pos) X.env) Q E s := by
  obtain ⟨mb, h1, h2⟩ := I.mod.blt;exact Calls.Name_function_global I.ok.kind hg (Calls.loadGlobal_builtin (by rw [I.ok.glob]; exact I.mod.glob.keeps I.bk) hm (by rw [I.ok.blt]; exact h1.keeps I.bk) ((h2 x hn).trans hv) h) hd
theorem vk {x : Str} {v : V} {u : Value} {pos : Pos} (hg : Gl X x) (hm : X.mg x = some u) (r : RelV v u) (hd : (x == ("__debug__" : Str)) = false := by decide) : PE X (.Name x pos) (tC v) :=
  fun _ _ _ H _ I h => om I hg hm ⟨v, H, I, r, h⟩ hd
theorem zdx {x : Str} {v : V} {u : Value} {pos : Pos} (hg : Gl X x) (hm : X.mg x = none) (hv : bootBuiltins x = some u) (r : RelV v u) (hn : x ≠ "__name__" := by decide) (hd : (x == ("__debug__" : Str)) = false := by decide) : PE X (.Name x pos) (tC v) :=
  fun _ _ _ H _ I h => ss I hg hm hv ⟨v, H, I, r, h⟩ hn hd
variable {a b : Expr} {ta tb : TE} {pos : Pos}
def tB (t : TE) : TT := fun σ H Q => t σ H fun x H1 => ∃ c, x = .bl c /\ Q c H1
theorem wb {e : Expr} {t : TE} (h : PE X e t) (he : ∀ whole, isTrue e X.env whole = (do let v <- whole; standAt e.pos; holding [v] (truthy v)) := by intro _; rfl) : PT X e (tB t) := by
  intro pins s σ H Q I hw;refine isTrue_plain (thn (h pins s σ H _ I hw) fun v s1 ⟨x, H1, I1, r1, q1⟩ => ?_) (he _);obtain ⟨d, rfl, q⟩ := q1;cases r1;exact wpAny_truthy_bool ⟨H1, I1, q⟩
variable {tA tB' : TT} {rest : List Expr}
def tAnd (t u : TT) : TT := fun σ H Q => t σ H fun c H1 => if c = true then u σ H1 Q else Q false H1
def tOr (t u : TT) : TT := fun σ H Q => t σ H fun c H1 => if c = true then Q true H1 else u σ H1 Q
def tNot (t : TT) : TT := fun σ H Q => t σ H fun c H1 => Q (!c) H1
theorem qy (ha : PT X a tA) : PW X (.BoolOp .Or [a] pos) tA := by
  intro wh pins s σ H Q I h;refine isTrue_or (thn (ha pins s σ H Q I h) fun c s1 e => ?_)
  cases c with
  | false => exact isTrue_or_nil e
  | true => exact e
theorem o7 (ha : PT X a tA) (hb : PW X (.BoolOp .Or (b :: rest) pos) tB') : PW X (.BoolOp .Or (a :: b :: rest) pos) (tOr tA tB') := by
  intro wh pins s σ H Q I h;refine isTrue_or (thn (ha pins s σ H _ I h) fun c s1 ⟨H1, I1, q1⟩ => ?_)
  cases c with
  | true => exact ⟨H1, I1, q1⟩
  | false => exact hb wh pins s1 σ H1 Q I1 q1
theorem xu (ha : PT X a tA) : PT X (.UnaryOp .Not a pos) (tNot tA) := by
  intro pins s σ H Q I h;exact isTrue_not (ha pins s σ H (fun c H1 => Q (!c) H1) I h)
def tAndV (ta tb : TE) : TE := fun σ H Q => ta σ H fun x H1 => ∃ c, x = .bl c /\ if c = true then tb σ H1 Q else Q (.bl false) H1
def tOrV (ta tb : TE) : TE := fun σ H Q => ta σ H fun x H1 => ∃ c, x = .bl c /\ if c = true then Q (.bl true) H1 else tb σ H1 Q
def tNotV (ta : TE) : TE := fun σ H Q => ta σ H fun x H1 => ∃ c, x = .bl c /\ Q (.bl (!c)) H1
theorem u9 {op} {t : TE} (h : PE X a t) : PE X (.BoolOp op [a] pos) t := fun pins s σ H Q I hw => BoolOp_one (h pins s σ H Q I hw)
theorem uf (ha : PE X a ta) (hb : PE X (.BoolOp .And (b :: rest) pos) tb) : PE X (.BoolOp .And (a :: b :: rest) pos) (tAndV ta tb) := by
  intro pins s σ H Q I h;refine BoolOp_and (thn (ha pins s σ H _ I h) fun v s1 ⟨x, H1, I1, r1, q1⟩ => ?_);obtain ⟨c, rfl, q1⟩ := q1;cases r1;refine wpAny_truthy_bool ?_
  cases c with
  | true => exact hb pins s1 σ H1 Q I1 q1
  | false => exact ⟨.bl false, H1, I1, rfl, q1⟩
theorem za8 (ha : PE X a ta) : PE X (.UnaryOp .Not a pos) (tNotV ta) := by
  intro pins s σ H Q I h;refine UnaryOp_ (thn (ha pins s σ H _ I h) fun v s1 ⟨x, H1, I1, r1, q1⟩ => ?_);obtain ⟨c, rfl, q1⟩ := q1;cases r1;exact not_of (wpAny_truthy_bool ⟨.bl (!c), H1, I1, rfl, q1⟩)
def tIf (t : TT) (ta tb : TE) : TE := fun σ H Q => t σ H fun c H1 => if c = true then ta σ H1 Q else tb σ H1 Q
end
end L2
namespace L2
open PySem PySem.Spec PyProof.Rows
def SqL (K : Fg) (H : Hp) (a : Addr) (xs : List V) : Prop :=
  Rd H a (.lst xs) \/
    ∃ (o : Obj) (its : Array Value) (n : Nat), K.lookup a = some o /\ o.cls = .type "list" /\ o.dict = none /\ o.data = .seq its n /\ its.size <= sizeLine /\ Vals xs its.toList
def SqT (K : Fg) (H : Hp) (a : Addr) (xs : List V) : Prop :=
  Rd H a (.tup xs) \/
    ∃ (o : Obj) (its : Array Value) (n : Nat), K.lookup a = some o /\ o.cls = .type "tuple" /\ o.data = .seq its n /\ its.size <= sizeLine /\ Vals xs its.toList
def absV : Value -> Option V
  | .none => some .non
  | .bool b => some (.bl b)
  | .int i _ => some (.int i)
  | .str x _ => some (.str x)
  | .bytes b _ => some (.byt b)
  | .float b _ => some (.flt b)
  | .ref a => some (.ref a)
  | .type n => some (.ty n)
  | _ => none
theorem RelV.abs {x : V} {u : Value} (r : RelV x u) : absV u = some x := by
  cases x with
  | non => cases r; rfl
  | bl _ => cases r; rfl
  | int _ => obtain ⟨t, rfl⟩ := r; rfl
  | str _ => obtain ⟨t, rfl⟩ := r; rfl
  | byt _ => obtain ⟨t, rfl⟩ := r; rfl
  | flt _ => obtain ⟨t, rfl⟩ := r; rfl
  | ref _ => cases r; rfl
  | ty _ => cases r; rfl
theorem RelV.inj {x y : V} {u : Value} (r : RelV x u) (q : RelV y u) : x = y := Option.some.inj (r.abs.symm.trans q.abs)
theorem Vals.inj : ∀ {xs ys : List V} {us : List Value}, Vals xs us -> Vals ys us -> xs = ys
  | _, _, _, .nil, .nil => rfl
  | _, _, _, .cons r t, .cons r' t' => by rw [r.inj r', Vals.inj t t']
section
variable {X : Cx} {pins : List (Addr × Obj)} {σ : St} {H : Hp} {s : Shared} {a : Addr} {xs ys : List V}
theorem SqL.of {K : Fg} (h : H a = some (.lst xs)) : SqL K H a xs := .inl (.inl h)
theorem SqT.of {K : Fg} (h : H a = some (.tup xs)) : SqT K H a xs := .inl (.inl h)
theorem Inv.list (I : Inv X pins σ H s) (h : SqL X.K H a xs) : ∃ its : List Value, Vals xs its /\ PlainL s.heap a its.toArray /\ xs.length <= sizeLine := by
  rcases h with h | ⟨o, its, n, hk, hc, hd, hs, hz, r⟩
  . obtain ⟨z, its, n, r, e⟩ := h.ok I.hok
    exact ⟨its, r, ⟨_, n, e, rfl, rfl, rfl⟩, z⟩
  . refine ⟨its.toList, r, ⟨o, n, I.kIn a o hk, hc, hd, by simpa using hs⟩, ?_⟩
    have e := r.length;simp only [ZZ] at e;omega
theorem Inv.tuple (I : Inv X pins σ H s) (h : SqT X.K H a xs) : ∃ its : List Value, Vals xs its /\ IsTup s.heap a its.toArray /\ xs.length <= sizeLine := by
  rcases h with h | ⟨o, its, n, hk, hc, hs, hz, r⟩
  . obtain ⟨z, its, r, p⟩ := h.ok I.hok
    exact ⟨its, r, p.tup, z⟩
  . refine ⟨its.toList, r, ⟨o, I.kIn a o hk, hc, n, by simpa using hs⟩, ?_⟩
    have e := r.length;simp only [ZZ] at e;omega
theorem Inv.list_inj (I : Inv X pins σ H s) (h : SqL X.K H a xs) (h' : SqL X.K H a ys) : xs = ys := by
  obtain ⟨its, r, ⟨o, n, e, _, _, d⟩, _⟩ := I.list h;obtain ⟨its', r', ⟨o', n', e', _, _, d'⟩, _⟩ := I.list h';rw [e] at e'; cases e';rw [d] at d'
  injection d' with d1 _
  have : its = its' := by simpa using congrArg Array.toList d1
  subst this;exact r.inj r'
theorem Inv.tuple_inj (I : Inv X pins σ H s) (h : SqT X.K H a xs) (h' : SqT X.K H a ys) : xs = ys := by
  obtain ⟨its, r, ⟨o, e, _, n, d⟩, _⟩ := I.tuple h;obtain ⟨its', r', ⟨o', e', _, n', d'⟩, _⟩ := I.tuple h';rw [e] at e'; cases e';rw [d] at d'
  injection d' with d1 _
  have : its = its' := by simpa using congrArg Array.toList d1
  subst this;exact r.inj r'
end
abbrev Cx.wish (X : Cx) (E : Value -> Shared -> Prop) : Cx := { X with xe := E }
abbrev Cx.nox (X : Cx) : Cx := X.wish fun _ _ => False
theorem Cx.Ok.wish {X : Cx} (ok : X.Ok) (E : Value -> Shared -> Prop) : (X.wish E).Ok :=
  ⟨ok.mod, ok.kind, ok.glob, ok.blt, ok.above, ok.inj, ok.has, ok.cab, ok.hd, ok.frames, ok.stk, ok.exf, ok.bs, ok.bsz, ok.noex, ok.exfs, ok.funs, ok.frf⟩
theorem Cx.Ok.unwish {X : Cx} {E : Value -> Shared -> Prop} (ok : (X.wish E).Ok) : X.Ok :=
  ⟨ok.mod, ok.kind, ok.glob, ok.blt, ok.above, ok.inj, ok.has, ok.cab, ok.hd, ok.frames, ok.stk, ok.exf, ok.bs, ok.bsz, ok.noex, ok.exfs, ok.funs, ok.frf⟩
section
variable {X : Cx} {pins : List (Addr × Obj)} {σ : St} {H : Hp} {s : Shared} {E : Value -> Shared -> Prop}
theorem Inv.wish (I : Inv X pins σ H s) (E : Value -> Shared -> Prop) : Inv (X.wish E) pins σ H s := ⟨I.ok.wish E, I.os, I.bare, I.base, I.loc, I.cell, I.free, I.freeC, I.pin, I.hok, I.len⟩
theorem Inv.unwish (I : Inv (X.wish E) pins σ H s) : Inv X pins σ H s := ⟨I.ok.unwish, I.os, I.bare, I.base, I.loc, I.cell, I.free, I.freeC, I.pin, I.hok, I.len⟩
theorem SP.unwish {D : Ends} {f : Flow} {s' : Shared} (h : SP (X.wish E) pins D f s') : SP X pins D f s' := by
  cases f with
  | next => obtain ⟨σ', H', I, q⟩ := h; exact ⟨σ', H', I.unwish, q⟩
  | brk => obtain ⟨σ', H', I, q⟩ := h; exact ⟨σ', H', I.unwish, q⟩
  | cont => obtain ⟨σ', H', I, q⟩ := h; exact ⟨σ', H', I.unwish, q⟩
  | ret u => obtain ⟨v, σ', H', I, r, q⟩ := h; exact ⟨v, σ', H', I.unwish, r, q⟩
theorem PE.nox {e : Expr} {t : TE} (h : PE X.nox e t) : PE X e t := fun pins s σ H Q I hw =>
  wpAny_mono (h pins s σ H Q (I.wish _) hw) (fun _ _ ⟨v, H', I', r, q⟩ => ⟨v, H', I'.unwish, r, q⟩) fun _ _ z => False.elim z
theorem PT.nox {e : Expr} {t : TT} (h : PT X.nox e t) : PT X e t := fun pins s σ H Q I hw =>
  wpAny_mono (h pins s σ H Q (I.wish _) hw) (fun _ _ ⟨H', I', q⟩ => ⟨H', I'.unwish, q⟩) fun _ _ z => False.elim z
theorem PSs.nox {st : List Stmt} {t : TS} (h : PSs X.nox st t) : PSs X st t := fun pins s σ H D I hw =>
  wpAny_mono (h pins s σ H D (I.wish _) hw) (fun _ _ q => q.unwish) fun _ _ z => False.elim z
end
section
variable {X : Cx} {st : Stmt} {rest : List Stmt} {t u : TS} {e : Expr} {te : TE} {pos : Pos}
def tNext : TS := fun D σ H => D.nx σ H
def tSeq (t u : TS) : TS := fun D σ H => t { D with nx := u D } σ H
theorem z0 : PSs X [] tNext := fun _ _ σ H _ I h => wpAny_execs_nil ⟨σ, H, I, h⟩
theorem zj (h1 : PS X st t) (h2 : PSs X rest u) : PSs X (st :: rest) (tSeq t u) := by
  intro pins s σ H D I h;refine wpAny_execs_cons (thn (h1 pins s σ H { D with nx := u D } I h) fun f s1 q => ?_)
  cases f with
  | next =>
    obtain ⟨σ', H', I', q⟩ := q;exact h2 pins s1 σ' H' D I' q
  | ret v => exact q
  | brk => exact q
  | cont => exact q
theorem zc (h1 : PS X st t) : PSs X [st] t := by
  intro pins s σ H D I h;refine wpAny_execs_cons (thn (h1 pins s σ H D I h) fun f s1 q => ?_)
  cases f with
  | next => exact wpAny_execs_nil q
  | ret v => exact q
  | brk => exact q
  | cont => exact q
def tBreak : TS := fun D σ H => D.bk σ H
def tCont : TS := fun D σ H => D.ct σ H
theorem Inv.quiet {pins : List (Addr × Obj)} {σ : St} {H : Hp} {s : Shared} (I : Inv X pins σ H s) : interactive X.env = false := by simp [interactive, I.ok.kind]
def tDrop (te : TE) : TS := fun D σ H => te σ H fun _ H1 => D.nx σ H1
theorem wk (he : PE X e te) (hs : swapsWith e none pos.line X.env = pure false := by rfl) : PS X (.Expr e pos) (tDrop te) := by
  intro pins s σ H D I h;exact wpAny_Expr_any (thn (he pins s σ H _ I h) fun v s1 ⟨x, H1, I1, r1, q1⟩ => ⟨σ, H1, I1, q1⟩) I.quiet hs
def tRet (te : TE) : TS := fun D σ H => te σ H D.rt
theorem zl (he : PE X e te) : PS X (.Return (some e) pos) (tRet te) := by
  intro pins s σ H D I h;exact wpAny_Return_some (thn (he pins s σ H _ I h) fun v s1 ⟨x, H1, I1, r1, q1⟩ => ⟨x, σ, H1, I1, r1, q1⟩)
def tRetN : TS := fun D _ H => D.rt .non H
def tIfS (c : TT) (t u : TS) : TS := fun D σ H => c σ H fun b H1 => if b = true then t D σ H1 else u D σ H1
theorem yq {c : Expr} {a b : List Stmt} {tc : TT} (hc : PT X c tc) (ha : PSs X a t) (hb : PSs X b u) : PS X (.If c a b pos) (tIfS tc t u) := by
  intro pins s σ H D I h;refine wpAny_If (thn (hc pins s σ H _ I h) fun d s1 ⟨H1, I1, q1⟩ => ?_)
  cases d with
  | true => exact ha pins s1 σ H1 D I1 q1
  | false => exact hb pins s1 σ H1 D I1 q1
end
abbrev TG := V -> St -> Hp -> (St -> Hp -> Prop) -> Prop
abbrev TGs := List V -> St -> Hp -> (St -> Hp -> Prop) -> Prop
def PG (X : Cx) (target : Expr) (t : TG) : Prop :=
  ∀ (pins : List (Addr × Obj)) (s : Shared) (σ : St) (H : Hp) (v : V) (u : Value) (Q : St -> Hp -> Prop), Inv X pins σ H s -> RelV v u -> t v σ H Q ->
    wpAny (model X.prog X.w) X.A (assign target X.env u) (fun _ s' => ∃ σ' H', Inv X pins σ' H' s' /\ Q σ' H') X.xe s
def PGs (X : Cx) (ts : List Expr) (t : TGs) : Prop :=
  ∀ (pins : List (Addr × Obj)) (s : Shared) (σ : St) (H : Hp) (vs : List V) (us : List Value) (Q : St -> Hp -> Prop), Inv X pins σ H s -> Vals vs us -> t vs σ H Q ->
    wpAny (model X.prog X.w) X.A (assignInOrder ((assignEach ts X.env).map (·.2)) us) (fun _ s' => ∃ σ' H', Inv X pins σ' H' s' /\ Q σ' H') X.xe s
abbrev TSet := V -> V -> V -> Hp -> (Hp -> Prop) -> Prop
def PSet (X : Cx) (t : TSet) : Prop :=
  ∀ (pins : List (Addr × Obj)) (s : Shared) (σ : St) (H : Hp) (o i v : V) (ov iv u : Value) (Q : Hp -> Prop), Inv X pins σ H s -> RelV o ov -> RelV i iv -> RelV v u -> t o i v H Q ->
    wpAny (model X.prog X.w) X.A (setItem ov iv u) (fun _ s' => ∃ H', Inv X pins σ H' s' /\ Q H') X.xe s
abbrev TIp := V -> V -> Hp -> VK -> Prop
section
variable {X : Cx} {pos : Pos}
def ak (i : Nat) : TG := fun v σ H Q => Q (σ.set i (some v)) H
theorem zr {i : Nat} {x : Str} (hN : X.N.Nodup) (hi : X.N[i]? = some x) (hx : Loc X.env.scope x) (hf : X.fn x = true \/ X.env.scope.names.lookup x = some .local := by first | exact .inl rfl | exact .inr rfl | assumption) : PG X (.Name x pos) (ak i) := by
  intro pins s σ H v u Q I r h;exact wpAny_assign_Name (o9 I hN hi hx r (fun s' I' => ⟨_, H, I', h⟩) hf)
def gNil : TGs := fun vs σ H Q => vs = [] /\ Q σ H
def gCons (t : TG) (u : TGs) : TGs := fun vs σ H Q => ∃ v r, vs = v :: r /\ t v σ H fun σ' H' => u r σ' H' Q
theorem mr : PGs X [] gNil := by
  intro pins s σ H vs us Q I r h;obtain ⟨e, h⟩ := h;subst e;cases r;exact assignInOrder_nil ⟨σ, H, I, h⟩
theorem w9 {e : Expr} {es : List Expr} {t : TG} {u : TGs} (h1 : PG X e t) (h2 : PGs X es u)
    (hs : (assignEach (e :: es) X.env).map (·.2) = assign e X.env :: (assignEach es X.env).map (·.2) := by rfl) : PGs X (e :: es) (gCons t u) := by
  intro pins s σ H vs us Q I r h;obtain ⟨v, vr, e1, h⟩ := h;subst e1
  cases r with
  | cons r rr =>
    rw [hs];refine assignInOrder_cons (thn (h1 pins s σ H _ _ _ I r h) fun _ s1 ⟨σ1, H1, I1, q1⟩ => ?_);exact h2 pins s1 σ1 H1 _ _ Q I1 rr q1
def gTup (K : Fg) (n : Nat) (t : TGs) : TG := fun v σ H Q => ∃ a xs, v = .ref a /\ SqT K H a xs /\ xs.length = n /\ t xs σ H Q
theorem jb {es : List Expr} {k : Nat} {t : TGs} {n : Nat} (hc : X.calm = true) (h : PGs X es t)
    (hn : (assignEach es X.env).length = n := by rfl) (hst : (assignEach es X.env).findIdx? (·.1) = none := by rfl) : PG X (.Tuple es k pos) (gTup X.K n t) := by
  intro pins s σ H v u Q I r hw;obtain ⟨a, xs, e1, hq, hl, hw⟩ := hw;subst e1;cases r;obtain ⟨its, rv, ht, hz⟩ := I.tuple hq;refine assign_Tuple_tuple (I.ok.hd hc) ht (by simp [hn, <- hl, rv.length]) hst fun h' hx => ?_
  have I1 : Inv X pins σ H { s with heap := h' } := I.kept (t' := s.toks) fun b o e => hx b o (Zs (Heap.lt_size e)) e
  exact h pins _ σ H xs _ Q I1 (by simpa using rv) hw
def gSub (to ti : TE) (t : TSet) : TG := fun v σ H Q => to σ H fun o H1 => ti σ H1 fun i H2 => t o i v H2 fun H3 => Q σ H3
theorem pg_sub {o i : Expr} {to ti : TE} {t : TSet} (ho : PE X o to) (hi : PE X i ti) (hs : PSet X t)
    (ha : ∀ v, assign (.Subscript o i pos) X.env v = (do
      let ov <- holding [v] (eval o X.env)
      let iv <- holding [v, ov] (eval i X.env)
      standAt pos
      holding [v, ov, iv] (setItem ov iv v)
      release [v, ov, iv] []) := by intro _; rfl) : PG X (.Subscript o i pos) (gSub to ti t) := by
  intro pins s σ H v u Q I r h;rw [ha];refine wpAny_bind (wpAny_holding (thn (ho pins s σ H _ I h) fun ov s1 ⟨x, H1, I1, r1, q1⟩ => ?_));refine wpAny_bind (wpAny_holding (thn (hi pins s1 σ H1 _ I1 q1) fun iv s2 ⟨y, H2, I2, r2, q2⟩ => ?_));refine wpAny_bind (wpAny_standAt (wpAny_bind (wpAny_holding (thn (hs pins s2 σ H2 x y v ov iv u _ I2 r1 r2 r q2) fun _ s3 ⟨H3, I3, q3⟩ => ?_))));exact wpAny_release ⟨σ, H3, I3, q3⟩
def tAsg (te : TE) (g : TG) : TS := fun D σ H => te σ H fun x H1 => g x σ H1 D.nx
theorem ps_asg {tg e : Expr} {te : TE} {g : TG} (he : PE X e te) (hg : PG X tg g) (hs : swapsWithSole [tg] e pos.line X.env = pure false := by rfl) (hw : swappedStores [tg] e X.env = pure none := by rfl)
    (h1 : (assignEach [tg] X.env).map (·.2) = [assign tg X.env] := by rfl) : PS X (.Assign [tg] e pos) (tAsg te g) := by
  intro pins s σ H D I h;refine wpAny_Assign_stores (thn (he pins s σ H _ I h) fun v s1 ⟨x, H1, I1, r1, q1⟩ => ?_) hs hw;rw [h1];exact thn (hg pins s1 σ H1 x v _ I1 r1 q1) fun _ s2 q => q
theorem zw {i : Nat} {x : Str} {e : Expr} {te : TE} {pos' : Pos} (hN : X.N.Nodup) (hi : X.N[i]? = some x) (hx : Loc X.env.scope x) (he : PE X e te) (hs : swapsWith e (some (.Name x pos')) pos.line X.env = pure false := by rfl) (hf : X.fn x = true \/ X.env.scope.names.lookup x = some .local := by first | exact .inl rfl | exact .inr rfl | assumption) :
    PS X (.Assign [.Name x pos'] e pos) (tAsg te (ak i)) := by
  intro pins s σ H D I h;refine wpAny_Assign_Name (thn (he pins s σ H _ I h) fun v s1 ⟨y, H1, I1, r1, q1⟩ => ?_) hs;exact o9 I1 hN hi hx r1 (fun s2 I2 => ⟨_, H1, I2, q1⟩) hf
def tAugS (to ti te : TE) (tget : V -> V -> Hp -> VK -> Prop) (tip : TIp) (tset : TSet) : TS := fun D σ H => to σ H fun o H1 => ti σ H1 fun i H2 => tget o i H2 fun x H3 => te σ H3 fun y H4 => tip x y H4 fun z H5 => tset o i z H5 fun H6 => D.nx σ H6
def ipI (f : Int -> Int -> Int) : TIp := fun x y H Q => ∃ i j, x = .int i /\ y = .int j /\ Q (.int (f i j)) H
end
section
variable {X : Cx} {pos : Pos}
def tWhile (c : TT) (tb : TS) : TS := fun D σ H => ∃ W : Nat -> St -> Hp -> Prop, (∃ m, W m σ H) /\ ∀ m σ H, W m σ H ->
  c σ H fun b H1 => if b = true then ∃ N : St -> Hp -> Prop, (∀ σ' H', N σ' H' -> ∃ m', m' < m /\ W m' σ' H') /\ tb { D with nx := N, ct := N, bk := D.nx } σ H1 else D.nx σ H1
end
structure It where
  go : Nat -> Hp -> Prop
  yld : Nat -> Hp -> V -> Hp -> Prop
  stop : Nat -> Hp -> Prop
def FpOk (X : Cx) (pins : List (Addr × Obj)) (H : Hp) (b : Addr) : Prop :=
  H b = none /\ b ≠ X.env.locals /\ b ∉ X.fs /\ (b ∈ X.ex \/ X.s₀.heap.objs.size <= b) /\ (∀ x c, X.env.cells.lookup x = some c -> c ≠ b) /\ ∀ p ∈ X.pn ++ pins, p.1 ≠ b
theorem Inv.fpOk {X : Cx} {pins : List (Addr × Obj)} {σ : St} {H H' : Hp} {s : Shared} {b : Addr} (I : Inv X pins σ H s) (hb : s.heap.objs.size <= b) (hn : H' b = none) : FpOk X pins H' b := by
  refine ⟨hn, ZT (Zh I.lt hb), I.nofs hb, .inr (Zd I.sz hb), fun x c e z => ?_, fun p hp z => ?_⟩
  . obtain ⟨v, q⟩ := I.cell x c e
    exact absurd (Zh q.lt (by rw [z]; exact hb)) (ZJ _)
  . exact absurd (Zh (Heap.lt_size (I.pin p hp).1) (by rw [z]; exact hb)) (ZJ _)
structure Turn (P : Program) (w : World) (K : Fg) (tg : Expr) (J : It) (fp : List Addr) (it : Addr) (tn : Nat -> Heap -> Prop) : Prop where
  mem : it ∈ fp
  obj : ∀ i h, tn i h -> ∀ b ∈ fp, ∃ o, h.get? b = some o /\ ∀ v, o.data ≠ .cell v
  keep : ∀ i h h', tn i h -> (∀ b ∈ fp, ∀ o, h.get? b = some o -> h'.get? b = some o) -> tn i h'
  item : ∀ (X : Cx), X.prog = P -> X.w = w -> X.K = K -> X.calm = true -> ∀ (i : Nat) (pins : List (Addr × Obj)) (s : Shared) (σ : St) (H : Hp) (E : Value -> Shared -> Prop), Inv X pins σ H s -> (∀ b ∈ fp, FpOk X pins H b) -> tn i s.heap -> J.go i H ->
    wpAny (model P w) X.A (pyNext (.ref it)) (fun r s1 => ∃ u, r = some u /\
      wpAny (model P w) X.A (letOwnedTupleGo tg (.ref it) u) (fun _ s2 => ∃ x H', Inv X pins σ H' s2 /\ RelV x u /\ J.yld i H x H' /\ tn (i + 1) s2.heap /\ ∀ b ∈ fp, H' b = none) E s1) E s
  done : ∀ (X : Cx), X.prog = P -> X.w = w -> X.K = K -> X.calm = true -> ∀ (i : Nat) (pins : List (Addr × Obj)) (s : Shared) (σ : St) (H : Hp) (E : Value -> Shared -> Prop), Inv X pins σ H s -> (∀ b ∈ fp, FpOk X pins H b) -> tn i s.heap -> J.stop i H ->
    wpAny (model P w) X.A (pyNext (.ref it)) (fun r s1 => r = none /\ Inv X pins σ H s1) E s
  self : ∀ (A : Around) (i : Nat) (s : Shared) (Q : Value -> Shared -> Prop) (E : Value -> Shared -> Prop), tn i s.heap -> Q (.ref it) s -> wpAny (model P w) A (pyIter (.ref it)) Q E s
abbrev TI := St -> Hp -> (It -> Hp -> Prop) -> Prop
def PIE (X : Cx) (pins : List (Addr × Obj)) (σ : St) (tg : Expr) (R : It -> Hp -> Prop) (itv : Value) (s2 : Shared) : Prop :=
  ∃ (it : Addr) (fp : List Addr) (tn : Nat -> Heap -> Prop) (J : It) (H' : Hp), itv = .ref it /\ Inv X pins σ H' s2 /\ Turn X.prog X.w X.K tg J fp it tn /\ tn 0 s2.heap /\ (∀ b ∈ fp, FpOk X pins H' b) /\ R J H'
def PI (X : Cx) (tg iter : Expr) (wi : TI) : Prop :=
  ∀ (pins : List (Addr × Obj)) (s : Shared) (σ : St) (H : Hp) (R : It -> Hp -> Prop), Inv X pins σ H s -> wi σ H R ->
    wpAny (model X.prog X.w) X.A (eval iter X.env) (fun v s1 => wpAny (model X.prog X.w) X.A (pyIter v) (PIE X pins σ tg R) X.xe s1) X.xe s
theorem jg {M : Model} {A : Around} {E : Value -> Shared -> Prop} {s : Shared} {tg : Expr} {it : Addr} {u : Value} {o : Obj} {n : String} {vs : Array Value} {Q : Unit -> Shared -> Prop} (ho : s.heap.get? it = some o) (hc : o.cls = .type n) (hd : o.data = .fields vs)
    (hn : ["enumerate", "zip", "dict_itemiterator", "dict_reverseitemiterator", "odict_iterator", "itertools.zip_longest", "itertools.pairwise"].contains n = false) (hQ : Q () s) : wpAny M A (letOwnedTupleGo tg (.ref it) u) Q E s := by
  unfold letOwnedTupleGo
  cases tg <;> first
    | exact wpAny_pure hQ
    | (cases u <;> first
        | exact wpAny_pure hQ
        | (refine wpAny_bind (wpAny_load ho ?_)
           rw [hc, hd]
           show wpAny M A (if (["enumerate", "zip", "dict_itemiterator", "dict_reverseitemiterator", "odict_iterator", "itertools.zip_longest", "itertools.pairwise"].contains n && vs[0]? == some (rawInt _)) = true then _ else _) Q E s
           rw [if_neg (by intro h; rw [hn, Bool.false_and] at h; cases h)]
           exact wpAny_pure hQ))
def Itl (K : Fg) (a : Addr) : It :=
  ⟨fun i H => ∃ xs x, SqL K H a xs /\ xs[i]? = some x, fun i H x H' => H' = H /\ ∀ xs, SqL K H a xs -> xs[i]? = some x, fun i H => ∃ xs, SqL K H a xs /\ xs.length <= i⟩
def Itt (K : Fg) (a : Addr) : It :=
  ⟨fun i H => ∃ xs x, SqT K H a xs /\ xs[i]? = some x, fun i H x H' => H' = H /\ ∀ xs, SqT K H a xs -> xs[i]? = some x, fun i H => ∃ xs, SqT K H a xs /\ xs.length <= i⟩
def Itr (lo : Int) (n : Nat) : It := ⟨fun i _ => i < n, fun i H x H' => H' = H /\ x = .int (lo + i), fun i _ => n <= i⟩
theorem zba {P : Program} {w : World} {K : Fg} {tg : Expr} (a it : Addr) : Turn P w K tg (Itl K a) [it] it (fun i h => h.IsListIter it a i) where
  mem := by simp
  obj := fun i h st b hb => by
    have e : b = it := by simpa using hb
    subst e;obtain ⟨o, e, c, d⟩ := st;exact ⟨o, e, fun v z => by rw [d] at z; cases z⟩
  keep := fun i h h' st k => st.at fun o e => k it (by simp) o e
  item := by
    intro X hP hw hK hc i pins s σ H E I hf st hg;subst hP hw hK;obtain ⟨xs, x, hq, hx⟩ := hg;obtain ⟨its, rv, p, hz⟩ := I.list hq;obtain ⟨u, hu, ru⟩ := rv.get hx;obtain ⟨f0, f1, f2, f3, f4, f5⟩ := hf it (by simp);refine wpAny_pyNext_list_item st p.isList (x := u) (by simpa using hu) fun h' st' sb => ?_
    have I1 : Inv X pins σ H { s with heap := h' } := I.turned (t' := s.toks) (fun b o hb e => (sb.2 b hb).trans e) f0 f1 f3 f4 f5;obtain ⟨o, e, c, d⟩ := id st';exact ⟨u, rfl, jg (s := { s with heap := h' }) e c d (by decide) ⟨x, H, I1, ru, ⟨rfl, fun ys hy => by rw [I.list_inj hy hq]; exact hx⟩, st', fun b hb => (hf b hb).1⟩⟩
  done := by
    intro X hP hw hK hc i pins s σ H E I hf st hg;subst hP hw hK;obtain ⟨xs, hq, hx⟩ := hg;obtain ⟨its, rv, p, hz⟩ := I.list hq;obtain ⟨f0, f1, f2, f3, f4, f5⟩ := hf it (by simp);have hl := rv.length;exact wpAny_pyNext_list_end (I.ok.hd hc) st p.isList (by simp; omega) fun h' eb => ⟨rfl, I.turned (t' := s.toks) (fun b o hb e => eb b o hb e) f0 f1 f3 f4 f5⟩
  self := fun _ _ _ _ _ st h => wpAny_pyIter_listiter st h
theorem zai {P : Program} {w : World} {K : Fg} {tg : Expr} (a it : Addr) : Turn P w K tg (Itt K a) [it] it (fun i h => h.IsTupleIter it a i) where
  mem := by simp
  obj := fun i h st b hb => by
    have e : b = it := by simpa using hb
    subst e;obtain ⟨o, e, c, d⟩ := st;exact ⟨o, e, fun v z => by rw [d] at z; cases z⟩
  keep := fun i h h' st k => st.at fun o e => k it (by simp) o e
  item := by
    intro X hP hw hK hc i pins s σ H E I hf st hg;subst hP hw hK;obtain ⟨xs, x, hq, hx⟩ := hg;obtain ⟨its, rv, p, hz⟩ := I.tuple hq;obtain ⟨u, hu, ru⟩ := rv.get hx;obtain ⟨f0, f1, f2, f3, f4, f5⟩ := hf it (by simp);refine wpAny_pyNext_tuple_item st (show s.heap.IsTuple a its.toArray from p) (x := u) (by simpa using hu) fun h' st' sb => ?_
    have I1 : Inv X pins σ H { s with heap := h' } := I.turned (t' := s.toks) (fun b o hb e => (sb.2 b hb).trans e) f0 f1 f3 f4 f5;obtain ⟨o, e, c, d⟩ := id st';exact ⟨u, rfl, jg (s := { s with heap := h' }) e c d (by decide) ⟨x, H, I1, ru, ⟨rfl, fun ys hy => by rw [I.tuple_inj hy hq]; exact hx⟩, st', fun b hb => (hf b hb).1⟩⟩
  done := by
    intro X hP hw hK hc i pins s σ H E I hf st hg;subst hP hw hK;obtain ⟨xs, hq, hx⟩ := hg;obtain ⟨its, rv, p, hz⟩ := I.tuple hq;obtain ⟨f0, f1, f2, f3, f4, f5⟩ := hf it (by simp);have hl := rv.length;exact wpAny_pyNext_tuple_end (I.ok.hd hc) st (show s.heap.IsTuple a its.toArray from p) (by simp; omega) fun h' eb => ⟨rfl, I.turned (t' := s.toks) (fun b o hb e => eb b o hb e) f0 f1 f3 f4 f5⟩
  self := fun _ _ _ _ _ st h => wpAny_pyIter_tupleiter st h
theorem au {P : Program} {w : World} {K : Fg} {tg : Expr} (it : Addr) (lo : Int) (n : Nat) : Turn P w K tg (Itr lo n) [it] it (fun i h => IsRangeIter h it (lo + (i : Nat) * 1) ((n : Int) - (i : Nat)) 1) where
  mem := by simp
  obj := fun i h st b hb => by
    have e : b = it := by simpa using hb
    subst e
    exact ⟨_, st, fun v z => by
      have z' : Data.fields _ = Data.cell v := z
      cases z'⟩
  keep := fun i h h' st k => k it (by simp) _ st
  item := by
    intro X hP hw hK hc i pins s σ H E I hf st hg;subst hP hw hK;obtain ⟨f0, f1, f2, f3, f4, f5⟩ := hf it (by simp);have W := Walks.range (prog := X.prog) (w := X.w) (I.ok.hd hc) it lo 1 n;refine W.item i s _ _ hg st fun v h' tk hv st' kk => ?_
    obtain ⟨t, rfl⟩ := hv;have I1 : Inv X pins σ H { s with heap := h', toks := tk } := I.turned (fun b o hb e => kk b o (by simpa using hb) e) f0 f1 f3 f4 f5;refine ⟨_, rfl, jg (s := { s with heap := h', toks := tk }) (n := "range_iterator") st' rfl rfl (by decide) ⟨.int (lo + i), H, I1, ⟨t, ?_⟩, ⟨rfl, rfl⟩, st', fun b hb => (hf b hb).1⟩⟩;rw [Int.mul_one]
  done := by
    intro X hP hw hK hc i pins s σ H E I hf st hg;subst hP hw hK;obtain ⟨f0, f1, f2, f3, f4, f5⟩ := hf it (by simp);exact wpAny_pyNext_range_end (I.ok.hd hc) st (by have : n <= i := hg; omega) fun h' eb => ⟨rfl, I.turned (t' := s.toks) (fun b o hb e => eb b o hb e) f0 f1 f3 f4 f5⟩
  self := fun _ _ _ _ _ st h => wpAny_pyIter_rangeiter st h
end L2
namespace L2
open PySem PySem.Spec PyProof.Rows
section
variable {X : Cx} {tg : Expr}
def iList (K : Fg) (tl : TE) : TI := fun σ H R => tl σ H fun x H1 => ∃ a, x = .ref a /\ (∃ xs, SqL K H1 a xs) /\ R (Itl K a) H1
def iTup (K : Fg) (tl : TE) : TI := fun σ H R => tl σ H fun x H1 => ∃ a, x = .ref a /\ (∃ xs, SqT K H1 a xs) /\ R (Itt K a) H1
theorem yh {l : Expr} {tl : TE} (hl : PE X l tl) : PI X tg l (iList X.K tl) := by
  intro pins s σ H R I h;refine thn (hl pins s σ H _ I h) fun v s1 ⟨x, H1, I1, r1, q1⟩ => ?_
  obtain ⟨a, e, ⟨xs, hq⟩, q⟩ := q1;subst e;cases r1;obtain ⟨its, rv, p, hz⟩ := I1.list hq;refine wpAny_pyIter_list p.isList ?_;refine ⟨s1.heap.objs.size, [s1.heap.objs.size], _, _, H1, rfl, I1.kept (t' := s1.toks) fun b o e => Heap.get?_push_of_some _ e, zba a _, ⟨_, Heap.get?_push_size _ rfl, rfl, rfl⟩, fun b hb => ?_, q⟩;have e : b = s1.heap.objs.size := by simpa using hb
  subst e;exact I1.fpOk (Zm _) (I1.hok.fresh (Zm _))
theorem fv {l : Expr} {tl : TE} (hl : PE X l tl) : PI X tg l (iTup X.K tl) := by
  intro pins s σ H R I h;refine thn (hl pins s σ H _ I h) fun v s1 ⟨x, H1, I1, r1, q1⟩ => ?_
  obtain ⟨a, e, ⟨xs, hq⟩, q⟩ := q1;subst e;cases r1;obtain ⟨its, rv, p, hz⟩ := I1.tuple hq;refine wpAny_pyIter_tuple (show s1.heap.IsTuple a its.toArray from p) ?_;refine ⟨s1.heap.objs.size, [s1.heap.objs.size], _, _, H1, rfl, I1.kept (t' := s1.toks) fun b o e => Heap.get?_push_of_some _ e, zai a _, ⟨_, Heap.get?_push_size _ rfl, rfl, rfl⟩, fun b hb => ?_, q⟩;have e : b = s1.heap.objs.size := by simpa using hb
  subst e;exact I1.fpOk (Zm _) (I1.hok.fresh (Zm _))
theorem zco {pins : List (Addr × Obj)} {σ : St} {H : Hp} {s : Shared} {R : It -> Hp -> Prop} {E : Value -> Shared -> Prop} {lo hi : Int} {t u v : Tok} {tk : Nat} (I : Inv X pins σ H s) (h1 : -(2 ^ 62) <= lo) (h2 : lo < 2 ^ 62) (h3 : -(2 ^ 62) <= hi) (h4 : hi < 2 ^ 62)
    (q : R (Itr lo (hi - lo).toNat) H) : wpAny (model X.prog X.w) X.A (pyIter (.ref s.heap.objs.size)) (PIE X pins σ tg R) E { s with heap := s.heap.push { cls := .type "range", data := .fields #[.int lo t, .int hi u, .int 1 v] }, toks := tk } := by
  refine wpAny_pyIter_range (IsRange.new ..) (small_one h1 h2 h3 h4) ?_;have I1 : Inv X pins σ H { s with heap := s.heap.push { cls := .type "range", data := .fields #[.int lo t, .int hi u, .int 1 v] }, toks := tk } := I.kept fun b o e => Heap.get?_push_of_some _ e
  refine ⟨(s.heap.push { cls := .type "range", data := .fields #[.int lo t, .int hi u, .int 1 v] }).objs.size, [(s.heap.push { cls := .type "range", data := .fields #[.int lo t, .int hi u, .int 1 v] }).objs.size], _, _, H, rfl,
    I1.kept (t' := tk) fun b o e => Heap.get?_push_of_some _ e, au _ lo (hi - lo).toNat, ?_, fun b hb => ?_, q⟩
  . have e1 : lo + ((0 : Nat) : Int) * 1 = lo := by simp
    have e2 : (((hi - lo).toNat : Nat) : Int) - ((0 : Nat) : Int) = Builtin.Range.rangeSize lo hi 1 := by rw [rangeSize_one]; split <;> omega
    show IsRangeIter _ _ (lo + ((0 : Nat) : Int) * 1) ((((hi - lo).toNat : Nat) : Int) - ((0 : Nat) : Int)) 1
    rw [e1, e2];exact Heap.get?_push_size _ rfl
  . have e : b = (s.heap.push { cls := .type "range", data := .fields #[.int lo t, .int hi u, .int 1 v] }).objs.size := by simpa using hb
    subst e;exact I1.fpOk (Zm _) (I1.hok.fresh (Zm _))
def iRng1 (ta : TA) : TI := fun σ H R => ta σ H fun vs H1 => ∃ j : Int, vs = [.int j] /\ -(2 ^ 62) <= j /\ j < 2 ^ 62 /\ R (Itr 0 j.toNat) H1
def iRng2 (ta : TA) : TI := fun σ H R => ta σ H fun vs H1 => ∃ i j : Int, vs = [.int i, .int j] /\ (-(2 ^ 62) <= i /\ i < 2 ^ 62 /\ -(2 ^ 62) <= j /\ j < 2 ^ 62) /\ R (Itr i (j - i).toNat) H1
theorem wz {a : Expr} {ta : TA} {p pos : Pos} (hg : Gl X "range") (hm : X.mg "range" = none) (ha : PA X [a] ta) (hs : starEach [a] X.env = [(false, eval a X.env)] := by rfl) : PI X tg (.Call (.Name "range" p) [a] [] pos) (iRng1 ta) := by
  intro pins s σ H R I h;refine Call_ (ss I hg hm boot_range (PyProof.Rows.callWith_type1 (thn (ha pos pins s σ H _ I h) fun us s1 ⟨vs, H1, I1, r1, q1⟩ => ?_) hs rfl));obtain ⟨j, e, q1, q2, q⟩ := q1;subst e
  cases r1 with
  | cons r rr =>
    cases rr;obtain ⟨t, rfl⟩ := r;exact call_range_1 (zco I1 (by omega) (by omega) q1 q2 (by simpa using q))
def tFor (wi : TI) (g : TG) (tb : TS) : TS := fun D σ H => wi σ H fun J H1 => ∃ W : Nat -> Nat -> St -> Hp -> Prop, (∃ m, W 0 m σ H1) /\ ∀ i m σ H, W i m σ H ->
  (J.stop i H /\ D.nx σ H) \/ (J.go i H /\ ∃ N : St -> Hp -> Prop, (∀ σ' H', N σ' H' -> ∃ m', m' < m /\ W (i + 1) m' σ' H') /\ ∀ x H', J.yld i H x H' -> g x σ H' fun σ2 H2 => tb { D with nx := N, ct := N, bk := D.nx } σ2 H2)
def oh (fp : List Addr) (h : Heap) : List (Addr × Obj) := fp.filterMap fun b => (h.get? b).map fun o => (b, o)
theorem v0 {fp : List Addr} {h : Heap} {b : Addr} {o : Obj} (hb : b ∈ fp) (e : h.get? b = some o) : (b, o) ∈ oh fp h := ZO.mpr ⟨b, hb, by rw [e]; rfl⟩
theorem za2 {fp : List Addr} {h : Heap} {p : Addr × Obj} (hp : p ∈ oh fp h) : p.1 ∈ fp /\ h.get? p.1 = some p.2 := by
  obtain ⟨b, hb, e⟩ := ZO.mp hp
  cases q : h.get? b with
  | none => rw [q] at e; cases e
  | some o =>
    rw [q] at e;have e' : (b, o) = p := Option.some.inj e;subst e';exact ⟨hb, q⟩
theorem Inv.pinned {pins : List (Addr × Obj)} {σ : St} {H : Hp} {s : Shared} {fp : List Addr} (I : Inv X pins σ H s) (hf : ∀ b ∈ fp, FpOk X pins H b) (ho : ∀ b ∈ fp, ∃ o, s.heap.get? b = some o /\ ∀ v, o.data ≠ .cell v) : Inv X (pins ++ oh fp s.heap) σ H s :=
  I.pins_of fun p hp => (ZH.mp hp).elim (fun z => I.pin p (Zu _ z)) fun z => by
    obtain ⟨hb, e⟩ := za2 z;obtain ⟨f0, f1, f2, _⟩ := hf p.1 hb;obtain ⟨o, e', d⟩ := ho p.1 hb;rw [e] at e'; cases e';exact ⟨e, f0, f1, f2, d⟩
theorem Inv.unpinned {pins pl : List (Addr × Obj)} {σ : St} {H : Hp} {s : Shared} (I : Inv X (pins ++ pl) σ H s) : Inv X pins σ H s := I.pins_of fun p hp => I.pin p (Zu _ (ZX _ hp))
theorem vc {iter : Expr} {body : List Stmt} {wi : TI} {g : TG} {tb : TS} {pos : Pos} (hp : PassesOwn (model X.prog X.w) X.A X.env X.xe) (hc : X.calm = true) (hi : PI X tg iter wi) (hg : PG X tg g) (hb : PSs X body tb)
    (hs : ∀ x, foldedSetIterable iter X.env x = pure x := by intro _; rfl) : PS X (.For tg iter body [] pos) (tFor wi g tb) := by
  intro pins s σ H D I h;refine wpAny_For (thn (hi pins s σ H _ I h) fun v s1 h1 => thn h1 fun itv s2 h2 => ?_) hs;obtain ⟨it, fp, tn, J, H2, e, I2, T, st2, f2, W, ⟨m0, w0⟩, turn⟩ := h2;subst e
  -- what stays true of the iterator's objects through the loop
  have stat : ∀ {H' : Hp}, (∀ b ∈ fp, H' b = none) -> ∀ b ∈ fp, FpOk X pins H' b := fun hn b hb => ⟨hn b hb, (f2 b hb).2⟩
  refine codeAny_forLoop_any (fun n s' => ∃ i σ' H', Inv X pins σ' H' s' /\ tn i s'.heap /\ (∀ b ∈ fp, H' b = none) /\ W i n σ' H') ?_ m0 ⟨0, σ, H2, I2, st2, fun b hb => (f2 b hb).1, w0⟩
  rintro n s3 ⟨i, σ3, H3, I3, st3, fr3, w3⟩
  rcases turn i n σ3 H3 w3 with ⟨stop, qn⟩ | ⟨go, N, hN, step⟩
  . refine wpAny_passesOwn hp (thn (T.done X rfl rfl rfl hc i pins s3 σ3 H3 X.xe I3 (stat fr3) st3 stop) fun r s4 ⟨hr, I4⟩ => ?_)
    subst hr;exact wpAny_execs_nil ⟨σ3, H3, I4, qn⟩
  . refine wpAny_passesOwn hp (thn (T.item X rfl rfl rfl hc i pins s3 σ3 H3 X.xe I3 (stat fr3) st3 go) fun r s4 ⟨u, hr, h4⟩ => ?_)
    subst hr;refine wpAny_passesOwn hp (thn h4 fun _ s5 ⟨x, H5, I5, r5, y5, st5, fr5⟩ => ?_);have I5' := I5.pinned (stat fr5) (T.obj _ _ st5);refine wpAny_passesOwn hp (thn (hg _ s5 σ3 H5 x u _ I5' r5 (step x H5 y5)) fun _ s6 ⟨σ6, H6, I6, q6⟩ => ?_);refine wpAny_passesOwn hp (thn (hb _ s6 σ6 H6 _ I6 q6) fun f s7 q7 => ?_)
    have again : ∀ {σ7 : St} {H7 : Hp}, Inv X (pins ++ oh fp s5.heap) σ7 H7 s7 -> N σ7 H7 -> ∃ m, m < n /\ ∃ i σ' H', Inv X pins σ' H' s7 /\ tn i s7.heap /\ (∀ b ∈ fp, H' b = none) /\ W i m σ' H' := fun {σ7 H7} I7 n7 => by
      obtain ⟨m', hm, w7⟩ := hN σ7 H7 n7;refine ⟨m', hm, i + 1, σ7, H7, I7.unpinned, T.keep _ _ _ st5 fun b hb o e => (I7.pin (b, o) (Zu _ (Zu _ (v0 hb e)))).1, fun b hb => ?_, w7⟩;obtain ⟨o, e, d⟩ := T.obj _ _ st5 b hb;exact (I7.pin (b, o) (Zu _ (Zu _ (v0 hb e)))).2.1
    cases f with
    | next => obtain ⟨σ7, H7, I7, n7⟩ := q7; exact again I7 n7
    | cont => obtain ⟨σ7, H7, I7, n7⟩ := q7; exact again I7 n7
    | brk => obtain ⟨σ7, H7, I7, q7⟩ := q7; exact ⟨σ7, H7, I7.unpinned, q7⟩
    | ret v => obtain ⟨x7, σ7, H7, I7, r7, q7⟩ := q7; exact ⟨x7, σ7, H7, I7.unpinned, r7, q7⟩
end
theorem sd {K : Fg} {a : Addr} {xs : List V} {g : TG} {tb : TS} {D : Ends} {σ : St} {H : Hp} (Pv : Nat -> St -> Hp -> Prop) (h0 : Pv 0 σ H) (hl : ∀ i σ H, i <= xs.length -> Pv i σ H -> SqL K H a xs)
    (hs : ∀ i x σ H, xs[i]? = some x -> Pv i σ H -> g x σ H fun σ2 H2 => tb { D with nx := Pv (i + 1), ct := Pv (i + 1), bk := D.nx } σ2 H2) (hd : ∀ σ H, Pv xs.length σ H -> D.nx σ H) :
    ∃ W : Nat -> Nat -> St -> Hp -> Prop, (∃ m, W 0 m σ H) /\ ∀ i m σ H, W i m σ H ->
      ((Itl K a).stop i H /\ D.nx σ H) \/ ((Itl K a).go i H /\ ∃ N : St -> Hp -> Prop, (∀ σ' H', N σ' H' -> ∃ m', m' < m /\ W (i + 1) m' σ' H') /\ ∀ x H', (Itl K a).yld i H x H' -> g x σ H' fun σ2 H2 => tb { D with nx := N, ct := N, bk := D.nx } σ2 H2) := by
  refine ⟨fun i m σ H => m = xs.length - i /\ i <= xs.length /\ Pv i σ H, ⟨xs.length, by simp, ZE _, h0⟩, ?_⟩
  rintro i m σ H ⟨rfl, hi, p⟩
  have q := hl i σ H hi p
  by_cases hlt : i < xs.length
  . refine .inr ⟨⟨xs, xs[i], q, by simp [hlt]⟩, Pv (i + 1), fun σ' H' p' => ⟨xs.length - (i + 1), by omega, rfl, hlt, p'⟩, fun x H' y => ?_⟩
    obtain ⟨e, y⟩ := y;subst e;exact hs i x σ _ (y xs q) p
  . have e : i = xs.length := by omega
    subst e;exact .inl ⟨⟨xs, q, Zm _⟩, hd σ H p⟩
theorem ze7 {K : Fg} {a : Addr} {xs : List V} {g : TG} {tb : TS} {D : Ends} {σ : St} {H : Hp} (Pv : Nat -> St -> Hp -> Prop) (h0 : Pv 0 σ H) (hl : ∀ i σ H, i <= xs.length -> Pv i σ H -> SqT K H a xs)
    (hs : ∀ i x σ H, xs[i]? = some x -> Pv i σ H -> g x σ H fun σ2 H2 => tb { D with nx := Pv (i + 1), ct := Pv (i + 1), bk := D.nx } σ2 H2) (hd : ∀ σ H, Pv xs.length σ H -> D.nx σ H) :
    ∃ W : Nat -> Nat -> St -> Hp -> Prop, (∃ m, W 0 m σ H) /\ ∀ i m σ H, W i m σ H ->
      ((Itt K a).stop i H /\ D.nx σ H) \/ ((Itt K a).go i H /\ ∃ N : St -> Hp -> Prop, (∀ σ' H', N σ' H' -> ∃ m', m' < m /\ W (i + 1) m' σ' H') /\ ∀ x H', (Itt K a).yld i H x H' -> g x σ H' fun σ2 H2 => tb { D with nx := N, ct := N, bk := D.nx } σ2 H2) := by
  refine ⟨fun i m σ H => m = xs.length - i /\ i <= xs.length /\ Pv i σ H, ⟨xs.length, by simp, ZE _, h0⟩, ?_⟩
  rintro i m σ H ⟨rfl, hi, p⟩
  have q := hl i σ H hi p
  by_cases hlt : i < xs.length
  . refine .inr ⟨⟨xs, xs[i], q, by simp [hlt]⟩, Pv (i + 1), fun σ' H' p' => ⟨xs.length - (i + 1), by omega, rfl, hlt, p'⟩, fun x H' y => ?_⟩
    obtain ⟨e, y⟩ := y;subst e;exact hs i x σ _ (y xs q) p
  . have e : i = xs.length := by omega
    subst e;exact .inl ⟨⟨xs, q, Zm _⟩, hd σ H p⟩
theorem pc {lo : Int} {n : Nat} {g : TG} {tb : TS} {D : Ends} {σ : St} {H : Hp} (Pv : Nat -> St -> Hp -> Prop) (h0 : Pv 0 σ H)
    (hs : ∀ i σ H, i < n -> Pv i σ H -> g (.int (lo + i)) σ H fun σ2 H2 => tb { D with nx := Pv (i + 1), ct := Pv (i + 1), bk := D.nx } σ2 H2) (hd : ∀ σ H, Pv n σ H -> D.nx σ H) :
    ∃ W : Nat -> Nat -> St -> Hp -> Prop, (∃ m, W 0 m σ H) /\ ∀ i m σ H, W i m σ H ->
      ((Itr lo n).stop i H /\ D.nx σ H) \/ ((Itr lo n).go i H /\ ∃ N : St -> Hp -> Prop, (∀ σ' H', N σ' H' -> ∃ m', m' < m /\ W (i + 1) m' σ' H') /\ ∀ x H', (Itr lo n).yld i H x H' -> g x σ H' fun σ2 H2 => tb { D with nx := N, ct := N, bk := D.nx } σ2 H2) := by
  refine ⟨fun i m σ H => m = n - i /\ i <= n /\ Pv i σ H, ⟨n, by simp, ZE _, h0⟩, ?_⟩
  rintro i m σ H ⟨rfl, hi, p⟩
  by_cases hlt : i < n
  . refine .inr ⟨hlt, Pv (i + 1), fun σ' H' p' => ⟨n - (i + 1), by omega, rfl, hlt, p'⟩, fun x H' y => ?_⟩
    obtain ⟨e, y⟩ := y;subst e y;exact hs i σ _ hlt p
  . have e : i = n := by omega
    subst e;exact .inl ⟨Zm _, hd σ H p⟩
end L2
namespace L2
open PySem PySem.Spec PyProof.Rows
abbrev R2 := V -> V -> Hp -> VK -> Prop
def OpR (X : Cx) (f : Value -> Value -> Sem Value) (r : R2) : Prop :=
  ∀ (pins : List (Addr × Obj)) (s : Shared) (σ : St) (H : Hp) (x y : V) (v u : Value) (Q : VK), Inv X pins σ H s -> RelV x v -> RelV y u -> r x y H Q ->
    wpAny (model X.prog X.w) X.A (f v u) (EP X pins σ Q) X.xe s
def CallR (X : Cx) (f : Value) (r : List V -> Hp -> VK -> Prop) : Prop :=
  ∀ (pins : List (Addr × Obj)) (s : Shared) (σ : St) (H : Hp) (xs : List V) (us : List Value) (Q : VK), Inv X pins σ H s -> Vals xs us -> r xs H Q ->
    wpAny (model X.prog X.w) X.A (call f us) (EP X pins σ Q) X.xe s
def tOp (r : R2) (ta tb : TE) : TE := fun σ H Q => ta σ H fun x H1 => tb σ H1 fun y H2 => r x y H2 Q
def tUn (r : V -> Hp -> VK -> Prop) (ta : TE) : TE := fun σ H Q => ta σ H fun x H1 => r x H1 Q
def rI (C : Int -> Int -> Prop) (g : Int -> Int -> V) : R2 := fun x y H Q => ∃ i j, x = .int i /\ y = .int j /\ C i j /\ Q (g i j) H
def rI0 (g : Int -> Int -> V) : R2 := fun x y H Q => ∃ i j, x = .int i /\ y = .int j /\ Q (g i j) H
def rU (g : Int -> V) : V -> Hp -> VK -> Prop := fun x H Q => ∃ i, x = .int i /\ Q (g i) H
section
variable {X : Cx} {a b c : Expr} {ta tb tc : TE} {pos : Pos}
theorem binT (ha : PE X a ta) (hb : PE X b tb) {pins : List (Addr × Obj)} {s : Shared} {σ : St} {H : Hp} {R : V -> V -> Hp -> Prop} (I : Inv X pins σ H s)
    (h : ta σ H fun x H1 => tb σ H1 fun y H2 => R x y H2) {Q : Value -> Shared -> Prop} {f : Value -> Value -> Sem Value}
    (hf : ∀ v u s2 x y H2, Inv X pins σ H2 s2 -> RelV x v -> RelV y u -> R x y H2 -> wpAny (model X.prog X.w) X.A (f v u) Q X.xe s2) :
    wpAny (model X.prog X.w) X.A (eval a X.env) (fun v s₁ => wpAny (model X.prog X.w) X.A (eval b X.env) (fun u s₂ => wpAny (model X.prog X.w) X.A (f v u) Q X.xe s₂) X.xe s₁) X.xe s := by
  refine thn (ha pins s σ H _ I h) fun v s1 ⟨x, H1, I1, r1, q1⟩ => ?_
  refine thn (hb pins s1 σ H1 _ I1 q1) fun u s2 ⟨y, H2, I2, r2, q2⟩ => ?_
  exact hf v u s2 x y H2 I2 r1 r2 q2
theorem zm {op : Operator} {r : R2} (ho : OpR X (binaryOp op) r) (ha : PE X a ta) (hb : PE X b tb) : PE X (.BinOp a op b pos) (tOp r ta tb) := by
  intro pins s σ H Q I h;exact wpAny_BinOp (binT ha hb I h fun v u s2 x y H2 I2 rx ry q => ho pins s2 σ H2 x y v u Q I2 rx ry q)
theorem opI {f : Value -> Value -> Sem Value} {C : Int -> Int -> Prop} {g : Int -> Int -> Int}
    (rule : ∀ (i j : Int) (t u : Tok) (s : Shared) (Q : Value -> Shared -> Prop) (E : Value -> Shared -> Prop), C i j -> Q (.int (g i j) s.toks) { s with toks := s.toks + 1 } -> wpAny (model X.prog X.w) X.A (f (.int i t) (.int j u)) Q E s) :
    OpR X f (rI C fun i j => .int (g i j)) := by
  intro pins s σ H x y v u Q I rx ry h;obtain ⟨i, j, rfl, rfl, hc, q⟩ := h;obtain ⟨t, rfl⟩ := rx;obtain ⟨t', rfl⟩ := ry;exact rule i j t t' s _ _ hc ⟨.int (g i j), H, I.tok _, ⟨_, rfl⟩, q⟩
theorem opI0 {f : Value -> Value -> Sem Value} {g : Int -> Int -> Int}
    (rule : ∀ (i j : Int) (t u : Tok) (s : Shared) (Q : Value -> Shared -> Prop) (E : Value -> Shared -> Prop), Q (.int (g i j) s.toks) { s with toks := s.toks + 1 } -> wpAny (model X.prog X.w) X.A (f (.int i t) (.int j u)) Q E s) :
    OpR X f (rI0 fun i j => .int (g i j)) := by
  intro pins s σ H x y v u Q I rx ry h;obtain ⟨i, j, rfl, rfl, q⟩ := h;obtain ⟨t, rfl⟩ := rx;obtain ⟨t', rfl⟩ := ry;exact rule i j t t' s _ _ ⟨.int (g i j), H, I.tok _, ⟨_, rfl⟩, q⟩
theorem opB0 {f : Value -> Value -> Sem Value} {g : Int -> Int -> Bool}
    (rule : ∀ (i j : Int) (t u : Tok) (s : Shared) (Q : Value -> Shared -> Prop) (E : Value -> Shared -> Prop), Q (.bool (g i j)) s -> wpAny (model X.prog X.w) X.A (f (.int i t) (.int j u)) Q E s) :
    OpR X f (rI0 fun i j => .bl (g i j)) := by
  intro pins s σ H x y v u Q I rx ry h;obtain ⟨i, j, rfl, rfl, q⟩ := h;obtain ⟨t, rfl⟩ := rx;obtain ⟨t', rfl⟩ := ry;exact rule i j t t' s _ _ ⟨.bl (g i j), H, I, rfl, q⟩
def CDiv (i j : Int) : Prop := 0 < j /\ j < 1073741824
def CPow (i j : Int) : Prop := 0 <= j /\ j <= 1000000 /\ i.natAbs < 2 ^ 64
def CMul (i j : Int) : Prop := (-(2 ^ 64) < i /\ i < 2 ^ 64) \/ (-(2 ^ 64) < j /\ j < 2 ^ 64)
theorem CMul.ok {i j : Int} (h : CMul i j) : IntMulOk i j := by
  rcases h with ⟨h1, h2⟩ | ⟨h1, h2⟩
  . exact .of_left (intBits_le_64 h1 h2)
  . exact .of_right (intBits_le_64 h1 h2)
theorem we : OpR X (binaryOp .Add) (rI0 fun i j => .int (i + j)) := opI0 fun _ _ _ _ _ _ _ q => add_int q
theorem uy : OpR X (binaryOp .Sub) (rI0 fun i j => .int (i - j)) := opI0 fun _ _ _ _ _ _ _ q => sub_int q
theorem n0 : OpR X (binaryOp .Mult) (rI CMul fun i j => .int (i * j)) := opI fun _ _ _ _ _ _ _ hc q => mul_int q hc.ok
theorem xn : OpR X (binaryOp .FloorDiv) (rI CDiv fun i j => .int (i / j)) := opI fun i j _ _ _ _ _ hc q => by
  have h1 : (0 : Int) < j := hc.1;have h2 : j < 1073741824 := hc.2;exact floordiv_int (by omega) (by rw [Int.fdiv_eq_ediv_of_nonneg i (by omega)]; exact q) (.inl (PyProof.noPylong_small (by omega)))
theorem y7 : OpR X (binaryOp .Mod) (rI (fun _ j => 0 < j) fun i j => .int (i % j)) := opI fun i j _ _ _ _ _ hc q => by
  have h1 : (0 : Int) < j := hc;exact mod_int' (by omega) (by rw [Int.fmod_eq_emod_of_nonneg i (by omega)]; exact q)
theorem ug : OpR X (binaryOp .Pow) (rI CPow fun i j => .int (i ^ j.toNat)) := opI fun _ _ _ _ _ _ _ hc q => pow_int_small hc.1 hc.2.1 hc.2.2 q
end
def scal : V -> V -> Bool
  | .non, .non => true | .non, .int _ => true | .int _, .non => true | .non, .bl _ => true | .bl _, .non => true | .non, .str _ => true | .str _, .non => true
  | .int _, .int _ => true | .bl _, .bl _ => true | .str _, .str _ => true | .byt _, .byt _ => true
  | .int _, .str _ => true | .str _, .int _ => true | .bl _, .str _ => true | .str _, .bl _ => true
  | _, _ => false
def rEq : R2 := fun x y H Q => scal x y = true /\ Q (.bl (decide (x = y))) H
def rNe : R2 := fun x y H Q => scal x y = true /\ Q (.bl (!decide (x = y))) H
theorem b8 {i j : Int} : decide (V.int i = V.int j) = (i == j) := by
  rw [Bool.eq_iff_iff];simp
theorem zbc {i j : Bool} : decide (V.bl i = V.bl j) = (i == j) := by
  rw [Bool.eq_iff_iff];simp
theorem ae {i j : Str} : decide (V.str i = V.str j) = (i == j) := by
  rw [Bool.eq_iff_iff];simp
theorem ah {i j : Array UInt8} : decide (V.byt i = V.byt j) = (i.toList == j.toList) := by
  rw [Bool.eq_iff_iff];cases i;cases j;simp
section
variable {X : Cx} {a b c : Expr} {ta tb tc : TE} {pos : Pos}
theorem yc {pins : List (Addr × Obj)} {σ : St} {H : Hp} {s : Shared} {Q : VK} {k k' : Bool} (I : Inv X pins σ H s) (q : Q (.bl k) H) (e : k = k') : EP X pins σ Q (.bool k') s := by
  subst e;exact ⟨.bl k, H, I, rfl, q⟩
theorem ub : OpR X (compareOp .Eq) rEq := by
  intro pins s σ H x y v u Q I rx ry h;obtain ⟨hs, q⟩ := h
  cases x with
  | non =>
    cases rx
    cases y with
    | non => cases ry; exact PySem.EqNone.eq_none_none (yc I q (by simp))
    | bl j => cases ry; exact PySem.EqNone.eq_none_bool (yc I q (by simp))
    | int j => obtain ⟨t', rfl⟩ := ry; exact PySem.EqNone.eq_none_int (yc I q (by simp))
    | str j => obtain ⟨t', rfl⟩ := ry; exact PySem.EqNone.eq_none_str (yc I q (by simp))
    | _ => exact absurd (show false = true from hs) Bool.false_ne_true
  | bl i =>
    cases rx
    cases y with
    | non => cases ry; exact PySem.EqNone.eq_bool_none (yc I q (by simp))
    | bl j => cases ry; exact eq_bool (yc I q zbc)
    | str j => obtain ⟨t', rfl⟩ := ry; exact PySem.EqMixed.eq_bool_str (yc I q (by simp))
    | _ => exact absurd (show false = true from hs) Bool.false_ne_true
  | int i =>
    obtain ⟨t, rfl⟩ := rx
    cases y with
    | non => cases ry; exact PySem.EqNone.eq_int_none (yc I q (by simp))
    | int j => obtain ⟨t', rfl⟩ := ry; exact eq_int (yc I q b8)
    | str j => obtain ⟨t', rfl⟩ := ry; exact PySem.EqMixed.eq_int_str (yc I q (by simp))
    | _ => exact absurd (show false = true from hs) Bool.false_ne_true
  | str i =>
    obtain ⟨t, rfl⟩ := rx
    cases y with
    | non => cases ry; exact PySem.EqNone.eq_str_none (yc I q (by simp))
    | bl j => cases ry; exact PySem.EqMixed.eq_str_bool (yc I q (by simp))
    | int j => obtain ⟨t', rfl⟩ := ry; exact PySem.EqMixed.eq_str_int (yc I q (by simp))
    | str j => obtain ⟨t', rfl⟩ := ry; exact eq_str (yc I q ae)
    | _ => exact absurd (show false = true from hs) Bool.false_ne_true
  | byt i =>
    obtain ⟨t, rfl⟩ := rx
    cases y with
    | byt j => obtain ⟨t', rfl⟩ := ry; exact PySem.W.eq_bytes (yc I q ah)
    | _ => exact absurd (show false = true from hs) Bool.false_ne_true
  | _ => cases y <;> exact absurd (show false = true from hs) Bool.false_ne_true
theorem fe : OpR X (compareOp .NotEq) rNe := by
  intro pins s σ H x y v u Q I rx ry h;obtain ⟨hs, q⟩ := h
  cases x with
  | non =>
    cases rx
    cases y with
    | non => cases ry; exact PySem.EqNone.ne_none_none (yc I q (by simp))
    | bl j => cases ry; exact PySem.EqNone.ne_none_bool (yc I q (by simp))
    | int j => obtain ⟨t', rfl⟩ := ry; exact PySem.EqNone.ne_none_int (yc I q (by simp))
    | str j => obtain ⟨t', rfl⟩ := ry; exact PySem.EqNone.ne_none_str (yc I q (by simp))
    | _ => exact absurd (show false = true from hs) Bool.false_ne_true
  | bl i =>
    cases rx
    cases y with
    | non => cases ry; exact PySem.EqNone.ne_bool_none (yc I q (by simp))
    | bl j => cases ry; exact ne_bool (yc I q (congrArg not zbc))
    | str j => obtain ⟨t', rfl⟩ := ry; exact PySem.EqMixed.ne_bool_str (yc I q (by simp))
    | _ => exact absurd (show false = true from hs) Bool.false_ne_true
  | int i =>
    obtain ⟨t, rfl⟩ := rx
    cases y with
    | non => cases ry; exact PySem.EqNone.ne_int_none (yc I q (by simp))
    | int j => obtain ⟨t', rfl⟩ := ry; exact ne_int (yc I q (congrArg not b8))
    | str j => obtain ⟨t', rfl⟩ := ry; exact PySem.EqMixed.ne_int_str (yc I q (by simp))
    | _ => exact absurd (show false = true from hs) Bool.false_ne_true
  | str i =>
    obtain ⟨t, rfl⟩ := rx
    cases y with
    | non => cases ry; exact PySem.EqNone.ne_str_none (yc I q (by simp))
    | bl j => cases ry; exact PySem.EqMixed.ne_str_bool (yc I q (by simp))
    | int j => obtain ⟨t', rfl⟩ := ry; exact PySem.EqMixed.ne_str_int (yc I q (by simp))
    | str j => obtain ⟨t', rfl⟩ := ry; exact ne_str (yc I q (congrArg not ae))
    | _ => exact absurd (show false = true from hs) Bool.false_ne_true
  | byt i =>
    obtain ⟨t, rfl⟩ := rx
    cases y with
    | byt j => obtain ⟨t', rfl⟩ := ry; exact PySem.W.ne_bytes (yc I q (congrArg not ah))
    | _ => exact absurd (show false = true from hs) Bool.false_ne_true
  | _ => cases y <;> exact absurd (show false = true from hs) Bool.false_ne_true
theorem g8 : OpR X (compareOp .Lt) (rI0 fun i j => .bl (decide (i < j))) := opB0 fun _ _ _ _ _ _ _ q => lt_int q
theorem jz : OpR X (compareOp .LtE) (rI0 fun i j => .bl (decide (i <= j))) := opB0 fun _ _ _ _ _ _ _ q => le_int q
theorem op_gt : OpR X (compareOp .Gt) (rI0 fun i j => .bl (decide (j < i))) := opB0 fun _ _ _ _ _ _ _ q => gt_int q
theorem op_ge : OpR X (compareOp .GtE) (rI0 fun i j => .bl (decide (j <= i))) := opB0 fun _ _ _ _ _ _ _ q => ge_int q
theorem OpR.or {f : Value -> Value -> Sem Value} {r r' : R2} (h : OpR X f r) (h' : OpR X f r') : OpR X f (fun x y H Q => r x y H Q \/ r' x y H Q) := by
  intro pins s σ H x y v u Q I rx ry q
  rcases q with q | q
  . exact h pins s σ H x y v u Q I rx ry q
  . exact h' pins s σ H x y v u Q I rx ry q
theorem yk (b : Expr) {op : CmpOp} (h : op ≠ .In := by decide) (h2 : op ≠ .NotIn := by decide) : behindInMarks op b = false := by
  have e1 : (op == CmpOp.In) = false := by cases op <;> first | rfl | exact absurd rfl h
  have e2 : (op == CmpOp.NotIn) = false := by cases op <;> first | rfl | exact absurd rfl h2
  cases b <;> simp [behindInMarks, e1, e2]
theorem ql {op : CmpOp} {r : R2} (ho : OpR X (compareOp op) r) (ha : PE X a ta) (hb : PE X b tb) (hm : behindInMarks op b = false) : PE X (.Compare a [op] [b] pos) (tOp r ta tb) := by
  intro pins s σ H Q I h;exact wpAny_Compare1 (binT ha hb I h fun v u s2 x y H2 I2 rx ry q => ho pins s2 σ H2 x y v u Q I2 rx ry q) hm
def zah (t : TE) : TT := fun σ H Q => t σ H fun x H' => ∃ k, x = .bl k /\ Q k H'
theorem yv {op : CmpOp} {r : R2} (ho : OpR X (compareOp op) r) (ha : PE X a ta) (hb : PE X b tb) (hm : behindInMarks op b = false) : PT X (.Compare a [op] [b] pos) (zah (tOp r ta tb)) := by
  intro pins s σ H Q I h
  refine wpAny_isTrue_Compare1 (thn (ha pins s σ H _ I h) fun v s1 ⟨x, H1, I1, r1, q1⟩ => thn (hb pins s1 σ H1 _ I1 q1) fun u s2 ⟨y, H2, I2, r2, q2⟩ =>
    thn (ho pins s2 σ H2 x y v u _ I2 r1 r2 q2) fun c s3 ⟨z, H3, I3, r3, k, e, q3⟩ => ?_) hm
  subst e;cases r3;exact wpAny_truthy_bool ⟨H3, I3, q3⟩
def fj (r r' : R2) (ta tb tc : TE) : TE := fun σ H Q => ta σ H fun x H1 => tb σ H1 fun y H2 => r x y H2 fun z H3 => ∃ k, z = .bl k /\
  (if k = true then tc σ H3 fun w' H4 => r' y w' H4 Q else Q (.bl false) H3)
theorem zcw {op op' : CmpOp} {r r' : R2} (ho : OpR X (compareOp op) r) (ho' : OpR X (compareOp op') r') (ha : PE X a ta) (hb : PE X b tb) (hc : PE X c tc)
    (hm : lastMarks [op, op'] [b, c] = false := by with_unfolding_all rfl) : PE X (.Compare a [op, op'] [b, c] pos) (fj r r' ta tb tc) := by
  intro pins s σ H Q I h
  refine Compare_chain (thn (ha pins s σ H _ I h) fun v s1 ⟨x, H1, I1, r1, q1⟩ => chain_link (thn (hb pins s1 σ H1 _ I1 q1) fun u s2 ⟨y, H2, I2, r2, q2⟩ =>
    thn (ho pins s2 σ H2 x y v u _ I2 r1 r2 q2) fun d s3 ⟨z, H3, I3, r3, k, e, q3⟩ => ?_)) hm
  subst e;cases r3;refine wpAny_truthy_bool ?_
  cases k with
  | false => exact ite_ff ⟨.bl false, H3, I3, rfl, q3⟩
  | true => exact ite_tt (chain_last (thn (hc pins s3 σ H3 _ I3 q3) fun w' s4 ⟨z', H4, I4, r4, q4⟩ => ho' pins s4 σ H4 y z' u w' Q I4 r2 r4 q4))
theorem dh {op op' : CmpOp} {r r' : R2} (ho : OpR X (compareOp op) r) (ho' : OpR X (compareOp op') r') (ha : PE X a ta) (hb : PE X b tb) (hc : PE X c tc)
    (hm : lastMarks [op, op'] [b, c] = false := by with_unfolding_all rfl) : PT X (.Compare a [op, op'] [b, c] pos) (zah (fj r r' ta tb tc)) := by
  intro pins s σ H Q I h
  refine isTrue_chain (thn (ha pins s σ H _ I h) fun v s1 ⟨x, H1, I1, r1, q1⟩ => test_link (thn (hb pins s1 σ H1 _ I1 q1) fun u s2 ⟨y, H2, I2, r2, q2⟩ =>
    thn (ho pins s2 σ H2 x y v u _ I2 r1 r2 q2) fun d s3 ⟨z, H3, I3, r3, k, e, q3⟩ => ?_)) hm
  subst e;cases r3;refine wpAny_truthy_bool ?_
  cases k with
  | false =>
    obtain ⟨k', e', q'⟩ := q3;cases e';exact ite_ff ⟨H3, I3, q'⟩
  | true =>
    refine ite_tt (test_last (thn (hc pins s3 σ H3 _ I3 q3) fun w' s4 ⟨z', H4, I4, r4, q4⟩ => thn (ho' pins s4 σ H4 y z' u w' _ I4 r2 r4 q4) fun d' s5 ⟨z2, H5, I5, r5, k2, e2, q5⟩ => ?_));subst e2;cases r5;exact wpAny_truthy_bool ⟨H5, I5, q5⟩
theorem qx : (sizeLine : Nat) < 2 ^ 63 := by rw [sizeLine_eq]; decide
theorem ju : OpR X (binaryOp .Add) (fun x y H Q => ∃ i j, x = .str i /\ y = .str j /\ i.length + j.length <= sizeLine /\ Q (.str (i ++ j)) H) := by
  intro pins s σ H x y v u Q I rx ry h;obtain ⟨i, j, rfl, rfl, hz, q⟩ := h;obtain ⟨t, rfl⟩ := rx;obtain ⟨t', rfl⟩ := ry;exact add_str (fun t' tk => ⟨.str (i ++ j), H, I.tok _, ⟨_, rfl⟩, q⟩) hz
theorem pz {x : V} {us : List Value} (r : Vals [x] us) : ∃ u, us = [u] /\ RelV x u := by
  cases r with
  | cons r1 r2 => cases r2; exact ⟨_, rfl, r1⟩
theorem kg : CallR X (.builtin "abs") (fun xs H Q => ∃ i, xs = [.int i] /\ Q (.int (if i < 0 then -i else i)) H) := by
  intro pins s σ H xs us Q I r h;obtain ⟨i, rfl, q⟩ := h;obtain ⟨u, rfl, t, rfl⟩ := pz r;exact call_abs_int fun u tk => ⟨.int (if i < 0 then -i else i), H, I.tok _, ⟨_, rfl⟩, q⟩
end
end L2
namespace L2
open PySem PySem.Spec PyProof.Rows
structure ObjM (h : Heap) (x dx C : Addr) (mA : Str -> Option Value) : Prop where
  obj : h.get? x = some (PySem.W.instObj C dx)
  ns : h.Ns1 dx mA
  ne : dx ≠ x
theorem zb6 {h : Heap} {dx : Addr} {mA : Str -> Option Value} (n : h.Ns1 dx mA) : ∃ od, h.get? dx = some od /\ ∀ name, PySem.W.lookIn name od = some (mA name) := by
  obtain ⟨o, es, ep, ho, hd, hk, _, hm⟩ := n;refine ⟨o, ho, fun name => ?_⟩;have e := hm name;unfold nsFind findBy at e;rw [<- Array.find?_toList] at e;unfold PySem.W.lookIn;rw [hd];dsimp only
  split
  . rename_i y q
    rw [q] at e;exact congrArg some e
  . rename_i q
    rw [q] at e
    have a : es.toList.any (·.refKey) = false := by
      rw [List.any_eq_false];intro y hy;obtain ⟨z, t, hkey⟩ := hk y (Array.mem_toList_iff.mp hy);simp [DictEntry.refKey, hkey]
    have a' : ¬ es.toList.any (·.refKey) = true := by rw [a]; exact Bool.false_ne_true
    rw [if_neg a'];exact congrArg some e
theorem ObjM.look {h : Heap} {x dx C : Addr} {mA : Str -> Option Value} (I : ObjM h x dx C mA) : ∃ od, PySem.W.InstAt h x (PySem.W.instObj C dx) C (some od) /\ ∀ name, PySem.W.lookIn name od = some (mA name) :=
  let ⟨od, ho, hl⟩ := zb6 I.ns
  ⟨od, ⟨I.obj, rfl, rfl, ho⟩, hl⟩
section
variable {prog : Program} {w : World} {A : Around} {E : Value -> Shared -> Prop} {s : Shared} {K : Fg} {x dx C f : Addr} {mA : Str -> Option Value} {name : Str} {v : Value}
end
section
variable {P : Program} {w : World} {H H' : Hp} {h h' : Heap} {a C dx : Addr} {fs fs' : List (Str × V)}
theorem zd2 (hok : HOk P w H h) (e : H a = some (.ins C dx fs)) : ∃ mA, ObjM h a dx C mA /\ (∀ f, RelO (fs.lookup f) (mA f)) /\ PySem.Within mA (fs.map (·.1)) /\ fs.length <= 1000 /\ H dx = some (.own a) := by
  obtain ⟨d, z, ne, ob, mA, n, r, q⟩ := (show ObjOk P w H h a (.ins C dx fs) from hok a _ e);exact ⟨mA, ⟨ob, n, ne⟩, r, q, z, d⟩
end
structure Cls (K : Fg) (C : Addr) : Prop where
  pg : PySem.W.plainGet K C Str.empty = true
  hd : PySem.W.hasDictIn K C = true
  po : PySem.W.plainOver K C = true
  sa : PySem.W.findIn K (.ref C) "__setattr__" = some (some (.builtin "object.__setattr__"))
theorem Cls.get {K : Fg} {C : Addr} (c : Cls K C) (f : Str) : PySem.W.plainGet K C f = true := c.pg
section
variable {X : Cx} {pins : List (Addr × Obj)} {σ : St} {H : Hp} {s : Shared} {a C dx : Addr} {fs : List (Str × V)} {f : Str} {v : V} {A : Around} {E : Value -> Shared -> Prop}
theorem Inv.made (I : Inv X pins σ H s) : Inv X pins σ (upd (upd H s.heap.objs.size (.own (s.heap.objs.size + 1))) (s.heap.objs.size + 1) (.ins C s.heap.objs.size []))
    { s with heap := (s.heap.push PySem.W.emptyDict).push (PySem.W.instObj C s.heap.objs.size) } := by
  have e1 : (s.heap.push PySem.W.emptyDict).get? s.heap.objs.size = some PySem.W.emptyDict := Heap.get?_push_size s.heap rfl
  have e2 : ((s.heap.push PySem.W.emptyDict).push (PySem.W.instObj C s.heap.objs.size)).get? (s.heap.objs.size + 1) = some (PySem.W.instObj C s.heap.objs.size) := by
    have := Heap.get?_push_size (s.heap.push PySem.W.emptyDict) (o := PySem.W.instObj C s.heap.objs.size) rfl
    rwa [Heap.size_push] at this
  have e3 : (s.heap.push PySem.W.emptyDict).Ns s.heap.objs.size (fun _ => none) := ⟨PySem.W.emptyDict, #[], _, e1, rfl, (fun e he => absurd he (by simp)), fun _ => rfl⟩;have I1 := I.laid (a := s.heap.objs.size) (o := .own (s.heap.objs.size + 1)) (h' := s.heap.push PySem.W.emptyDict) (t' := s.toks) (fun b u q => Heap.get?_push_of_some _ q) (Zm _) ⟨_, e1⟩;refine I1.laid (a := s.heap.objs.size + 1) (o := .ins C s.heap.objs.size []) (t' := s.toks) (fun b u q => Heap.get?_push_of_some _ q) (YG (Heap.size_push _ _)) ?_;have ne : s.heap.objs.size ≠ s.heap.objs.size + 1 := Zs (Yp _);refine ⟨by rw [zp ne, zf], ZE _, ne, e2, fun _ => none, (Heap.Ns1.of_empty e3).at fun o q => Heap.get?_push_of_some _ q, fun _ => True.intro, fun y hy => absurd rfl hy⟩
end
section
variable {X : Cx} {o e value : Expr} {f : Str} {pos pos' tpos : Pos} {ta tv : TE}
end
section
variable {X : Cx} {pins : List (Addr × Obj)} {σ : St} {H : Hp} {s : Shared} {A : Around} {E : Value -> Shared -> Prop} {Q : Value -> Shared -> Prop} {c : Value} {b : Bool}
inductive TyOf (K : Fg) (H : Hp) : V -> Value -> Prop where
  | non : TyOf K H .non (.type "NoneType")
  | bl (x : Bool) : TyOf K H (.bl x) (.type "bool")
  | int (i : Int) : TyOf K H (.int i) (.type "int")
  | str (x : Str) : TyOf K H (.str x) (.type "str")
  | flt (x : UInt64) : TyOf K H (.flt x) (.type "float")
  | lst {a : Addr} {xs : List V} (e : H a = some (.lst xs)) : TyOf K H (.ref a) (.type "list")
  | frz {a : Addr} {o : Obj} {xs : List V} (e : H a = some (.frz o (.lst xs))) : TyOf K H (.ref a) (.type "list")
  | tup {a : Addr} {xs : List V} (e : H a = some (.tup xs)) : TyOf K H (.ref a) (.type "tuple")
  | dK {a : Addr} {kvs : List (Key × V)} (e : H a = some (.dK kvs)) : TyOf K H (.ref a) (.type "dict")
  | dT {a : Addr} {kvs : List (List Key × V)} (e : H a = some (.dT kvs)) : TyOf K H (.ref a) (.type "dict")
  | ins {a C dx : Addr} {fs : List (Str × V)} (e : H a = some (.ins C dx fs)) (cl : Cls K C) (ha : PySem.W.findIn K (.ref C) "__class__" = some (some (.builtin "object.__class__")))
      (hn : PySem.W.specialIn K (.builtin "object.__class__") "__get__" = some (some (.builtin "getset_descriptor.__get__"))) (htk : PySem.W.takesIn K (.builtin "object.__class__") = some true)
      (hm : PySem.W.mroIn K C (.type "object") = some true) : TyOf K H (.ref a) (.ref C)
theorem zay {x : V} {u t : Value} (I : Inv X pins σ H s) (rx : RelV x u) (ty : TyOf X.K H x t) (e : PySem.W.kitOne X.K t c = some b) (h : ∀ tk, Q (.bool b) { s with toks := tk }) :
    wpAny (model X.prog X.w) A (call (.builtin "isinstance") [u, c]) Q E s := by
  cases ty with
  | non => cases (show u = Value.none from rx); exact PySem.W.kia_one PySem.W.kitx_none I.kIn True.intro e (fun z => nomatch z) h
  | bl y => cases (show u = Value.bool y from rx); exact PySem.W.kia_one PySem.W.kitx_bool I.kIn True.intro e (fun z => nomatch z) h
  | int i => obtain ⟨t, q⟩ := (show ∃ t, u = Value.int i t from rx); cases q; exact PySem.W.kia_one PySem.W.kitx_int I.kIn True.intro e (fun z => nomatch z) h
  | str y => obtain ⟨t, q⟩ := (show ∃ t, u = Value.str y t from rx); cases q; exact PySem.W.kia_one PySem.W.kitx_str I.kIn True.intro e (fun z => nomatch z) h
  | flt y => obtain ⟨t, q⟩ := (show ∃ t, u = Value.float y t from rx); cases q; exact PySem.W.kia_one PySem.W.kitx_float I.kIn True.intro e (fun z => nomatch z) h
  | @lst a xs ea =>
    cases (show u = Value.ref a from rx);obtain ⟨_, _, n, _, h1⟩ := (show ObjOk X.prog X.w H s.heap a (.lst xs) from I.hok a _ ea);exact PySem.W.kia_one PySem.W.kitx_list I.kIn ⟨_, h1, rfl⟩ e (fun z => nomatch z) h
  | @frz a ob xs ea =>
    cases (show u = Value.ref a from rx);obtain ⟨_, _, _, n, _, h1⟩ := (show ObjOk X.prog X.w H s.heap a (.frz ob (.lst xs)) from I.hok a _ ea);exact PySem.W.kia_one PySem.W.kitx_list I.kIn ⟨_, h1, rfl⟩ e (fun z => nomatch z) h
  | @tup a xs ea =>
    cases (show u = Value.ref a from rx);obtain ⟨_, _, _, p⟩ := (show ObjOk X.prog X.w H s.heap a (.tup xs) from I.hok a _ ea);obtain ⟨o, h1, h2, _⟩ := p;exact PySem.W.kia_one PySem.W.kitx_tuple I.kIn ⟨o, h1, h2⟩ e (fun z => nomatch z) h
  | @dK a kvs ea =>
    cases (show u = Value.ref a from rx);obtain ⟨_, _, vs, _, p⟩ := (show ObjOk X.prog X.w H s.heap a (.dK kvs) from I.hok a _ ea);obtain ⟨o, es, ep, h1, h2, _⟩ := p;exact PySem.W.kia_one PySem.W.kitx_dict I.kIn ⟨o, h1, h2.1⟩ e (fun z => nomatch z) h
  | @dT a kvs ea =>
    cases (show u = Value.ref a from rx);obtain ⟨_, _, xs, _, o, es, ep, h1, h2, _⟩ := (show ObjOk X.prog X.w H s.heap a (.dT kvs) from I.hok a _ ea);exact PySem.W.kia_one PySem.W.kitx_dict I.kIn ⟨o, h1, h2.1⟩ e (fun z => nomatch z) h
  | @ins a C dx fs ea cl ha hn htk hm =>
    cases (show u = Value.ref a from rx);obtain ⟨mA, O, _⟩ := zd2 I.hok ea;obtain ⟨od, J, _⟩ := O.look;exact PySem.W.kia_one (PySem.W.kitx_own (cl.get _) cl.hd ha hn htk hm) I.kIn J e (fun z => nomatch z) h
end
end L2
namespace L2
open PySem PySem.Spec PyProof.Rows
structure Room (k : Nat) (A : Around) : Prop where
  hd : A.handled = none
  dp : A.depth + 3 * k + 5 < recursionLimit
  un : A.units + 16 * k + 200 < cLine
theorem Room.mono {j k : Nat} {A : Around} (r : Room k A) (h : j <= k) : Room j A := ⟨r.hd, by have := r.dp; omega, by have := r.un; omega⟩
theorem Room.deeper {k : Nat} {A : Around} (r : Room (k + 1) A) (env : Env) : Room k (A.deeper env) :=
  ⟨r.hd, by have := r.dp; show A.depth + 1 + 3 * k + 5 < _; omega, by have := r.un; show A.units + 3 + 16 * k + 200 < _; omega⟩
theorem Room.in1 {k : Nat} {A : Around} (r : Room (k + 1) A) : Room k A.in1 :=
  ⟨r.hd, by have := r.dp; show A.depth + 3 * k + 5 < _; omega, by have := r.un; show A.units + 1 + 16 * k + 200 < _; omega⟩
theorem Room.depth {k : Nat} {A : Around} (r : Room k A) : A.depth < recursionLimit := by have := r.dp; omega
theorem Room.units {k : Nat} {A : Around} (r : Room k A) : A.units + 64 < cLine := by have := r.un; omega
def tNil : TA := fun _ H Q => Q [] H
def tCons (ta : TE) (tr : TA) : TA := fun σ H Q => ta σ H fun x H1 => tr σ H1 fun xs H2 => Q (x :: xs) H2
section
variable {X : Cx} {e : Expr} {es : List Expr} {te : TE} {t : TA} {pos : Pos}
theorem zb : PA X [] tNil := fun _ _ _ _ H Q I h => Calls.spliced_nil ⟨[], H, I, .nil, h⟩
theorem za (ha : PE X e te) (hr : PA X es t) (hs : starEach (e :: es) X.env = (false, eval e X.env) :: starEach es X.env := by rfl) : PA X (e :: es) (tCons te t) := by
  intro pos pins s σ H Q I h;rw [hs]
  show wpAny _ _ (spliced ((false, eval e X.env) :: backTo pos (starEach es X.env))) _ _ s
  refine Calls.spliced_cons (thn (ha pins s σ H _ I h) fun u s1 ⟨x, H1, I1, r1, q1⟩ => ?_);exact thn (hr pos pins s1 σ H1 _ I1 q1) fun us s2 ⟨xs, H2, I2, r2, q2⟩ => ⟨x :: xs, H2, I2, .cons r1 r2, q2⟩
def tTup (t : TA) : TE := fun σ H Q => t σ H fun xs H1 => xs.length <= sizeLine /\ ∀ p, H1 p = none -> Q (.ref p) (upd H1 p (.tup xs))
def tLst (t : TA) : TE := fun σ H Q => t σ H fun xs H1 => xs.length <= sizeLine /\ ∀ p, H1 p = none -> Q (.ref p) (upd H1 p (.lst xs))
theorem xy {x1} (h : PA X es t) : PE X (.Tuple es x1 pos) (tTup t) := by
  intro pins s σ H Q I hq;refine wpAny_Tuple_spliced (thn (h pos pins s σ H _ I hq) fun us s1 ⟨xs, H1, I1, r, z, q⟩ => ⟨by rw [<- r.length]; exact z, ?_⟩);have hf : H1 s1.heap.objs.size = none := I1.hok.fresh (Zm _);refine ⟨.ref s1.heap.objs.size, upd H1 s1.heap.objs.size (.tup xs), I1.laid (t' := s1.toks) (fun b u e => Heap.get?_push_of_some _ e) (Zm _) ?_, rfl, q _ hf⟩;exact ⟨z, us, r, ⟨_, Heap.get?_push_size _ rfl, rfl, _, rfl, rfl⟩⟩
theorem u6 (h : PA X es t) : PE X (.List es pos) (tLst t) := by
  intro pins s σ H Q I hq;refine wpAny_List_spliced (thn (h pos pins s σ H _ I hq) fun us s1 ⟨xs, H1, I1, r, z, q⟩ => ⟨by rw [<- r.length]; exact z, ?_⟩);have hf : H1 s1.heap.objs.size = none := I1.hok.fresh (Zm _);refine ⟨.ref s1.heap.objs.size, upd H1 s1.heap.objs.size (.lst xs), I1.laid (t' := s1.toks) (fun b u e => Heap.get?_push_of_some _ e) (Zm _) ?_, rfl, q _ hf⟩;exact ⟨z, us, 0, r, Heap.get?_push_size _ rfl⟩
end
abbrev Sp := List V -> Hp -> VK -> XK -> Prop
abbrev CXT := List Env -> Hp -> Shared -> XK -> Value -> Shared -> Prop
structure Env0 (P : Program) (w : World) (K : Fg) (mg : Str -> Option Value) (base : Heap) (A : Around) (outer : List Env) (s : Shared) (H : Hp) : Prop where
  frames : A.frames = some outer
  mod : Mod K mg base
  bs : ∀ b o, base.get? b = some o -> s.heap.get? b = some o /\ H b = none
  bsz : base.objs.size <= s.heap.objs.size
  funs : s.heap.FunFrames base outer
  frf : ∀ b ∈ frs outer, H b = none
  hok : HOk P w H s.heap
  bare : AllBare s.gens
def CE (outer : List Env) (P : Program) (w : World) (H : Hp) (s : Shared) (Q : VK) (u : Value) (s' : Shared) : Prop :=
  ∃ v H', s'.os = s.os /\ AllBare s'.gens /\ Un (frs outer) [] H H' s.heap s'.heap /\ HOk P w H' s'.heap /\ RelV v u /\ Q v H'
def CR (CX : CXT) (outer : List Env) (P : Program) (w : World) (H : Hp) (s : Shared) (Q : VK) (E : XK) (r : Result) (s' : Shared) : Prop :=
  match r with
  | .ok (.ret u) => CE outer P w H s Q u s'
  | .ok _ => False
  | .error e => CX outer H s E e s'
structure FnOk (P : Program) (w : World) (K : Fg) (mg : Str -> Option Value) (base : Heap) (CX : CXT) (k : Nat) (f : Addr) (fd : FuncData) (ps : List Str) (sp : Sp) : Prop where
  len : ∀ vs H Q E, sp vs H Q E -> vs.length = ps.length
  run : ∀ (A : Around) (outer : List Env) (s : Shared) (H : Hp) (args : Args) (us : List Value) (vs : List V) (Q : VK) (E : XK), Room k A -> Env0 P w K mg base A outer s H -> BindsTo s fd args (ps.zip us) -> Vals vs us -> sp vs H Q E ->
    codeAny (model P w) A (.call (.ref f) args) (CR CX outer P w H s Q E) s
theorem FnOk.mono {P : Program} {w : World} {K : Fg} {mg : Str -> Option Value} {base : Heap} {CX : CXT} {j k : Nat} {f : Addr} {fd : FuncData} {ps : List Str} {sp : Sp} (F : FnOk P w K mg base CX j f fd ps sp) (h : j <= k) :
    FnOk P w K mg base CX k f fd ps sp := ⟨F.len, fun A outer s H args us vs Q E hr => F.run A outer s H args us vs Q E (hr.mono h)⟩
theorem FnOk.imp {P : Program} {w : World} {K : Fg} {mg : Str -> Option Value} {base : Heap} {CX : CXT} {k : Nat} {f : Addr} {fd : FuncData} {ps : List Str} {sp sp' : Sp} (F : FnOk P w K mg base CX k f fd ps sp)
    (h : ∀ vs H Q E, sp' vs H Q E -> sp vs H Q E) : FnOk P w K mg base CX k f fd ps sp' :=
  ⟨fun vs H Q E q => F.len vs H Q E (h _ _ _ _ q), fun A outer s H args us vs Q E hr he hb hv hs => F.run A outer s H args us vs Q E hr he hb hv (h _ _ _ _ hs)⟩
theorem Env0.in1 {P : Program} {w : World} {K : Fg} {mg : Str -> Option Value} {base : Heap} {A : Around} {outer : List Env} {s : Shared} {H : Hp} (e : Env0 P w K mg base A outer s H) :
    Env0 P w K mg base A.in1 outer s H := ⟨e.frames, e.mod, e.bs, e.bsz, e.funs, e.frf, e.hok, e.bare⟩
section
variable {X : Cx} {pins : List (Addr × Obj)} {σ : St} {H : Hp} {s s' : Shared}
theorem Inv.env0 (I : Inv X pins σ H s) : Env0 X.prog X.w X.K X.mg X.base X.A X.stack s H :=
  ⟨I.ok.frames, I.ok.mod, I.bs, Zd I.ok.bsz I.sz, I.stack, I.stkFree, I.hok, I.bare⟩
theorem Inv.after {Q : VK} {u : Value} (I : Inv X pins σ H s) (h : CE X.stack X.prog X.w H s Q u s') : EP X pins σ Q u s' := by
  obtain ⟨v, H', os, bare, un, hok, r, q⟩ := h;obtain ⟨hh, g, d, t, os'⟩ := s';obtain rfl : os' = s.os := os;exact ⟨v, H', I.call (h' := hh) (g' := g) (d' := d) (t' := t) (ch := []) un hok bare (fun b z => absurd z (by simp)), r, q⟩
end
def g9 (sp : Sp) (dvs : List V) (E : XK) (t : TA) : TE := fun σ H Q => t σ H fun vs H1 => sp (vs ++ dvs) H1 Q E
def Binds (K : Fg) (fd : FuncData) (ps : List Str) (ds : List Value) : Prop :=
  ∀ (s : Shared) (us : List Value), K.In s.heap -> (us ++ ds).length = ps.length -> BindsTo s fd ⟨us, []⟩ (ps.zip (us ++ ds))
theorem Binds.all {K : Fg} {fd : FuncData} {ps : List Str} (h : ∀ us : List Value, us.length = ps.length -> bindArgs fd ⟨us, []⟩ = pure (ps.zip us)) : Binds K fd ps [] := fun s us _ hl => by
  rw [ZU] at hl ⊢;exact .of_eq (h us hl)
def ml (CX : CXT) (X : Cx) (E : XK) : Prop := ∀ (pins : List (Addr × Obj)) (σ : St) (H : Hp) (s : Shared) (e : Value) (s' : Shared), Inv X pins σ H s -> CX X.stack H s E e s' -> X.xe e s'
section
variable {X : Cx} {CX : CXT} {k : Nat} {f C : Addr} {fd : FuncData} {ps : List Str} {sp : Sp} {dvs : List V} {ds : List Value} {E : XK} {x m : Str} {p pos apos : Pos} {e o : Expr} {es : List Expr} {ta : TE} {t : TA}
theorem run_fn {pins : List (Addr × Obj)} {σ : St} {H : Hp} {s : Shared} {Q : VK} {us : List Value} {vs : List V} (F : FnOk X.prog X.w X.K X.mg X.base CX k f fd ps sp) (hr : Room k X.A) (hb : Binds X.K fd ps ds) (hd : Vals dvs ds) (hx : ml CX X E)
    (I : Inv X pins σ H s) (r : Vals vs us) (h : sp (vs ++ dvs) H Q E) : wpAny (model X.prog X.w) X.A (call (.ref f) us) (EP X pins σ Q) X.xe s := by
  have r2 : Vals (vs ++ dvs) (us ++ ds) := r.append hd;have hl : (us ++ ds).length = ps.length := by rw [<- r2.length]; exact F.len _ _ _ _ h
  refine wpAny_call (codeAny_mono (F.run X.A X.stack s H ⟨us, []⟩ (us ++ ds) (vs ++ dvs) Q E hr I.env0 (hb s us I.kIn hl) r2 h) fun r s' hq => ?_)
  cases r with
  | error e => exact hx pins σ H s e s' I hq
  | ok fl =>
    cases fl with
    | ret u => exact I.after hq
    | next => exact False.elim hq
    | brk => exact False.elim hq
    | cont => exact False.elim hq
theorem af (F : FnOk X.prog X.w X.K X.mg X.base CX k f fd ps sp) (hr : Room k X.A) (hg : Gl X x) (hm : X.mg x = some (.ref f)) (hk : PySem.W.keepIn X.K (.ref f) = true) (hb : Binds X.K fd ps ds) (hd : Vals dvs ds) (hx : ml CX X E)
    (ha : PA X (e :: es) t) (hdb : (x == ("__debug__" : Str)) = false := by decide) (he : starEach (e :: es) X.env = (false, eval e X.env) :: starEach es X.env := by rfl) (hpl : (backTo pos (starEach es X.env)).any (·.1) = false := by rfl) :
    PE X (.Call (.Name x p) (e :: es) [] pos) (g9 sp dvs E t) := by
  intro pins s σ H Q I h;refine wpAny_Call_Name_kw (om I hg hm ?_ hdb);refine PySem.W.callWith_K (h₀ := X.base) I.ok.mod.kin hk (thn (ha pos pins s σ H _ I h) fun us s1 ⟨vs, H1, I1, r, q⟩ => ⟨I1.kIn, ?_⟩) he hpl;exact run_fn F hr hb hd hx I1 r q
end
section
variable {X : Cx} {CX : CXT} {k : Nat} {f C : Addr} {fd : FuncData} {ps ks : List Str} {sp : Sp} {E : XK} {x m : Str} {p pos apos kpos : Pos} {e o : Expr} {es : List Expr} {kws : List Keyword} {te ta : TE} {t tk : TA} {nm : Option Str}
variable {g : List Value -> List Value -> List Value} {gV : List V -> List V -> List V}
end
structure zq (N P : List Str) (sc : Scope) : Prop where
  kind : sc.kind = .function
  co : sc.isCoroutine = false
  gen : sc.isGenerator = false
  nd : N.Nodup
  pre : N.take P.length = P
  par : ∀ x ∈ P, sc.names.lookup x = some .local \/ sc.names.lookup x = some .cell
  nofree : ∀ y ∈ sc.names, y.2 ≠ .free
theorem i8 {kindOf : Str -> Option NameKind} {x : Str} : ∀ {binds : List (Str × Value)} {m : Str -> Option Value}, (∀ v, (x, v) ∉ binds) -> bindL kindOf binds m x = m x
  | [], _, _ => rfl
  | (n, v) :: r, m, h => by
    unfold bindL;rw [i8 fun w hw => h w (Zv _ hw)]
    split
    . have : x ≠ n := by rintro rfl; exact h v ZA
      simp [this]
    . rfl
theorem gg {kindOf : Str -> Option NameKind} {x : Str} : ∀ {binds : List (Str × Value)} {m : Str -> Option Value}, (∀ v, (x, v) ∉ binds) -> bindC kindOf binds m x = m x
  | [], _, _ => rfl
  | (n, v) :: r, m, h => by
    unfold bindC;rw [gg fun w hw => h w (Zv _ hw)]
    split
    . rfl
    . have : x ≠ n := by rintro rfl; exact h v ZA
      simp [this]
theorem i9 {kindOf : Str -> Option NameKind} {x : Str} {v : Value} : ∀ {P : List Str} {vs : List Value} {i : Nat} {m : Str -> Option Value}, P.Nodup -> P[i]? = some x -> vs[i]? = some v -> kindOf x = some .local ->
    bindL kindOf (P.zip vs) m x = some v
  | [], _, _, _, _, h, _, _ => by simp at h
  | _ :: _, [], _, _, _, _, h, _ => by simp at h
  | p :: P, w :: vs, 0, m, nd, h1, h2, hk => by
    simp at h1 h2; subst h1; subst h2
    show bindL kindOf ((p, w) :: P.zip vs) m p = _
    unfold bindL;rw [i8 fun v hv => (ZR.mp nd).1 (YK hv).1, if_pos hk];simp
  | p :: P, w :: vs, i + 1, m, nd, h1, h2, hk => by
    show bindL kindOf ((p, w) :: P.zip vs) m x = _
    unfold bindL;exact i9 (i := i) (ZR.mp nd).2 (by simpa using h1) (by simpa using h2) hk
theorem i5 {kindOf : Str -> Option NameKind} {x : Str} {v : Value} : ∀ {P : List Str} {vs : List Value} {i : Nat} {m : Str -> Option Value}, P.Nodup -> P[i]? = some x -> vs[i]? = some v -> kindOf x ≠ some .local ->
    bindC kindOf (P.zip vs) m x = some v
  | [], _, _, _, _, h, _, _ => by simp at h
  | _ :: _, [], _, _, _, _, h, _ => by simp at h
  | p :: P, w :: vs, 0, m, nd, h1, h2, hk => by
    simp at h1 h2; subst h1; subst h2
    show bindC kindOf ((p, w) :: P.zip vs) m p = _
    unfold bindC;rw [gg fun v hv => (ZR.mp nd).1 (YK hv).1, if_neg hk];simp
  | p :: P, w :: vs, i + 1, m, nd, h1, h2, hk => by
    show bindC kindOf ((p, w) :: P.zip vs) m x = _
    unfold bindC;exact i5 (i := i) (ZR.mp nd).2 (by simpa using h1) (by simpa using h2) hk
def start (N : List Str) (vs : List V) : St := vs.map some ++ List.replicate (N.length - vs.length) none
def cxOf (CX : CXT) (P : Program) (w : World) (K : Fg) (mg : Str -> Option Value) (base : Heap) (N : List Str) (qual : Str) (scope : Scope) (f : Addr) (cd : Value) (A : Around) (outer : List Env) (s : Shared) (H : Hp) (E : XK) : Cx where
  prog := P
  w := w
  K := K
  mg := mg
  base := base
  A := A.deeper (envOfC qual scope s.heap.objs.size f cd)
  N := N
  s₀ := s
  H₀ := H
  env := envOfC qual scope s.heap.objs.size f cd
  outer := outer
  stack := envOfC qual scope s.heap.objs.size f cd :: outer
  ex := []
  calm := true
  fn := fun _ => true
  pn := []
  xe := fun e s' => wpAny (model P w) (A.deeper (envOfC qual scope s.heap.objs.size f cd)) (leaving (envOfC qual scope s.heap.objs.size f cd) e) (fun _ s'' => CX outer H s E e s'') (fun e' s'' => CX outer H s E e' s'') s'
theorem fh {sc : Scope} {n : Nat} {x : Str} (h : sc.names.lookup x = some .cell) : ∃ c, (cellsFrom n sc.names []).lookup x = some c := by
  have q := PySem.W.cellsFrom_some sc.names n [] (.inl h);exact Option.isSome_iff_exists.mp q
theorem zb7 {CX : CXT} {P : Program} {w : World} {K : Fg} {mg : Str -> Option Value} {base : Heap} {N ps : List Str} {qual : Str} {scope : Scope} {f : Addr} {cd : Value} {A : Around} {outer : List Env} {s s1 : Shared} {H : Hp} {E : XK} {us : List Value} {vs : List V}
    (S : zq N ps scope) (hd : A.handled = none) (e0 : Env0 P w K mg base A outer s H) (hl : vs.length = ps.length) (r : Vals vs us)
    (x : InCallC s s.heap.objs.size (bindL (envOfC qual scope s.heap.objs.size f cd).kindOf (ps.zip us) fun _ => none) (cellsFrom (s.heap.objs.size + 1) scope.names []) (bindC (envOfC qual scope s.heap.objs.size f cd).kindOf (ps.zip us) fun _ => none) s1) :
    Inv (cxOf CX P w K mg base N qual scope f cd A outer s H E) [] (start N vs) H s1 := by
  have hpl : ps.length <= N.length := by have := congrArg List.length S.pre; rw [Zj] at this; omega
  obtain ⟨h1, tk, rfl, hk⟩ := x.done;have noA : ∀ b : Addr, b ∉ (cxOf CX P w K mg base N qual scope f cd A outer s H E).ex := fun b z => absurd (show b ∈ ([] : List Addr) from z) (by simp)
  refine ⟨⟨e0.mod, S.kind, rfl, rfl, Zm _, fun y z c h1 h2 => ?_, fun y hy => ?_, fun y c _ h => ?_, fun _ => hd, Around.frames_deeper e0.frames, .inr ⟨rfl, rfl⟩, fun b z => absurd z (noA b), e0.bs, e0.bsz, fun b _ _ => noA b, fun b z => absurd z (noA b), e0.funs, e0.frf⟩,
    rfl, e0.bare, Un.kept hk, ⟨_, x.toInCall.ns, fun i y v h1 h2 h3 => ?_⟩, fun y c h => ⟨_, x.cell y c h⟩, e0.hok.fresh (Zm _), fun y c h => ?_, fun p hp => absurd (show p ∈ ([] : List (Addr × Obj)) from hp) (by simp), e0.hok.kept hk, ?_⟩
  . exact name_of_addr x.apart (PySem.mem_of_lookup h1) (PySem.mem_of_lookup h2)
  . have hy : scope.names.lookup y = some .cell \/ scope.names.lookup y = some .free := hy
    rcases hy with hy | hy
    . exact fh hy
    . exact absurd rfl (S.nofree _ (PySem.mem_of_lookup hy))
  . exact YF (x.above y c (PySem.mem_of_lookup h))
  . have hi : i < vs.length := by
      unfold start at h2
      by_cases hi : i < vs.length
      . exact hi
      . rw [Zf (by simpa using hi)] at h2
        rw [Yb] at h2
        split at h2 <;> cases h2
    have ha : vs[i]? = some v := by
      unfold start at h2;rw [Zg (by simpa using hi), Ze] at h2
      cases e : vs[i]? with
      | none => rw [e] at h2; cases h2
      | some a => rw [e] at h2; cases h2; rfl
    obtain ⟨u, hu, rv⟩ := r.get ha
    have hp : ps[i]? = some y := by
      rw [<- S.pre, List.getElem?_take_of_lt (by omega)]; exact h1
    have ndP : ps.Nodup := by rw [<- S.pre]; exact S.nd.sublist (List.take_sublist _ _)
    refine ⟨u, rv, ?_⟩
    rcases S.par y (Zi hp) with k | k
    . exact .inl ⟨k, i9 ndP hp hu k⟩
    . obtain ⟨c, e⟩ := fh (n := s.heap.objs.size + 1) k
      refine .inr ⟨.inl k, c, e, ?_⟩;have q := x.cell y c e;rw [i5 ndP hp hu (by show scope.names.lookup y ≠ _; rw [k]; decide)] at q;exact q
  . exact e0.hok.fresh (YF (x.above y c (PySem.mem_of_lookup h)))
  . unfold start
    show _ = N.length
    rw [Zo, Za, ZI];omega
theorem fn_of {CX : CXT} {P : Program} {w : World} {K : Fg} {mg : Str -> Option Value} {base : Heap} {k : Nat} {f : Addr} {name qual : Str} {params : Arguments} {body : List Stmt} {scope : Scope} {dV kV doc pm cdv ct oc : Value} {an od : Option Addr}
    {osl : Array (Option Value)} {N ps : List Str} {sp : Sp} (lk : K.lookup f = some ⟨oc, od, .func (PySem.W.fnOf name qual params body scope dV kV doc pm an cdv ct), osl⟩) (hcd : PySem.W.codeIn K cdv qual = true) (S : zq N ps scope)
    (len : ∀ vs H Q E, sp vs H Q E -> vs.length = ps.length)
    (hbody : ∀ (A : Around) (outer : List Env) (s : Shared) (H : Hp) (vs : List V) (Q : VK) (E : XK), Room k (A.deeper (envOfC qual scope s.heap.objs.size f cdv)) -> sp vs H Q E ->
      ∃ t, PSs (cxOf CX P w K mg base N qual scope f cdv A outer s H E) body t /\ t { nx := fun _ H' => Q .non H', rt := Q } (start N vs) H) :
    FnOk P w K mg base CX (k + 1) f (PySem.W.fnOf name qual params body scope dV kV doc pm an cdv ct) ps sp := by
  refine ⟨len, fun A outer s H args us vs Q E hr e0 hb r hsp => ?_⟩;have hl := len _ _ _ _ hsp;have KX : K.In s.heap := e0.mod.kin.keeps fun b o e => (e0.bs b o e).1
  have lim : s.heap.NoLimit := e0.mod.nolimit.keeps fun b o e => (e0.bs b o e).1
  have hkind : ∀ y ∈ ps.zip us, scope.names.lookup y.1 = some .local \/ (scope.names.lookup y.1 = some .cell /\ ((cellsFrom (s.heap.objs.size + 1) scope.names []).lookup y.1).isSome = true) := fun ⟨n, v⟩ hy => by
    rcases S.par n (YK hy).1 with q | q
    . exact .inl q
    . exact .inr ⟨q, PySem.W.cellsFrom_some _ _ _ (.inl q)⟩
  refine codeAny_call_function hr.depth (KX _ _ lk) rfl S.co S.gen rfl (PySem.W.codeRec_of KX hcd) (hb _ _ _ _ ?_);refine wpAny_newFunctionEnv_cells S.kind hkind fun env he s1 x => ?_
  subst he;refine ⟨lim.keeps x.toInCall.keep, codeAny_func ?_⟩;obtain ⟨t, ht, hq⟩ := hbody A outer s H vs Q E (hr.deeper _) hsp;have I : Inv (cxOf CX P w K mg base N qual scope f cdv A outer s H E) [] (start N vs) H s1 := zb7 S hr.hd e0 hl r x;refine wpAny_mono (ht [] s1 (start N vs) H _ I hq) (fun fl s' hs => ?_) fun e s' hs => hs
  have fin : ∀ {σ' : St} {H' : Hp} {v : V} {u : Value}, Inv (cxOf CX P w K mg base N qual scope f cdv A outer s H E) [] σ' H' s' -> RelV v u -> Q v H' -> CE outer P w H s Q u s' :=
    fun {σ' H' v u} J rv q => ⟨v, H', J.os, J.bare, J.base, J.hok, rv, q⟩
  cases fl with
  | ret u =>
    obtain ⟨v, σ', H', J, rv, q⟩ := hs;exact fin J rv q
  | next =>
    obtain ⟨σ', H', J, q⟩ := hs;exact fin (v := V.non) (u := Value.none) J rfl q
  | brk =>
    obtain ⟨_, _, _, q⟩ := hs;exact False.elim q
  | cont =>
    obtain ⟨_, _, _, q⟩ := hs;exact False.elim q
end L2
namespace L2
open PySem PySem.Spec PyProof.Rows
section
variable {X : Cx} {x : Str} {p pos : Pos} {e : Expr} {es : List Expr} {t : TA} {id T : String} {r : List V -> Hp -> VK -> Prop}
def tCB (r : List V -> Hp -> VK -> Prop) (t : TA) : TE := fun σ H Q => t σ H fun vs H1 => r vs H1 Q
theorem zn (hc : CallR X (.builtin id) r) (hg : Gl X x) (hm : X.mg x = none) (hv : bootBuiltins x = some (.builtin id)) (ha : PA X (e :: es) t) (hn : x ≠ "__name__" := by decide) (hdb : (x == ("__debug__" : Str)) = false := by decide)
    (he : starEach (e :: es) X.env = (false, eval e X.env) :: starEach es X.env := by rfl) (hpl : (backTo pos (starEach es X.env)).any (·.1) = false := by rfl) : PE X (.Call (.Name x p) (e :: es) [] pos) (tCB r t) := by
  intro pins s σ H Q I h;refine wpAny_Call_Name_kw (ss I hg hm hv ?_ hn hdb);exact PyProof.Rows.callWith_builtin1 (thn (ha pos pins s σ H _ I h) fun us s1 ⟨vs, H1, I1, r1, q1⟩ => hc pins s1 σ H1 vs us Q I1 r1 q1) he hpl
theorem yj (hc : CallR X (.type T) r) (hg : Gl X x) (hm : X.mg x = none) (hv : bootBuiltins x = some (.type T)) (ha : PA X (e :: es) t) (hn : x ≠ "__name__" := by decide) (hdb : (x == ("__debug__" : Str)) = false := by decide)
    (he : starEach (e :: es) X.env = (false, eval e X.env) :: starEach es X.env := by rfl) (hpl : (backTo pos (starEach es X.env)).any (·.1) = false := by rfl) : PE X (.Call (.Name x p) (e :: es) [] pos) (tCB r t) := by
  intro pins s σ H Q I h;refine wpAny_Call_Name_kw (ss I hg hm hv ?_ hn hdb);exact PyProof.Rows.callWith_type1 (thn (ha pos pins s σ H _ I h) fun us s1 ⟨vs, H1, I1, r1, q1⟩ => hc pins s1 σ H1 vs us Q I1 r1 q1) he hpl
end
end L2
namespace HT
open PySem PyProof.Rows
section
open PySem.SeqAt
open PySem.AutoSeq1 (wpAny_loadPart')
open PySem.MeetsSeq PySem.MeetsSeq2 PySem.MeetsSeq3
end
section
variable {prog : Program} {w : World} {A : Around} {E : Value -> Shared -> Prop} {s : Shared}
theorem cat_tup {t b : Addr} {vs ws : List Value} {Q : Value -> Shared -> Prop} (ht : IsTup s.heap t vs.toArray) (hb : IsTup s.heap b ws.toArray) (hv : vs ≠ [])
    (h1 : ws = [] -> Q (.ref t) s) (h2 : ws ≠ [] -> Q (.ref s.heap.objs.size) { s with heap := s.heap.push { cls := .type "tuple", data := .seq (vs ++ ws).toArray } })
    (hsz : vs.length + ws.length <= sizeLine) : wpAny (model prog w) A (binaryOp .Add (.ref t) (.ref b)) Q E s := by
  obtain ⟨⟨cls, dd, data, sl⟩, ho, hc, n, hd⟩ := id ht;obtain ⟨⟨cls2, dd2, data2, sl2⟩, ho2, hc2, n2, hd2⟩ := id hb;simp only at hc hd hc2 hd2;subst hc hd hc2 hd2;have e : vs.toArray ++ ws.toArray = (vs ++ ws).toArray := by simp
  by_cases hw : ws = []
  . exact concat_meets ⟨_, ho, rfl⟩ ⟨_, ho2, rfl⟩ noFill_tuple_add seq_tuple_add PySem.F.slot_tuple_add PySem.F.entry_tuple_add (PySem.F.args_tuple_add_2 _ _)
      (tuple_addW1 t b vs.toArray ws.toArray n n2 dd dd2 sl sl2 (by simpa using hv) (by simp [hw])) ⟨ho, ho2, h1 hw⟩
  . refine concat_meets ⟨_, ho, rfl⟩ ⟨_, ho2, rfl⟩ noFill_tuple_add seq_tuple_add PySem.F.slot_tuple_add PySem.F.entry_tuple_add (PySem.F.args_tuple_add_2 _ _)
      (tuple_addW2 t b vs.toArray ws.toArray n n2 dd dd2 sl sl2 (by simpa using hv) (by simpa using hw) (by rw [Zr, Zr]; exact hsz)) ⟨ho, ho2, ?_⟩
    rw [e];exact h2 hw
def sIx (n d : Nat) : Option Int -> Nat
  | none => d
  | some v => if v < 0 then (v + (n : Int)).toNat else min v.toNat n
end
end HT
namespace L2
open PySem PySem.Spec PyProof.Rows
abbrev TO := St -> Hp -> (Option Int -> Hp -> Prop) -> Prop
def ze9 : TO := fun _ H Q => Q none H
def tPart (t : TE) : TO := fun σ H Q => t σ H fun x H1 => ∃ i, x = .int i /\ Q (some i) H1
theorem ao {ns : List Int} : ∀ {us : List Value}, Vals (ns.map V.int) us -> IntsAre us ns := by
  induction ns with
  | nil => intro us r; rw [Yt] at r; cases r; exact .nil
  | cons n ns ih =>
    intro us r;rw [ZM] at r
    cases r with
    | cons r1 r2 =>
      obtain ⟨t, e⟩ := r1;subst e;exact .cons n t (ih r2)
section
variable {X : Cx} {e : Expr} {te : TE} {lo hi : Option Expr} {tl th : TO} {pos p2 : Pos}
def SlR (X : Cx) (r : V -> Option Int -> Option Int -> Hp -> VK -> Prop) : Prop :=
  ∀ (pins : List (Addr × Obj)) (s : Shared) (σ : St) (H : Hp) (x : V) (v vl vu : Value) (lo hi : Option Int) (sl : Addr) (Q : VK), Inv X pins σ H s -> RelV x v -> s.heap.IsSliceOf sl vl vu .none -> IsPart vl lo -> IsPart vu hi -> r x lo hi H Q ->
    ∃ T id, typeLookup (.type T) "__getitem__" = pure (some (.builtin id)) /\ s.TypeIs v T /\ wpAny (model X.prog X.w) X.A (getItem v (.ref sl)) (EP X pins σ Q) X.xe s
theorem SlR.or {r r' : V -> Option Int -> Option Int -> Hp -> VK -> Prop} (h : SlR X r) (h' : SlR X r') : SlR X (fun x lo hi H Q => r x lo hi H Q \/ r' x lo hi H Q) := by
  intro pins s σ H x v vl vu lo hi sl Q I rx hs pl pu q
  rcases q with q | q
  . exact h pins s σ H x v vl vu lo hi sl Q I rx hs pl pu q
  . exact h' pins s σ H x v vl vu lo hi sl Q I rx hs pl pu q
def tSl (r : V -> Option Int -> Option Int -> Hp -> VK -> Prop) (te : TE) (tl th : TO) : TE := fun σ H Q => te σ H fun x H1 => tl σ H1 fun l H2 => th σ H2 fun u H3 => r x l u H3 Q
def cutV (xs : List V) (lo hi : Option Int) : List V := (xs.drop (HT.sIx xs.length 0 lo)).take (HT.sIx xs.length xs.length hi - HT.sIx xs.length 0 lo)
def rSlT (K : Fg) : V -> Option Int -> Option Int -> Hp -> VK -> Prop := fun x lo hi H Q => ∃ a xs, x = .ref a /\ SqT K H a xs /\
  ¬ (HT.sIx xs.length 0 lo = 0 /\ HT.sIx xs.length xs.length hi = xs.length) /\ ∀ p, H p = none -> Q (.ref p) (upd H p (.tup (cutV xs lo hi)))
def rCatT (K : Fg) : R2 := fun x y H Q => ∃ a b xs ys, x = .ref a /\ y = .ref b /\ SqT K H a xs /\ SqT K H b ys /\ xs ≠ [] /\ xs.length + ys.length <= sizeLine /\
  (ys = [] -> Q (.ref a) H) /\ (ys ≠ [] -> ∀ p, H p = none -> Q (.ref p) (upd H p (.tup (xs ++ ys))))
theorem Vals.nil_iff {xs : List V} {us : List Value} (r : Vals xs us) : us = [] ↔ xs = [] := by
  cases r with
  | nil => simp
  | cons _ _ => simp
theorem zeb : OpR X (binaryOp .Add) (rCatT X.K) := by
  intro pins s σ H x y v u Q I rx ry h;obtain ⟨a, b, xs, ys, rfl, rfl, ha, hb, hx, hz, q1, q2⟩ := h;cases rx;cases ry;obtain ⟨its, r1, p1, _⟩ := I.tuple ha;obtain ⟨its2, r2, p2, _⟩ := I.tuple hb;refine HT.cat_tup p1 p2 (fun z => hx (r1.nil_iff.mp z)) (fun z => ⟨.ref a, H, I, rfl, q1 (r2.nil_iff.mp z)⟩) (fun z => ?_) (by rw [<- r1.length, <- r2.length]; exact hz);refine ⟨.ref s.heap.objs.size, _, I.laid (t' := s.toks) (o := .tup (xs ++ ys)) (fun b ob q => Heap.get?_push_of_some _ q) (Zm _) ?_, rfl, q2 (fun w => z (r2.nil_iff.mpr w)) _ (I.hok.fresh (Zm _))⟩;exact ⟨by rw [Zo]; exact hz, _, r1.append r2, IsTupD.new _ _⟩
end
end L2
namespace L2
open PySem PySem.Spec PyProof.Rows
def ixN (n : Nat) (i : Int) : Option Nat := if 0 <= i then (if i < n then some i.toNat else none) else if -(n : Int) <= i then some (i + n).toNat else none
def atI {α : Type} (xs : List α) (i : Int) : Option α := (ixN xs.length i).bind fun j => xs[j]?
theorem br {n : Nat} {i : Int} {j : Nat} (h : ixN n i = some j) : seqIndex? i n = some j /\ j < n /\ -(n : Int) <= i /\ i < n := by
  unfold ixN at h
  by_cases h0 : 0 <= i
  . rw [if_pos h0] at h
    by_cases h1 : i < n
    . rw [if_pos h1] at h
      have e : i.toNat = j := Option.some.inj h;exact ⟨by rw [seqIndex_of h0 h1, e], by omega, by omega, h1⟩
    . rw [if_neg h1] at h; cases h
  . rw [if_neg h0] at h
    by_cases h1 : -(n : Int) <= i
    . rw [if_pos h1] at h
      have e : (i + n).toNat = j := Option.some.inj h;exact ⟨by rw [seqIndex_neg (by omega) h1, e], by omega, h1, by omega⟩
    . rw [if_neg h1] at h; cases h
theorem j8 {α : Type} {xs : List α} {i : Int} {v : α} (h : atI xs i = some v) : ∃ j, seqIndex? i xs.length = some j /\ xs[j]? = some v /\ j < xs.length /\ -(xs.length : Int) <= i /\ i < xs.length := by
  unfold atI at h
  cases e : ixN xs.length i with
  | none => rw [e] at h; cases h
  | some j =>
    rw [e] at h;obtain ⟨h1, h2, h3, h4⟩ := br e;exact ⟨j, h1, h, h2, h3, h4⟩
theorem yr {α : Type} {xs : List α} {j : Nat} {v : α} (h : xs[j]? = some v) : atI xs (j : Int) = some v := by
  have hj : j < xs.length := (Zc.mp h).1
  have e : ixN xs.length (j : Int) = some j := by
    unfold ixN;rw [if_pos (by omega), if_pos (by omega)]; simp
  unfold atI; rw [e]; exact h
def zek (b : Expr) : Prop := ∀ o i, subscripted b false o i = operate [o, i] (getItem o i)
def IxR (X : Cx) (r : R2) : Prop :=
  ∀ (value slice : Expr) (pins : List (Addr × Obj)) (s : Shared) (σ : St) (H : Hp) (x y : V) (v u : Value) (Q : VK), Inv X pins σ H s -> RelV x v -> RelV y u -> r x y H Q ->
    subscripted slice false v u = operate [v, u] (getItem v u) -> wpAny (model X.prog X.w) X.A (subscriptTail value slice v u) (EP X pins σ Q) X.xe s
def MtR (X : Cx) (id : String) (r : V -> List V -> Hp -> VK -> Prop) : Prop :=
  ∀ (pins : List (Addr × Obj)) (s : Shared) (σ : St) (H : Hp) (x : V) (xs : List V) (v : Value) (us : List Value) (Q : VK), Inv X pins σ H s -> RelV x v -> Vals xs us -> r x xs H Q ->
    wpAny (model X.prog X.w) X.A (call (.builtin id) (v :: us)) (EP X pins σ Q) X.xe s
section
variable {X : Cx} {a b : Expr} {ta tb : TE} {pos : Pos}
theorem IxR.or {r r' : R2} (h : IxR X r) (h' : IxR X r') : IxR X (fun x y H Q => r x y H Q \/ r' x y H Q) := by
  intro value slice pins s σ H x y v u Q I rx ry q hs
  rcases q with q | q
  . exact h value slice pins s σ H x y v u Q I rx ry q hs
  . exact h' value slice pins s σ H x y v u Q I rx ry q hs
theorem MtR.or {id : String} {r r' : V -> List V -> Hp -> VK -> Prop} (h : MtR X id r) (h' : MtR X id r') : MtR X id (fun x xs H Q => r x xs H Q \/ r' x xs H Q) := by
  intro pins s σ H x xs v us Q I rx rs q
  rcases q with q | q
  . exact h pins s σ H x xs v us Q I rx rs q
  . exact h' pins s σ H x xs v us Q I rx rs q
theorem xh {r : R2} (hr : IxR X r) (ha : PE X a ta) (hb : PE X b tb) (hs : zek b) : PE X (.Subscript a b pos) (tOp r ta tb) := by
  intro pins s σ H Q I h;exact Subscript_ (binT ha hb I h fun v u s2 x y H2 I2 rx ry q => hr a b pins s2 σ H2 x y v u Q I2 rx ry q (hs _ _))
def rIxL (K : Fg) : R2 := fun x y H Q => ∃ p xs i v, x = .ref p /\ y = .int i /\ SqL K H p xs /\ atI xs i = some v /\ Q v H
def rIxT (K : Fg) : R2 := fun x y H Q => ∃ p xs i v, x = .ref p /\ y = .int i /\ SqT K H p xs /\ atI xs i = some v /\ Q v H
def rIxS : R2 := fun x y H Q => ∃ z i c, x = .str z /\ y = .int i /\ z.length <= sizeLine /\ atI z.cps.toList i = some c /\ Q (.str ⟨#[c]⟩) H
theorem qk : IxR X (rIxL X.K) := by
  intro value slice pins s σ H x y v u Q I rx ry h hs;obtain ⟨p, xs, i, z, rfl, rfl, hq, he, q⟩ := h;cases rx;obtain ⟨t, rfl⟩ := ry;obtain ⟨its, r, pl, hz⟩ := I.list hq;obtain ⟨j, h1, h2, h3, h4, h5⟩ := j8 he;obtain ⟨w, ew, rw'⟩ := r.get h2;have hl := r.length;have hn := qx;have fin : EP X pins σ Q w s := ⟨z, H, I, rw', q⟩
  by_cases h0 : 0 <= i
  . have hj : i.toNat = j := by
      rw [seqIndex_of h0 h5] at h1;exact Option.some.inj h1
    exact item_listR pl.isList h0 (by omega) (by rw [hj]; simpa using ew) fin hs
  . have hj : (i + (its.toArray.size : Int)).toNat = j := by
      rw [seqIndex_neg (by omega) h4] at h1;rw [Zr, <- hl];exact Option.some.inj h1
    exact subscriptTail_builtinR (x := w) pl.isList.typeIs slot_list_getitem.lookup
      (wpAny_getItem_list_neg (Q := fun r s' => r = w /\ EP X pins σ Q r s') pl.isList (by omega) (by rw [Zr] <;> omega) (by omega) (by rw [hj]; simpa using ew) ⟨rfl, fin⟩) hs
theorem wa : IxR X (rIxT X.K) := by
  intro value slice pins s σ H x y v u Q I rx ry h hs;obtain ⟨p, xs, i, z, rfl, rfl, hq, he, q⟩ := h;cases rx;obtain ⟨t, rfl⟩ := ry;obtain ⟨its, r, pl, hz⟩ := I.tuple hq;obtain ⟨j, h1, h2, h3, h4, h5⟩ := j8 he;obtain ⟨w, ew, rw'⟩ := r.get h2;have hl := r.length;have hn := qx;have fin : EP X pins σ Q w s := ⟨z, H, I, rw', q⟩
  exact subscriptTail_builtinR (x := w) pl.typeIs slot_tuple_getitem.lookup
    (getItem_tuple (j := j) (Q := fun r s' => r = w /\ EP X pins σ Q r s') pl (by omega) (by omega) (by rw [Zr, <- hl]; exact h1) (by simpa using ew) ⟨rfl, fin⟩) hs
theorem eh : IxR X rIxS := by
  intro value slice pins s σ H x y v u Q I rx ry h hs;obtain ⟨z, i, c, rfl, rfl, hz, he, q⟩ := h;obtain ⟨t, rfl⟩ := rx;obtain ⟨t', rfl⟩ := ry;obtain ⟨j, h1, h2, h3, h4, h5⟩ := j8 he;have hl : z.cps.toList.length = z.length := by simp [Str.length]
  rw [hl] at h1 h4 h5;have hn := qx
  exact tail_any (typeIs_str s z t) slot_str_getitem.lookup (getItem_str (c := c) (by
    have e1 : decide (i < -(2 ^ 63 : Int)) = false := decide_eq_false (by omega);have e2 : decide (i ≥ 2 ^ 63) = false := decide_eq_false (by omega)
    rw [e1, e2, Bool.or_false]) (by rw [h1]; simpa using h2) ⟨.str ⟨#[c]⟩, H, I.tok _, ⟨_, rfl⟩, q⟩) hs
theorem al (its : List Value) (n j : Nat) (u : Value) : Obj.mapSeq (·.setIfInBounds j u) { cls := .type "list", data := .seq its.toArray n } = { cls := .type "list", data := .seq (its.set j u).toArray n } := by
  simp [Obj.mapSeq]
theorem Inv.lst {pins : List (Addr × Obj)} {σ : St} {H : Hp} {s : Shared} {p : Addr} {xs : List V} (I : Inv X pins σ H s) (h : H p = some (.lst xs)) :
    ∃ (its : List Value) (n : Nat), Vals xs its /\ s.heap.get? p = some { cls := .type "list", data := .seq its.toArray n } /\ xs.length <= sizeLine := by
  obtain ⟨z, its, n, r, e⟩ := I.hok p _ h;exact ⟨its, n, r, e, z⟩
theorem Inv.lstUpd {pins : List (Addr × Obj)} {σ : St} {H : Hp} {s : Shared} {p : Addr} {xs ys : List V} {its its' : List Value} {n n' : Nat} {f : Obj -> Obj} (I : Inv X pins σ H s) (h : H p = some (.lst xs))
    (ho : s.heap.get? p = some { cls := .type "list", data := .seq its.toArray n }) (hf : f { cls := .type "list", data := .seq its.toArray n } = { cls := .type "list", data := .seq its'.toArray n' }) (r : Vals ys its') (hz : ys.length <= sizeLine) (t : Nat) :
    Inv X pins σ (upd H p (.lst ys)) { s with heap := s.heap.update p f, toks := t } := by
  have e : (s.heap.update p f).get? p = some { cls := .type "list", data := .seq its'.toArray n' } := by
    rw [Heap.get?_update_self f ho (by rw [hf] <;> rfl), hf]
  refine I.write (x := p) (e := p) (by rw [h]; trivial) (.inl rfl) (fun b u hb q => (Heap.get?_update_other _ _ (Ne.symm hb)).trans q) ⟨_, e⟩ ?_;exact ⟨hz, its', n', r, e⟩
def rSetL : V -> V -> V -> Hp -> (Hp -> Prop) -> Prop := fun o i v H Q => ∃ p xs k j, o = .ref p /\ i = .int k /\ H p = some (.lst xs) /\ ixN xs.length k = some j /\ Q (upd H p (.lst (xs.set j v)))
theorem zdg : PSet X rSetL := by
  intro pins s σ H o i v ov iv u Q I ro ri rv h;obtain ⟨p, xs, k, j, rfl, rfl, hp, hj, q⟩ := h;cases ro;obtain ⟨t, rfl⟩ := ri;obtain ⟨its, n, r, ho, hz⟩ := I.lst hp;obtain ⟨h1, h2, h3, h4⟩ := br hj;have hl := r.length;have hn := qx
  have I' : Inv X pins σ (upd H p (.lst (xs.set j v))) { s with heap := s.heap.update p (Obj.mapSeq (·.setIfInBounds j u)) } :=
    I.lstUpd hp ho (al its n j u) (r.set rv j) (by rw [Yd]; exact hz) s.toks
  by_cases h0 : 0 <= k
  . have hk : k.toNat = j := by
      rw [seqIndex_of h0 h4] at h1;exact Option.some.inj h1
    exact PySem.W.ki_setAt ho h0 (by omega) (by rw [Zr, <- hl]; exact h4) (by rw [hk]; exact ⟨_, I', q⟩)
  . have hk : (k + (its.toArray.size : Int)).toNat = j := by
      rw [seqIndex_neg (by omega) h3] at h1;rw [Zr, <- hl];exact Option.some.inj h1
    exact PySem.W.ki_setBack ho (by omega) (by rw [Zr, <- hl]; exact h3) (by omega) (by rw [hk]; exact ⟨_, I', q⟩)
def rSlL (K : Fg) : V -> Option Int -> Option Int -> Hp -> VK -> Prop := fun x lo hi H Q => ∃ a xs, x = .ref a /\ SqL K H a xs /\ ∀ p, H p = none -> Q (.ref p) (upd H p (.lst (cutV xs lo hi)))
def yx : V -> Bool
  | .non => true
  | .bl _ => true
  | .int _ => true
  | .str _ => true
  | _ => false
def eqV : V -> V -> Bool
  | .non, .non => true
  | .bl a, .bl b => a == b
  | .bl a, .int b => (if a then 1 else 0) == b
  | .int a, .bl b => a == (if b then 1 else 0)
  | .int a, .int b => a == b
  | .str a, .str b => a == b
  | _, _ => false
theorem zbt {A : Around} {s : Shared} {y x : V} {u v : Value} (ry : RelV y u) (rx : RelV x v) (fy : yx y = true) (fx : yx x = true) : SeqAt.EqAt A s u v (eqV y x) := by
  cases y with
  | non =>
    cases ry
    cases x with
    | non => cases rx; exact SeqAt.EqAt.same _
    | bl b => cases rx; exact SeqAt.EqAt.none_bool b
    | int b => obtain ⟨t, rfl⟩ := rx; exact SeqAt.EqAt.none_int b t
    | str b => obtain ⟨t, rfl⟩ := rx; exact SeqAt.EqAt.none_str b t
    | _ => exact absurd (show false = true from fx) Bool.false_ne_true
  | bl a =>
    cases ry
    cases x with
    | non => cases rx; exact SeqAt.EqAt.bool_none a
    | bl b => cases rx; exact SeqAt.EqAt.bool_bool a b
    | int b => obtain ⟨t, rfl⟩ := rx; exact SeqAt.EqAt.bool_int a b t
    | str b => obtain ⟨t, rfl⟩ := rx; exact SeqAt.EqAt.bool_str a b t
    | _ => exact absurd (show false = true from fx) Bool.false_ne_true
  | int a =>
    obtain ⟨t', rfl⟩ := ry
    cases x with
    | non => cases rx; exact SeqAt.EqAt.int_none a t'
    | bl b => cases rx; exact SeqAt.EqAt.int_bool a t' b
    | int b => obtain ⟨t, rfl⟩ := rx; exact SeqAt.EqAt.int_int a t' b t
    | str b => obtain ⟨t, rfl⟩ := rx; exact SeqAt.EqAt.int_str a t' b t
    | _ => exact absurd (show false = true from fx) Bool.false_ne_true
  | str a =>
    obtain ⟨t', rfl⟩ := ry
    cases x with
    | non => cases rx; exact SeqAt.EqAt.str_none a t'
    | bl b => cases rx; exact SeqAt.EqAt.str_bool a t' b
    | int b => obtain ⟨t, rfl⟩ := rx; exact SeqAt.EqAt.str_int a t' b t
    | str b => obtain ⟨t, rfl⟩ := rx; exact SeqAt.EqAt.str_str a t' b t
    | _ => exact absurd (show false = true from fx) Bool.false_ne_true
  | _ => exact absurd (show false = true from fy) Bool.false_ne_true
def eqU (x : V) (u : Value) : Bool := match u with
  | .none => eqV .non x
  | .bool b => eqV (.bl b) x
  | .int i _ => eqV (.int i) x
  | .str z _ => eqV (.str z) x
  | _ => false
theorem zcg {x y : V} {u : Value} (r : RelV y u) (f : yx y = true) : eqU x u = eqV y x := by
  cases y with
  | non => cases r; rfl
  | bl b => cases r; rfl
  | int i => obtain ⟨t, rfl⟩ := r; rfl
  | str z => obtain ⟨t, rfl⟩ := r; rfl
  | _ => exact absurd (show false = true from f) Bool.false_ne_true
theorem k7 {A : Around} {s : Shared} {x : V} {v : Value} (rx : RelV x v) (fx : yx x = true) : ∀ {xs : List V} {us : List Value}, Vals xs us -> xs.all yx = true -> ∀ u ∈ us, SeqAt.EqAt A s u v (eqU x u)
  | _, _, .nil, _ => fun u hu => by cases hu
  | y :: xs, u :: us, .cons r t, f => fun u' hu => by
    rw [List.all_cons, Bool.and_eq_true] at f
    rcases ZK.mp hu with rfl | hu
    . rw [zcg r f.1]; exact zbt r rx f.1 fx
    . exact k7 rx fx t f.2 u' hu
def inV (x : V) (xs : List V) : Bool := xs.any fun y => eqV y x
def rIn (K : Fg) (neg : Bool) : R2 := fun x y H Q => ∃ p xs, y = .ref p /\ (SqL K H p xs \/ SqT K H p xs) /\ yx x = true /\ xs.all yx = true /\ Q (.bl (if neg then !inV x xs else inV x xs)) H
theorem zz : CallR X (.builtin "len") (fun xs H Q => ∃ p ys, xs = [.ref p] /\ (SqL X.K H p ys \/ SqT X.K H p ys) /\ Q (.int ys.length) H) := by
  intro pins s σ H xs us Q I r h;obtain ⟨p, ys, rfl, hq, q⟩ := h;obtain ⟨u, rfl, rx⟩ := pz r;cases rx;have hn := qx
  rcases hq with hq | hq
  . obtain ⟨its, r', pl, hz⟩ := I.list hq
    have hlen := r'.length;exact Calls.call_len_list pl.isList (by simp only [Zr] <;> omega) ⟨.int ys.length, H, I.tok _, ⟨s.toks + 1, by rw [Zr, hlen]⟩, q⟩
  . obtain ⟨its, r', pl, hz⟩ := I.tuple hq
    have hlen := r'.length;exact len_tuple pl (by simp only [Zr] <;> omega) ⟨.int ys.length, H, I.tok _, ⟨s.toks + 1, by rw [Zr, hlen]⟩, q⟩
theorem dv : CallR X (.builtin "len") (fun xs H Q => ∃ z, xs = [.str z] /\ z.length <= sizeLine /\ Q (.int z.length) H) := by
  intro pins s σ H xs us Q I r h;obtain ⟨z, rfl, hz, q⟩ := h;obtain ⟨u, rfl, t, rfl⟩ := pz r;have hn := qx;exact len_str (by omega) ⟨.int z.length, H, I.tok _, ⟨_, rfl⟩, q⟩
theorem CallR.or {f : Value} {r r' : List V -> Hp -> VK -> Prop} (h : CallR X f r) (h' : CallR X f r') : CallR X f (fun xs H Q => r xs H Q \/ r' xs H Q) := by
  intro pins s σ H xs us Q I rs q
  rcases q with q | q
  . exact h pins s σ H xs us Q I rs q
  . exact h' pins s σ H xs us Q I rs q
theorem tf : CallR X (.type "list") (fun xs H Q => ∃ p ys, xs = [.ref p] /\ (SqL X.K H p ys \/ SqT X.K H p ys) /\ ∀ l, H l = none -> Q (.ref l) (upd H l (.lst ys))) := by
  intro pins s σ H xs us Q I r h;obtain ⟨p, ys, rfl, hq, q⟩ := h;obtain ⟨u, rfl, rx⟩ := pz r;cases rx
  have fin : ∀ (its : List Value), Vals ys its -> ys.length <= sizeLine -> ∀ (h' : Heap) (c' : Nat), (∀ b o', s.heap.get? b = some o' -> h'.get? b = some o') ->
      h'.get? s.heap.objs.size = some { cls := .type "list", dict := none, data := .seq its.toArray c', slots := #[] } -> EP X pins σ Q (.ref s.heap.objs.size) { s with heap := h' } := fun its r' hz h' c' kp e =>
    ⟨.ref s.heap.objs.size, _, I.laid (t' := s.toks) kp (Zm _) (show ObjOk X.prog X.w _ h' _ (.lst ys) from ⟨hz, its, c', r', e⟩), rfl, q _ (I.hok.fresh (Zm _))⟩
  rcases hq with hq | hq
  . obtain ⟨its, r', pl, hz⟩ := I.list hq
    have hlen := r'.length;obtain ⟨o, ho, hc, n, hd⟩ := pl.isList;exact call_list_seq p (.inl rfl) ho hc hd (fun h' c' kp e => fin its r' hz h' c' kp e) (by simp only [Zr] <;> omega)
  . obtain ⟨its, r', pl, hz⟩ := I.tuple hq
    have hlen := r'.length;obtain ⟨o, ho, hc, n, hd⟩ := pl;exact call_list_seq p (.inr rfl) ho hc hd (fun h' c' kp e => fin its r' hz h' c' kp e) (by simp only [Zr] <;> omega)
theorem gm : CallR X (.type "tuple") (fun xs H Q => ∃ p ys, xs = [.ref p] /\ ((SqL X.K H p ys /\ ∀ l, H l = none -> Q (.ref l) (upd H l (.tup ys))) \/ (SqT X.K H p ys /\ Q (.ref p) H))) := by
  intro pins s σ H xs us Q I r h;obtain ⟨p, ys, rfl, h⟩ := h;obtain ⟨u, rfl, rx⟩ := pz r;cases rx
  rcases h with ⟨hq, q⟩ | ⟨hq, q⟩
  . obtain ⟨its, r', pl, hz⟩ := I.list hq
    have hlen := r'.length;refine call_tuple_list pl.isList (fun h' kp => ?_) (by simp only [Zr] <;> omega);have I1 : Inv X pins σ H { s with heap := h' } := I.kept (t' := s.toks) kp
    have I2 : Inv X pins σ (upd H h'.objs.size (.tup ys)) { s with heap := h'.push { cls := .type "tuple", data := .seq its.toArray } } :=
      I1.laid (t' := s.toks) (fun b o e => Heap.get?_push_of_some _ e) (Zm _) (show ObjOk X.prog X.w _ _ _ (.tup ys) from ⟨hz, its, r', IsTupD.new _ _⟩)
    exact ⟨.ref h'.objs.size, _, I2, rfl, q _ (I1.hok.fresh (Zm _))⟩
  . obtain ⟨its, r', pl, hz⟩ := I.tuple hq
    exact call_tuple_same pl ⟨.ref p, H, I, rfl, q⟩
def tyV (K : Fg) (T : String) (x : V) (H : Hp) : Prop := match x with
  | .str _ => T = "str"
  | .int _ => T = "int"
  | .ref p => (T = "list" /\ ∃ xs, SqL K H p xs) \/ (T = "tuple" /\ ∃ o, K.lookup p = some o /\ o.cls = .type "tuple" /\ o.dict = none) \/
      (T = "dict" /\ ((∃ kvs, H p = some (.dK kvs)) \/ ∃ kvs, H p = some (.dT kvs))) \/ (T = "set" /\ ∃ S n, H p = some (.set S n))
  | _ => False
theorem tyV_is {pins : List (Addr × Obj)} {σ : St} {H : Hp} {s : Shared} {T : String} {x : V} {v : Value} (I : Inv X pins σ H s) (r : RelV x v) (ty : tyV X.K T x H) :
    s.TypeIs v T /\ ∀ a, v = .ref a -> ∃ ob, s.heap.get? a = some ob /\ ob.dict = none := by
  cases x with
  | str z =>
    obtain ⟨t, rfl⟩ := r;cases (show T = "str" from ty);exact ⟨typeIs_str s z t, fun _ e => nomatch e⟩
  | int i =>
    obtain ⟨t, rfl⟩ := r;cases (show T = "int" from ty);exact ⟨typeIs_int s i t, fun _ e => nomatch e⟩
  | ref p =>
    cases r
    rcases ty with ⟨rfl, xs, hq⟩ | ⟨rfl, o, hk, hc, hd⟩ | ⟨rfl, hk⟩ | ⟨rfl, S, n, hk⟩
    . obtain ⟨its, _, pl, _⟩ := I.list hq
      refine ⟨pl.isList.typeIs, fun a e => ?_⟩;cases e;obtain ⟨o, n, e, c, hd, _⟩ := pl;exact ⟨o, e, hd⟩
    . refine ⟨⟨o, I.kIn p o hk, hc⟩, fun a e => ?_⟩
      cases e;exact ⟨o, I.kIn _ o hk, hd⟩
    . have z : ∃ o, s.heap.get? p = some o /\ o.ExactDict := by
        rcases hk with ⟨kvs, hk⟩ | ⟨kvs, hk⟩
        . obtain ⟨_, _, _, _, o, _, _, e, ex, _⟩ := I.hok p _ hk
          exact ⟨o, e, ex⟩
        . obtain ⟨_, _, _, _, o, _, _, e, ex, _⟩ := I.hok p _ hk
          exact ⟨o, e, ex⟩
      obtain ⟨o, e, ex⟩ := z;refine ⟨⟨o, e, ex.1⟩, fun a e2 => ?_⟩;cases e2;exact ⟨o, e, ex.2.1⟩
    . obtain ⟨o, _, _, _, e, ex, _⟩ := I.hok p _ hk
      refine ⟨⟨o, e, ex.1⟩, fun a e2 => ?_⟩;cases e2;exact ⟨o, e, ex.2.1⟩
  | _ => exact False.elim ty
def tBM0 (K : Fg) (T : String) (r : V -> List V -> Hp -> VK -> Prop) (to : TE) : TE := fun σ H Q => to σ H fun x H1 => tyV K T x H1 /\ r x [] H1 Q
def tBM (K : Fg) (T : String) (r : V -> List V -> Hp -> VK -> Prop) (to : TE) (t : TA) : TE := fun σ H Q => to σ H fun x H1 => tyV K T x H1 /\ t σ H1 fun xs H2 => r x xs H2 Q
variable {o e : Expr} {es : List Expr} {to : TE} {t : TA} {name : Str} {apos cpos : Pos} {T id : String} {r : V -> List V -> Hp -> VK -> Prop}
theorem pq (pa : PlainAttrs T) (slot : Slot T name id) (hty : typeOf (.builtin id) = pure (.type "method_descriptor")) (hm : MtR X id r) (ho : PE X o to) (ha : PA X (e :: es) t)
    (hbase : attributeBase o name X.env (eval o X.env) = eval o X.env := by rfl)
    (hfew : ((backTo cpos (starEach (e :: es) X.env)).all (fun x => !x.1) && (backToKw cpos (keywordEach [] X.env)).all (fun x => x.1.isSome)
      && decide ((e :: es).length + ([] : List Keyword).length + (if ([] : List Keyword).isEmpty then 0 else 1) < 30)) = true := by rfl)
    (hline : (apos.endLine == cpos.line) = true := by rfl) (hs : starEach (e :: es) X.env = (false, eval e X.env) :: starEach es X.env := by rfl) (hplain : (backTo cpos (starEach es X.env)).any (·.1) = false := by rfl) :
    PE X (.Call (.Attribute o name apos) (e :: es) [] cpos) (tBM X.K T r to t) := by
  intro pins s σ H Q I h;refine wpAny_Call_method_late hbase hfew hline rfl (thn (ho pins s σ H _ I h) fun v s1 ⟨x, H1, I1, r1, ty, q1⟩ => ?_);obtain ⟨h1, h2⟩ := tyV_is I1 r1 ty;refine ⟨T, id, pa, slot, hty, h1, h2, ?_⟩;have hA := ha cpos pins s1 σ H1 _ I1 q1;rw [hs] at hA ⊢;refine Calls.callWith_builtin (by show (false || (backTo cpos (starEach es X.env)).any (·.1)) = false; rw [hplain] <;> rfl) (Calls.evalArgs_plain ?_);exact thn hA fun us s2 ⟨vs, H2, I2, r2, q2⟩ => hm pins s2 σ H2 x vs v us Q I2 r1 r2 q2
end
end L2
namespace L2
open PySem PySem.Spec PyProof.Rows
def MtM (X : Cx) (id : String) (r : V -> List V -> Hp -> VK -> Prop) : Prop :=
  ∀ (pins : List (Addr × Obj)) (s : Shared) (σ : St) (H : Hp) (x : V) (xs : List V) (v : Value) (us : List Value) (Q : VK), Inv X pins σ H s -> RelV x v -> Vals xs us -> r x xs H Q ->
    wpAny (model X.prog X.w) X.A (call (.builtin id) (v :: us)) (EP X pins σ Q) X.xe s
theorem Vals.one : ∀ {x : V} {us : List Value}, Vals [x] us -> ∃ u, us = [u] /\ RelV x u
  | _, _, .cons r .nil => ⟨_, rfl, r⟩
theorem Vals.two : ∀ {x y : V} {us : List Value}, Vals [x, y] us -> ∃ u v, us = [u, v] /\ RelV x u /\ RelV y v
  | _, _, _, .cons r (.cons q .nil) => ⟨_, _, rfl, r, q⟩
theorem Vals.zero : ∀ {us : List Value}, Vals [] us -> us = []
  | _, .nil => rfl
theorem Vals.dropLast {xs : List V} {us : List Value} (h : Vals xs us) : Vals xs.dropLast us.dropLast := by
  induction h with
  | nil => exact .nil
  | cons r t ih =>
    cases t with
    | nil => exact .nil
    | cons q t' => exact .cons r ih
theorem Vals.eraseIdx : ∀ {xs : List V} {us : List Value} (i : Nat), Vals xs us -> Vals (xs.eraseIdx i) (us.eraseIdx i)
  | _, _, _, .nil => .nil
  | _, _, 0, .cons _ t => t
  | _, _, i + 1, .cons r t => .cons r (Vals.eraseIdx i t)
theorem Vals.reverse {xs : List V} {us : List Value} (h : Vals xs us) : Vals xs.reverse us.reverse := by
  induction h with
  | nil => exact .nil
  | cons r t ih => rw [List.reverse_cons, List.reverse_cons]; exact Vals.append ih (.cons r .nil)
theorem iu {α : Type} : ∀ (l : List α) (i : Nat), (l.eraseIdx i).length <= l.length
  | [], _ => Zm _
  | _ :: _, 0 => YA _
  | _ :: r, i + 1 => Yi (iu r i)
section
variable {X : Cx} {pins : List (Addr × Obj)} {σ : St} {H : Hp} {s : Shared} {l b : Addr} {xs ys zs : List V}
theorem Inv.lset {its its' : List Value} {n : Nat} {f : Array Value -> Array Value} {t' : Nat} (I : Inv X pins σ H s) (hH : H l = some (.lst xs))
    (e : s.heap.get? l = some { cls := .type "list", data := .seq its.toArray n }) (hf : f its.toArray = its'.toArray) (hv : Vals ys its') (hz : ys.length <= sizeLine) :
    Inv X pins σ (upd H l (.lst ys)) { s with heap := s.heap.update l (Obj.mapSeq f), toks := t' } := by
  have q := PySem.IsL.update e f;rw [hf] at q;refine I.write (x := l) (e := l) (by rw [hH]; exact trivial) (.inl rfl) (fun b' u hb hu => (Heap.get?_update_other s.heap (Obj.mapSeq f) (Ne.symm hb)).trans hu) ⟨_, q⟩ ?_;exact ⟨hz, its', _, hv, q⟩
theorem Inv.fresh (I : Inv X pins σ H s) : H s.heap.objs.size = none := I.hok.fresh (Zm _)
theorem Inv.lstM (I : Inv X pins σ H s) (hH : H l = some (.lst xs)) : xs.length <= sizeLine /\ ∃ (its : List Value) (n : Nat), Vals xs its /\ xs.length = its.length /\ s.heap.get? l = some { cls := .type "list", data := .seq its.toArray n } := by
  obtain ⟨z, its, n, r, e⟩ := I.hok l _ hH;exact ⟨z, its, n, r, r.length, e⟩
theorem zde {n : Nat} (h : n <= sizeLine) : Builtin.List.listTooLong n = false := by
  unfold Builtin.List.listTooLong;exact decide_eq_false (by omega)
end
section
variable {X : Cx}
def bu : V -> List V -> Hp -> VK -> Prop := fun x vs H Q => ∃ l xs y, x = .ref l /\ vs = [y] /\ H l = some (.lst xs) /\ xs.length < sizeLine /\ Q .non (upd H l (.lst (xs ++ [y])))
theorem rc : MtM X "list.append" bu := by
  intro pins s σ H x vs v us Q I rx rv h;obtain ⟨l, xs, y, rfl, rfl, hH, hz, q⟩ := h;cases rx;obtain ⟨u, rfl, ru⟩ := rv.one;obtain ⟨z, its, n, r, hl, e⟩ := I.lstM hH;refine call_meets F.slot_list_append ⟨_, e, rfl⟩ F.entry_list_append (F.args_list_append_2 _ _) (PySem.list_append l its.toArray n u (by rw [Zr]; omega)) ⟨e, ?_⟩;refine ⟨.non, _, I.lset (its' := its ++ [u]) hH e (by simp) (r.append (.cons ru .nil)) ?_, rfl, q⟩;rw [Zo, Yh];omega
def bw : V -> List V -> Hp -> VK -> Prop := fun x vs H Q => ∃ l b xs zs, x = .ref l /\ vs = [.ref b] /\ H l = some (.lst xs) /\ H b = some (.lst zs) /\ xs.length + zs.length <= sizeLine /\ Q .non (upd H l (.lst (xs ++ zs)))
theorem zb8 : MtM X "list.extend" bw := by
  intro pins s σ H x vs v us Q I rx rv h;obtain ⟨l, b, xs, zs, rfl, rfl, hH, hB, hz, q⟩ := h;cases rx;obtain ⟨u, rfl, ru⟩ := rv.one;cases ru;obtain ⟨z, its, n, r, hl, e⟩ := I.lstM hH;obtain ⟨z2, its2, n2, r2, hl2, e2⟩ := I.lstM hB;have hsz : its.toArray.size + its2.toArray.size <= sizeLine := by rw [Zr, Zr]; omega
  have hlong : ¬ (!its.toArray.isEmpty && Builtin.List.listTooLong (its.toArray.size + its2.toArray.size)) = true := by
    rw [zde hsz, Bool.and_false];exact Bool.false_ne_true
  refine call_meets F.slot_list_extend ⟨_, e, rfl⟩ F.entry_list_extend (F.args_list_extend_2 _ _)
    (AutoSeq1.list_extend_list_list_0 l its.toArray n b its2.toArray n2 hlong (by rw [Zr]; omega) (by omega)) ⟨e, e2, ?_⟩
  refine ⟨.non, _, I.lset (its' := its ++ its2) hH e (by simp) (r.append r2) ?_, rfl, q⟩;rw [Zo];omega
def rPop : V -> List V -> Hp -> VK -> Prop := fun x vs H Q => ∃ l xs y, x = .ref l /\ vs = [] /\ H l = some (.lst xs) /\ xs[xs.length - 1]? = some y /\ Q y (upd H l (.lst xs.dropLast))
def zbw : V -> List V -> Hp -> VK -> Prop := fun x vs H Q => ∃ l xs i k y, x = .ref l /\ vs = [.int i] /\ H l = some (.lst xs) /\ -(2 ^ 63) <= i /\ i < 2 ^ 63 /\ seqIndex? i xs.length = some k /\ xs[k]? = some y /\ Q y (upd H l (.lst (xs.eraseIdx k)))
theorem zda : MtM X "list.pop" zbw := by
  intro pins s σ H x vs v us Q I rx rv h;obtain ⟨l, xs, i, k, y, rfl, rfl, hH, h1, h2, hk, hy, q⟩ := h;cases rx;obtain ⟨u, rfl, ru⟩ := rv.one;obtain ⟨t, rfl⟩ := ru;obtain ⟨z, its, n, r, hl, e⟩ := I.lstM hH;obtain ⟨w, hw, rw'⟩ := r.get hy
  refine call_meets F.slot_list_pop ⟨_, e, rfl⟩ F.entry_list_pop (F.args_list_pop_2 _ _)
    (MeetsSeq.list_pop_at l its.toArray n i t k w (fitsIndex_both h1 h2) (by rw [Zr, <- hl]; exact hk) (by rw [<- Array.getElem?_toList]; exact hw) (by rw [Zr]; omega)) ⟨e, ?_⟩
  refine ⟨y, _, I.lset (its' := its.eraseIdx k) hH e ?_ (r.eraseIdx k) ?_, rw', q⟩
  . show its.toArray.eraseIdxIfInBounds k = (its.eraseIdx k).toArray
    rw [List.eraseIdxIfInBounds_toArray]
  . have := iu xs k
    omega
def zct : V -> List V -> Hp -> VK -> Prop := fun x vs H Q => ∃ l xs, x = .ref l /\ vs = [] /\ H l = some (.lst xs) /\ Q .non (upd H l (.lst xs.reverse))
def rClear : V -> List V -> Hp -> VK -> Prop := fun x vs H Q => ∃ l xs, x = .ref l /\ vs = [] /\ H l = some (.lst xs) /\ Q .non (upd H l (.lst []))
def rCat : R2 := fun x y H Q => ∃ l b xs zs, x = .ref l /\ y = .ref b /\ H l = some (.lst xs) /\ H b = some (.lst zs) /\ xs.length + zs.length <= sizeLine /\ ∀ p, H p = none -> Q (.ref p) (upd H p (.lst (xs ++ zs)))
def rRep : R2 := fun x y H Q => ∃ l k xs, x = .ref l /\ y = .int k /\ H l = some (.lst xs) /\ -(2 ^ 63) <= k /\ k < 2 ^ 63 /\ xs.length * k.toNat <= sizeLine /\
  ∀ p, H p = none -> Q (.ref p) (upd H p (.lst (List.replicate k.toNat xs).flatten))
end
section
variable {prog : Program} {w : World} {A : Around} {E : Value -> Shared -> Prop} {s : Shared}
set_option maxRecDepth 100000 in
end
section
variable {X : Cx}
end
end L2
namespace Att
open PySem PySem.W PySem.Calls PyProof.Rows
theorem jo {P : Params} {h : Heap} : ∀ (ns : List Int) (vs : List Value), WellAll P h vs (ns.map WData.int) -> IntsAre vs ns := by
  intro ns
  induction ns with
  | nil =>
    intro vs w;rw [Yt] at w;cases w;exact .nil
  | cons n ns ih =>
    intro vs w;rw [ZM] at w
    cases w with
    | cons a b =>
      cases a;exact .cons _ _ (ih _ b)
theorem zb1 {l : OpenLaw} {n : Nat} (hn : l.most = some n) {P : Params} {h : Heap} {args : List WData} {vals : List Value}
    (hpre : l.row.toRowW.claim.pre args = true) (hwl : WellAll P h vals args) :
    ∃ a vs ns, vals = [Value.ref a] /\ args = [WData.list (ns.map WData.int)] /\ h.get? a = some { cls := .type "list", data := .seq vs.toArray } /\ IntsAre vs ns /\ ns.length <= n := by
  have hsh : WShape.hasAll [] args [.list .int] = true := (pre_splitW hpre).1;have hc : l.pre.holds [] { args := args } = true := (pre_splitW hpre).2;obtain ⟨d, r, rfl, h1, h2⟩ := hasAllW_cons hsh;obtain rfl := hasAllW_nil h2;obtain ⟨xs, rfl, h3⟩ := hasW_list h1;obtain ⟨ns, rfl⟩ := items_int h3
  have hlen : ns.length <= n := by
    unfold OpenLaw.pre at hc
    have h4 : (WTm.not (.lt (.lit (.int (n : Int))) (.len (.arg 0)))).holds [] { args := [.list (ns.map .int)] } = true := by
      have h4 := (holds_andW hc).1;rw [hn] at h4;exact h4
    have h5 := condW_of h4 (w_not (w_lt w_lit (w_len_list (w_arg rfl))));rw [Za] at h5;refine Nat.le_of_not_lt fun q => ?_
    have q' : (n : Int) < ((ns.length : Nat) : Int) := by omega
    first
      | (rw [decide_eq_true q'] at h5; exact absurd h5 (by decide))
      | (simp at h5; omega)
  cases hwl with
  | cons w1 w2 =>
    cases w2
    cases w1 with
    | list ho hall => exact ⟨_, _, ns, rfl, rfl, ho, jo ns _ hall, hlen⟩
theorem zbl (l : OpenLaw) (args : List WData) : l.row.toRowW.claim.post args (.bool true) args = true :=
  postW_of (r := l.row.toRowW) (X := (true == true))
    (show WShape.has [] (.bool true) .bool = true by first | rfl | decide | simp [WShape.has, WShape.arms, WShape.armsAll])
    (show (WTm.eq .res (.lit (.bool true))).value [] { args := args, res := some (.bool true), after := args } = some (.bool (true == true)) from w_eq_bool (w_res rfl) w_lit) rfl
theorem cr {l : OpenLaw} {n : Nat} {q : Program} {loose : List Str} {XP : (Str -> Option Value) -> Heap -> Prop} {YP : World -> Heap -> Prop} {d : DefRec}
    (hn : l.most = some n) (hdf : d.params.defaults = [])
    (call : ∀ (w : World) (s₀ s₁ : Shared) (mg mb : Str -> Option Value) (fa : Addr) (o : Obj) (pm cd doc : Value) (a : Addr) (vs : List Value) (ns : List Int),
      Ground q loose [] XP w s₀ mg mb s₁.heap -> YP w s₁.heap ->
      s₁.heap.get? fa = some o -> o.data = .func (docDef d.name d.params d.body d.scope pm cd doc) -> s₁.heap.CodeRec cd d.name -> mg d.name = some (.ref fa) ->
      s₁.heap.get? a = some { cls := .type "list", data := .seq vs.toArray } -> IntsAre vs ns -> ns.length <= n -> s₁.gens = #[] ->
      codeAny (model l.prog w) callerA (.call (.ref fa) ⟨[.ref a], []⟩) (fun r s' => r = .ok (.ret (.bool true)) /\ OldK s₁.heap s'.heap /\ s'.os = s₁.os /\ AllBare s'.gens) s₁) :
    WalkO q loose XP YP l.row.toRowW d [] (fun f vs => PySem.call f vs) := by
  intro w s₀ s₁ mg mb G Y fa o pm cd doc dV kV ho hd hcd hD hmg hg args vals as hpre hlay hrd hwl hlo;obtain rfl : dV = .none := Dflts.none hD hdf;obtain rfl : kV = .none := Dflts.noKw hD;obtain ⟨a, vs, ns, rfl, rfl, hobj, hints, hlen⟩ := zb1 hn hpre hwl;refine enter_call (codeAny_mono (call w s₀ s₁ mg mb fa o pm cd doc a vs ns G Y ho (fd_plain hd) hcd hmg hobj hints hlen hg) fun r s' hq => ?_);obtain ⟨rfl, h2, h3, h4⟩ := hq;exact ⟨.inl ⟨.bool true, .bool true, [], rfl, fun _ => rfl, .bool true, zbl l _, fun _ => ⟨List.Pairwise.nil, fun _ hm => (nomatch hm)⟩⟩, h2, h3, h4⟩
section
variable {prog : Program} {w : World} {A : Around} {E : Value -> Shared -> Prop} {s : Shared} {K : Frag}
def ledger (h : Heap) (L d : Addr) : List (Addr × Obj) := (List.range h.objs.size).filterMap fun a => if a = L \/ a = d then none else (h.get? a).map fun o => (a, o)
end
end Att
namespace L2
open PySem PySem.Spec PyProof.Rows
theorem ge : ∀ {vs : List Value} {ns : List Int}, IntsAre vs ns -> Vals (ns.map V.int) vs
  | _, _, .nil => .nil
  | _, _, .cons n t h => .cons ⟨t, rfl⟩ (ge h)
def Only (H : Hp) : Prop := ∀ b, H b = none \/ ∃ o xs, H b = some (.frz o (.lst xs))
theorem zcx {P : Program} {w : World} {K : Fg} {mg mb : Str -> Option Value} {CX : CXT} {k : Nat} {fa a : Addr} {fd : FuncData} {x : Str} {sp : Sp} {s₁ : Shared} {vs : List Value} {ns : List Int}
    (KX : K.In s₁.heap) (hns : s₁.heap.Ns mainGlobals mg) (hb : s₁.heap.Ns builtinsNs mb) (hbb : ∀ x : Str, x ≠ "__name__" -> mb x = bootBuiltins x) (hlim : s₁.heap.NoLimit) (hg : s₁.gens = #[])
    (ha : s₁.heap.get? a = some { cls := .type "list", data := .seq vs.toArray }) (hi : IntsAre vs ns) (hl : ns.length <= sizeLine) (hr : Room k callerA)
    (F : ∀ base : Heap, K.In base -> base.Ns mainGlobals mg -> FnOk P w K mg base CX k fa fd [x] sp) (hbind : ∀ (s : Shared) (u : Value), BindsTo s fd ⟨[u], []⟩ [(x, u)])
    (hsp : ∀ H : Hp, Only H -> SqL K H a (ns.map V.int) -> sp [.ref a] H (fun v _ => v = .bl true) fun _ _ _ => False)
    (hCX : ∀ H e s', CX [] H s₁ (fun _ _ _ => False) e s' -> False) :
    codeAny (model P w) callerA (.call (.ref fa) ⟨[.ref a], []⟩) (fun r s' => r = .ok (.ret (.bool true)) /\ OldK s₁.heap s'.heap /\ s'.os = s₁.os /\ AllBare s'.gens) s₁ := by
  have rv := ge hi;have lenV := hi.length
  -- from an abstract heap in which nothing but the script may be tracked
  have core : ∀ H : Hp, Only H -> SqL K H a (ns.map V.int) -> HOk P w H s₁.heap -> (∀ b, H b ≠ none -> b = a) -> (H a ≠ none -> K.lookup a = none) ->
      codeAny (model P w) callerA (.call (.ref fa) ⟨[.ref a], []⟩) (fun r s' => r = .ok (.ret (.bool true)) /\ OldK s₁.heap s'.heap /\ s'.os = s₁.os /\ AllBare s'.gens) s₁ := by
    intro H hO hS hok hA hK;have base_of : ∀ {b : Addr} {o : Obj}, s₁.heap.get? b = some o -> H b = none -> (hidT s₁.heap H).get? b = some o := fun e n => zc5 e n
    have noA : ∀ {b : Addr} {o : Obj} {es : Array DictEntry} {ep : Nat}, s₁.heap.get? b = some o -> o.data = .dict es ep -> H b = none := fun {b o es ep} e d => by
      cases q : H b with
      | none => rfl
      | some u =>
        have e' : b = a := hA b (by rw [q]; simp);subst e';rw [ha] at e; cases e;have d' : Data.seq vs.toArray _ = Data.dict es ep := d;cases d'
    have nsK : ∀ {b : Addr} {m : Str -> Option Value}, s₁.heap.Ns b m -> (hidT s₁.heap H).Ns b m := fun {b m} ⟨o, es, ep, e, d, r⟩ => ⟨o, es, ep, base_of e (noA e d), d, r⟩
    have hKb : K.In (hidT s₁.heap H) := fun b o e => base_of (KX b o e) (by
      cases q : H b with
      | none => rfl
      | some u =>
        have e' : b = a := hA b (by rw [q]; simp);subst e'
        rw [hK (by rw [q]; simp)] at e; cases e)
    have hM : Mod K mg (hidT s₁.heap H) := ⟨hKb, nsK hns, ⟨mb, nsK hb, hbb⟩, let ⟨mc, h1, h2⟩ := hlim; ⟨mc, nsK h1, h2⟩⟩;have e0 : Env0 P w K mg (hidT s₁.heap H) callerA [] s₁ H := ⟨rfl, hM, fun b o e => zdz e, YG (za3 _ _), trivial, fun b hb => absurd (show b ∈ ([] : List Addr) from hb) (by simp), hok, .of_eq hg⟩;refine codeAny_mono ((F _ hKb (nsK hns)).run callerA [] s₁ H ⟨[.ref a], []⟩ [.ref a] [.ref a] _ _ hr e0 (hbind s₁ (.ref a)) (.cons rfl .nil) (hsp H hO hS)) fun r s' h => ?_
    cases r with
    | error e => exact (hCX H e s' h).elim
    | ok fl =>
      cases fl with
      | next => exact False.elim h
      | brk => exact False.elim h
      | cont => exact False.elim h
      | ret u =>
        obtain ⟨v, H', os, bare, un, hok', r', q⟩ := h;have q' : v = .bl true := q;subst q';obtain rfl : u = Value.bool true := r';refine ⟨rfl, OldK.of_keep fun b o e => ?_, os, bare⟩
        cases q : H b with
        | none => exact un.keep b o e q (by intro z; exact absurd (show b ∈ ([] : List Addr) from z) (by simp)) (by simp)
        | some u =>
          rcases hO b with z | ⟨ob, xs, z⟩
          . rw [q] at z; cases z
          . have z2 := un.frzs b ob _ z
            obtain ⟨e1, _⟩ := hok b _ z;obtain ⟨e2, _⟩ := hok' b _ z2;rw [e] at e1; cases e1;exact e2
  cases hk : K.lookup a with
  | some o =>
    -- the script is one of the module's own objects
    have e := KX a o hk;rw [ha] at e;cases e;refine core (fun _ => none) (fun _ => .inl rfl) (.inr ⟨_, vs.toArray, _, hk, rfl, rfl, rfl, by rw [Zr, lenV]; exact hl, by simpa using rv⟩) (fun b u z => by have z' : (none : Option HO) = some u := z; cases z') (fun b z => absurd rfl z) fun z => absurd rfl z
  | none =>
    refine core (fun b => if b = a then some (.frz { cls := .type "list", data := .seq vs.toArray } (.lst (ns.map V.int))) else none) (fun b => ?_) (.inl (.inr ⟨{ cls := .type "list", data := .seq vs.toArray }, if_pos rfl⟩)) (fun b u z => ?_) (fun b z => ?_) fun _ => hk
    . by_cases hb : b = a
      . exact .inr ⟨_, _, if_pos hb⟩
      . exact .inl (if_neg hb)
    . by_cases hb : b = a
      . have z' := (if_pos hb).symm.trans z
        cases z';subst hb;exact ⟨ha, by rw [Za]; exact hl, vs, _, rv, ha⟩
      . have z' := (if_neg hb).symm.trans z
        cases z'
    . by_cases hb : b = a
      . exact hb
      . exact absurd (if_neg hb) z
end L2
namespace L2
open PySem PySem.Spec PyProof.Rows
abbrev KOf {K : Fg} {h : Heap} (_ : K.In h) : Fg := K
theorem zd1 {l : PySem.W.OpenLaw} {n k : Nat} {q : Program} {loose : List Str} {XP : (Str -> Option Value) -> Heap -> Prop} {YP : World -> Heap -> Prop} {d : DefRec} {K : Params -> Fg} {CX : World -> CXT} {sp : World -> Sp} {x : Str}
    (hn : l.most = some n) (hn2 : n <= sizeLine) (hdf : d.params.defaults = []) (hr : Room k callerA)
    (hY : ∀ (w : World) (h : Heap), YP w h -> (K w.params).In h)
    (F : ∀ (w : World) (mg : Str -> Option Value) (fa : Addr) (h : Heap), (K w.params).In h -> h.Ns mainGlobals mg -> mg d.name = some (.ref fa) ->
      ∃ fd : FuncData, (∀ (s : Shared) (u : Value), BindsTo s fd ⟨[u], []⟩ [(x, u)]) /\
        ∀ base : Heap, (K w.params).In base -> base.Ns mainGlobals mg -> FnOk l.prog w (K w.params) mg base (CX w) k fa fd [x] (sp w))
    (hsp : ∀ (w : World) (H : Hp) (a : Addr) (ns : List Int), ns.length <= n -> Only H -> SqL (K w.params) H a (ns.map V.int) -> sp w [.ref a] H (fun v _ => v = .bl true) fun _ _ _ => False)
    (hCX : ∀ (w : World) (H : Hp) (s : Shared) (e : Value) (s' : Shared), CX w [] H s (fun _ _ _ => False) e s' -> False) :
    PySem.W.WalkO q loose XP YP l.row.toRowW d [] (fun f vs => PySem.call f vs) := by
  refine Att.cr hn hdf fun w s₀ s₁ mg mb fa o pm cd doc a vs ns G Y ho hd hcd hmg hobj hints hlen hg => ?_
  have KX := hY w _ Y;obtain ⟨fd, hb, hF⟩ := F w mg fa _ KX G.T.g hmg;exact zcx KX G.T.g G.T.b G.T.builtins G.T.nolimit hg hobj hints (Zd hlen hn2) hr hF hb (fun H hO hS => hsp w H a ns hlen hO hS) fun H e s' => hCX w H s₁ e s'
theorem zc2 {l : PySem.W.OpenLaw} {n k : Nat} {q : Program} {loose : List Str} {XP : (Str -> Option Value) -> Heap -> Prop} {YP : World -> Heap -> Prop} {d : DefRec} {K : Params -> Fg} {CX : CXT} {sp : Fg -> Sp} {x : Str}
    (hn : l.most = some n) (hn2 : n <= sizeLine) (hdf : d.params.defaults = []) (hr : Room k callerA)
    (hY : ∀ (w : World) (h : Heap), YP w h -> (K w.params).In h)
    (F : ∀ (w : World) (mg : Str -> Option Value) (fa : Addr) (h : Heap), (K w.params).In h -> h.Ns mainGlobals mg -> mg d.name = some (.ref fa) ->
      ∃ fd : FuncData, (∀ (s : Shared) (u : Value), BindsTo s fd ⟨[u], []⟩ [(x, u)]) /\
        ∀ base : Heap, (K w.params).In base -> base.Ns mainGlobals mg -> FnOk l.prog w (K w.params) mg base CX k fa fd [x] (sp (K w.params)))
    (hsp : ∀ (K : Fg) (H : Hp) (a : Addr) (ns : List Int), ns.length <= n -> Only H -> SqL K H a (ns.map V.int) -> sp K [.ref a] H (fun v _ => v = .bl true) fun _ _ _ => False)
    (hCX : ∀ (H : Hp) (s : Shared) (e : Value) (s' : Shared), CX [] H s (fun _ _ _ => False) e s' -> False) :
    PySem.W.WalkO q loose XP YP l.row.toRowW d [] (fun f vs => PySem.call f vs) :=
  zd1 (K := K) (CX := fun _ => CX) (sp := fun w => sp (K w.params)) hn hn2 hdf hr hY F (fun w H a ns h1 h2 h3 => hsp (K w.params) H a ns h1 h2 h3) fun _ H s e s' => hCX H s e s'
end L2
namespace L2
open PySem PySem.Spec PyProof.Rows
def uq (s : Stmt) : Arguments := match s with
  | .FunctionDef _ a _ _ _ _ _ _ _ _ => a
  | _ => { posonlyargs := [], args := [], vararg := none, kwonlyargs := [], kw_defaults := [], kwarg := none, defaults := [] }
def y0 (s : Stmt) : List Stmt := match s with
  | .FunctionDef _ _ b _ _ _ _ _ _ _ => b
  | _ => []
def zk (s : Stmt) : Scope := match s with
  | .FunctionDef _ _ _ _ _ _ sc _ _ _ => sc
  | _ => { kind := .function, names := [], isGenerator := false, isCoroutine := false }
abbrev CX0 : CXT := fun _ _ _ _ _ _ => False
abbrev E0 : XK := fun _ _ _ => False
theorem pass0 {X : Cx} : ml CX0 X E0 := fun _ _ _ _ _ _ _ h => h.elim
structure Fun (K : Fg) (x qual : Str) (st : Stmt) (f : Addr) (fd : FuncData) : Prop where
  ex : ∃ (oc : Value) (od : Option Addr) (kV doc pm : Value) (an : Option Addr) (cdv ct : Value) (osl : Array (Option Value)),
    fd = PySem.W.fnOf x qual (uq st) (y0 st) (zk st) .none kV doc pm an cdv ct /\ K.lookup f = some ⟨oc, od, .func fd, osl⟩ /\ PySem.W.codeIn K cdv qual = true
  kp : PySem.W.keepIn K (.ref f) = true
section
variable {P : Program} {w : World} {K : Fg} {mg : Str -> Option Value} {base : Heap}
theorem Fun.ok {x qual : Str} {st : Stmt} {f : Addr} {fd : FuncData} {N ps : List Str} {k : Nat} {sp : Sp} (F : Fun K x qual st f fd) (S : zq N ps (zk st)) (len : ∀ vs H Q E, sp vs H Q E -> vs.length = ps.length)
    (hbody : ∀ (cdv : Value) (A : Around) (outer : List Env) (s : Shared) (H : Hp) (vs : List V) (Q : VK) (E : XK), Room k (A.deeper (envOfC qual (zk st) s.heap.objs.size f cdv)) -> sp vs H Q E ->
      ∃ t, PSs (cxOf CX0 P w K mg base N qual (zk st) f cdv A outer s H E).nox (y0 st) t /\ t { nx := fun _ H' => Q .non H', rt := Q } (start N vs) H) : FnOk P w K mg base CX0 (k + 1) f fd ps sp := by
  obtain ⟨oc, od, kV, doc, pm, an, cdv, ct, osl, rfl, lk, hcd⟩ := F.ex;refine fn_of lk hcd S len fun A outer s H vs Q E hr hsp => ?_
  obtain ⟨t, h, q⟩ := hbody cdv A outer s H vs Q E hr hsp;exact ⟨t, h.nox, q⟩
theorem Fun.binds {x qual : Str} {st : Stmt} {f : Addr} {fd : FuncData} {ps : List Str} (F : Fun K x qual st f fd)
    (h : ∀ (kV doc pm : Value) (an : Option Addr) (cdv ct : Value) (us : List Value), us.length = ps.length -> bindArgs (PySem.W.fnOf x qual (uq st) (y0 st) (zk st) .none kV doc pm an cdv ct) ⟨us, []⟩ = pure (ps.zip us)) : Binds K fd ps [] := by
  obtain ⟨oc, od, kV, doc, pm, an, cdv, ct, osl, rfl, lk, hcd⟩ := F.ex;exact .all (h kV doc pm an cdv ct)
theorem zbv {x qual : Str} {st : Stmt} {f : Addr} {oc : Value} {od an : Option Addr} {osl : Array (Option Value)} {kV doc pm cdv ct : Value} (l : K.lookup f = some ⟨oc, od, .func (PySem.W.fnOf x qual (uq st) (y0 st) (zk st) .none kV doc pm an cdv ct), osl⟩)
    (c : PySem.W.codeIn K cdv qual = true) (k : PySem.W.keepIn K (.ref f) = true) : Fun K x qual st f (PySem.W.fnOf x qual (uq st) (y0 st) (zk st) .none kV doc pm an cdv ct) := ⟨⟨oc, od, kV, doc, pm, an, cdv, ct, osl, rfl, l, c⟩, k⟩
end
theorem hu_of {A : Around} {k : Nat} (hr : Room k A) : A.units + 1 < cLine := Yk (Nat.add_le_add_left (by decide : 1 <= 64) _) hr.units
section
variable {X : Cx}
theorem pv (i : Nat) {x : Str} {pos : Pos} (hN : X.N[i]? = some x := by rfl) (hv : Vis X.env.scope x := by first | exact Or.inl rfl | exact Or.inr (Or.inl rfl) | exact Or.inr (Or.inr rfl)) (hd : (x == ("__debug__" : Str)) = false := by decide)
    (hcd : (x == ("__classdict__" : Str)) = false := by decide) : PE X (.Name x pos) (tVar i) := pe_var hN hv hd hcd
end
theorem iteF {A B : Prop} (h : B) : if false = true then A else B := by
  rw [if_neg Bool.false_ne_true];exact h
theorem iteT {A B : Prop} (h : A) : if true = true then A else B := by
  rw [if_pos rfl];exact h
theorem ite2 {c A B : Prop} [Decidable c] (h1 : c -> A) (h2 : ¬ c -> B) : if c then A else B := by
  by_cases h : c
  . rw [if_pos h]
    exact h1 h
  . rw [if_neg h]
    exact h2 h
theorem ax {c A B : Prop} [Decidable c] (hc : c) (h : B) : if (!decide c) = true then A else B := by
  rw [decide_eq_true hc];exact iteF h
def Same (H H' : Hp) : Prop := ∀ b o, H b = some o -> H' b = some o
theorem Same.refl (H : Hp) : Same H H := fun _ _ h => h
theorem Same.trans {H H1 H2 : Hp} (a : Same H H1) (b : Same H1 H2) : Same H H2 := fun c o h => b c o (a c o h)
theorem Same.free {H H' : Hp} (e : Same H H') {l : Addr} (h : H' l = Option.none) : H l = Option.none := by
  cases q : H l with
  | none => rfl
  | some o =>
    rw [e l o q] at h;cases h
theorem Same.seq {K : Fg} {H H' : Hp} {a : Addr} {xs : List V} (e : Same H H') (h : SqL K H a xs) : SqL K H' a xs := by
  rcases h with (h | ⟨o, h⟩) | h
  . exact .inl (.inl (e _ _ h))
  . exact .inl (.inr ⟨o, e _ _ h⟩)
  . exact .inr h
end L2
namespace L2
open PySem PySem.Spec PyProof.Rows
section
variable {κ : Type} [DecidableEq κ]
def valV (kvs : List (κ × V)) (k : κ) : Option V := (kvs.find? fun kv => decide (kv.1 = k)).map (·.2)
def putK (kvs : List (κ × V)) (k : κ) (v : V) : List (κ × V) :=
  if (kvs.any fun kv => decide (kv.1 = k)) = true then kvs.map (fun kv => if kv.1 = k then (kv.1, v) else kv) else kvs ++ [(k, v)]
def dropK (kvs : List (κ × V)) (k : κ) : List (κ × V) := kvs.filter fun kv => decide (kv.1 ≠ k)
theorem ka {p : κ × V} {r : List (κ × V)} {k : κ} (e : p.1 = k) : valV (p :: r) k = some p.2 := by simp [valV, Ye, e]
theorem kq {p : κ × V} {r : List (κ × V)} {k : κ} (e : ¬ p.1 = k) : valV (p :: r) k = valV r k := by simp [valV, Ye, e]
theorem ow (k : κ) : ∀ kvs : List (κ × V), (kvs.any fun kv => decide (kv.1 = k)) = (valV kvs k).isSome
  | [] => rfl
  | p :: r => by
    rw [List.any_cons]
    by_cases e : p.1 = k
    . simp only [ka e, decide_eq_true e, Bool.true_or, Option.isSome_some]
    . rw [kq e, decide_eq_false e, Bool.false_or]; exact ow k r
theorem cj (kvs : List (κ × V)) (k : κ) (v : V) : (putK kvs k v).length <= kvs.length + 1 := by
  unfold putK
  split
  . rw [Za]; omega
  . rw [Zo, ZQ, Yu]; omega
theorem zc4 {kvs : List (κ × V)} {k : κ} (v : V) (h : valV kvs k = none) : putK kvs k v = kvs ++ [(k, v)] := by
  unfold putK;rw [ow, h];exact if_neg (by decide)
theorem RelO.isSome_eq {o : Option V} {u : Option Value} (r : RelO o u) : o.isSome = u.isSome := by
  cases o with
  | none => cases u with
    | none => rfl
    | some _ => exact (show False from r).elim
  | some _ => cases u with
    | none => exact (show False from r).elim
    | some _ => rfl
theorem RelO.getD {o : Option V} {u : Option Value} {d : V} {d' : Value} (r : RelO o u) (rd : RelV d d') : RelV (o.getD d) (u.getD d') := by
  cases o with
  | none => cases u with
    | none => exact rd
    | some _ => exact (show False from r).elim
  | some _ => cases u with
    | none => exact (show False from r).elim
    | some _ => exact r
theorem KV.val {kvs : List (κ × V)} {vs : List (κ × Value)} (r : KV kvs vs) (k : κ) : RelO (valV kvs k) (valueAt vs k) := by
  unfold KV at r
  induction r with
  | nil => exact True.intro
  | @cons p q ps qs h t ih =>
    obtain ⟨h1, h2⟩ := h
    by_cases e : p.1 = k
    . have e' : q.1 = k := h1.symm.trans e
      have b : valueAt (q :: qs) k = some q.2 := by simp [valueAt, Ye, e']
      rw [ka e, b]; exact h2
    . have e' : ¬ q.1 = k := fun z => e (h1.trans z)
      have b : valueAt (q :: qs) k = valueAt qs k := by simp [valueAt, Ye, e']
      rw [kq e, b]; exact ih
theorem KV.any {kvs : List (κ × V)} {vs : List (κ × Value)} (r : KV kvs vs) (k : κ) : (kvs.any fun kv => decide (kv.1 = k)) = vs.any fun kv => decide (kv.1 = k) := by
  unfold KV at r
  induction r with
  | nil => rfl
  | cons h t ih => rw [List.any_cons, List.any_cons, ih, h.1]
theorem KV.repl {kvs : List (κ × V)} {vs : List (κ × Value)} (r : KV kvs vs) (k : κ) {y : V} {u : Value} (ry : RelV y u) :
    KV (kvs.map fun kv => if kv.1 = k then (kv.1, y) else kv) (vs.map fun kv => if kv.1 = k then (kv.1, u) else kv) := by
  unfold KV at r ⊢
  induction r with
  | nil => exact .nil
  | @cons p q ps qs h t ih =>
    rw [ZM, ZM];refine .cons ?_ ih;obtain ⟨h1, h2⟩ := h
    by_cases e : p.1 = k
    . rw [if_pos e, if_pos (h1.symm.trans e)]; exact ⟨h1, ry⟩
    . rw [if_neg e, if_neg (fun z => e (h1.trans z))]; exact ⟨h1, h2⟩
theorem KV.put {kvs : List (κ × V)} {vs : List (κ × Value)} (r : KV kvs vs) (k : κ) {y : V} {u : Value} (ry : RelV y u) : KV (putK kvs k y) (stored vs k u) := by
  unfold putK stored;rw [r.any k]
  by_cases e : (vs.any fun kv => decide (kv.1 = k)) = true
  . rw [if_pos e, if_pos e]; exact r.repl k ry
  . rw [if_neg e, if_neg e]; exact Paired.snoc r ⟨rfl, ry⟩
theorem KV.drop {kvs : List (κ × V)} {vs : List (κ × Value)} (r : KV kvs vs) (k : κ) : KV (dropK kvs k) (without vs k) := by
  unfold KV at r ⊢;unfold dropK without
  induction r with
  | nil => exact .nil
  | @cons p q ps qs h t ih =>
    obtain ⟨h1, h2⟩ := h;rw [List.filter_cons, List.filter_cons]
    by_cases e : p.1 = k
    . have a : ¬ decide (p.1 ≠ k) = true := by simp [e]
      have b : ¬ decide (q.1 ≠ k) = true := by simp [h1.symm.trans e]
      rw [if_neg a, if_neg b]; exact ih
    . have e' : ¬ q.1 = k := fun z => e (h1.trans z)
      have a : decide (p.1 ≠ k) = true := by simp [e]
      have b : decide (q.1 ≠ k) = true := by simp [e']
      rw [if_pos a, if_pos b]; exact .cons ⟨h1, h2⟩ ih
theorem KV.keys {kvs : List (κ × V)} {vs : List (κ × Value)} (r : KV kvs vs) : kvs.map (·.1) = vs.map (·.1) := by
  unfold KV at r
  induction r with
  | nil => rfl
  | cons h t ih => rw [ZM, ZM, ih, h.1]
theorem KV.length {kvs : List (κ × V)} {vs : List (κ × Value)} (r : KV kvs vs) : kvs.length = vs.length := Paired.length r
end
theorem kV_is {P : Program} {w : World} {k : Key} {u : Value} (r : RelV (kV k) u) : (ua P w).is k u = true := by
  cases k with
  | inl i => obtain ⟨t, e⟩ := (show ∃ t, u = Value.int i t from r); subst e; exact cq P w i t
  | inr x => obtain ⟨t, e⟩ := (show ∃ t, u = Value.str x t from r); subst e; exact ba P w x t
theorem ix {P : Program} {w : World} : ∀ {ks : List Key} {us : List Value}, Vals (ks.map kV) us -> ItemsAre (ua P w) ks us
  | [], _, r => by rw [Yt] at r; cases r; exact .nil
  | k :: ks, _, r => by
    rw [ZM] at r
    cases r with
    | cons h t => exact .cons (kV_is h) (ix t)
abbrev KT (H : Hp) : List (List Key × V) -> List (List Key × Addr × Value) -> Prop := Paired fun p q => p.1 = q.1 /\ H q.2.1 = some (.tup (p.1.map kV)) /\ RelV p.2 q.2.2
theorem KT.val {H : Hp} {kvs : List (List Key × V)} {xs : List (List Key × Addr × Value)} (r : KT H kvs xs) (k : List Key) : RelO (valV kvs k) ((atKey xs k).map (·.2)) := by
  induction r with
  | nil => exact True.intro
  | @cons p q ps qs h t ih =>
    obtain ⟨h1, _, h2⟩ := h
    by_cases e : p.1 = k
    . have e' : q.1 = k := h1.symm.trans e
      have b : atKey (q :: qs) k = some q.2 := by simp [atKey, Ye, e']
      rw [ka e, b]; exact h2
    . have e' : ¬ q.1 = k := fun z => e (h1.trans z)
      have b : atKey (q :: qs) k = atKey qs k := by simp [atKey, Ye, e']
      rw [kq e, b]; exact ih
theorem KT.repl {H : Hp} {kvs : List (List Key × V)} {xs : List (List Key × Addr × Value)} (r : KT H kvs xs) (k : List Key) {y : V} {u : Value} (ry : RelV y u) :
    KT H (kvs.map fun kv => if kv.1 = k then (kv.1, y) else kv) (xs.map (putAt k u)) := by
  induction r with
  | nil => exact .nil
  | @cons p q ps qs h t ih =>
    rw [ZM, ZM];refine .cons ?_ ih;obtain ⟨h1, h2, h3⟩ := h;unfold putAt
    by_cases e : p.1 = k
    . rw [if_pos e, if_pos (h1.symm.trans e)]; exact ⟨h1, h2, ry⟩
    . rw [if_neg e, if_neg (fun z => e (h1.trans z))]; exact ⟨h1, h2, h3⟩
theorem KT.put {H : Hp} {kvs : List (List Key × V)} {xs : List (List Key × Addr × Value)} (r : KT H kvs xs) (k : List Key) {b : Addr} {y : V} {u : Value} (hb : H b = some (.tup (k.map kV))) (ry : RelV y u) :
    KT H (putK kvs k y) (storedH xs k b u) := by
  have e : (kvs.any fun kv => decide (kv.1 = k)) = (atKey xs k).isSome := by
    rw [ow, (r.val k).isSome_eq, Option.isSome_map]
  unfold putK storedH;rw [e]
  by_cases q : (atKey xs k).isSome = true
  . rw [if_pos q, if_pos q]; exact r.repl k ry
  . rw [if_neg q, if_neg q]; exact Paired.snoc r ⟨rfl, hb, ry⟩
theorem KT.keeps {H H' : Hp} {kvs : List (List Key × V)} {xs : List (List Key × Addr × Value)} (r : KT H kvs xs) (ht : ∀ b ys, H b = some (.tup ys) -> H' b = some (.tup ys)) : KT H' kvs xs :=
  Paired.mapP r fun _ _ z => ⟨z.1, ht _ _ z.2.1, z.2.2⟩
section
variable {P : Program} {w : World} {H : Hp} {h : Heap} {a : Addr}
theorem key_of {ks : List Key} (ok : HOk P w H h) (e : H a = some (.tup (ks.map kV))) : (tupleKind (ua P w)).is h ks a := by
  obtain ⟨_, its, r, o, h1, h2, n, h3⟩ := (show ObjOk P w H h a (.tup (ks.map kV)) from ok a _ e);exact ⟨o, its.toArray, n, h1, h2, h3.1, by simpa using ix r⟩
end
def DGet (H : Hp) (a : Addr) (y : V) (r : Option V) : Prop :=
  (∃ kvs k, Rd H a (.dK kvs) /\ y = kV k /\ r = valV kvs k) \/ ∃ kvs k b, Rd H a (.dT kvs) /\ y = .ref b /\ H b = some (.tup (k.map kV)) /\ r = valV kvs k
def DPut (H : Hp) (a : Addr) (y v : V) (H' : Hp) : Prop :=
  (∃ kvs k, H a = some (.dK kvs) /\ y = kV k /\ kvs.length < sizeLine /\ H' = upd H a (.dK (putK kvs k v))) \/
  ∃ kvs k b, H a = some (.dT kvs) /\ y = .ref b /\ H b = some (.tup (k.map kV)) /\ kvs.length < sizeLine /\ H' = upd H a (.dT (putK kvs k v))
theorem DGet.k {H : Hp} {a : Addr} {kvs : List (Key × V)} {k : Key} (e : H a = some (.dK kvs)) : DGet H a (kV k) (valV kvs k) := .inl ⟨kvs, k, .inl e, rfl, rfl⟩
theorem DGet.t {H : Hp} {a b : Addr} {kvs : List (List Key × V)} {k : List Key} (e : H a = some (.dT kvs)) (eb : H b = some (.tup (k.map kV))) : DGet H a (.ref b) (valV kvs k) := .inr ⟨kvs, k, b, .inl e, rfl, eb, rfl⟩
theorem DPut.k {H : Hp} {a : Addr} {kvs : List (Key × V)} {k : Key} {v : V} (e : H a = some (.dK kvs)) (hl : kvs.length < sizeLine) : DPut H a (kV k) v (upd H a (.dK (putK kvs k v))) := .inl ⟨kvs, k, e, rfl, hl, rfl⟩
theorem DPut.t {H : Hp} {a b : Addr} {kvs : List (List Key × V)} {k : List Key} {v : V} (e : H a = some (.dT kvs)) (eb : H b = some (.tup (k.map kV))) (hl : kvs.length < sizeLine) :
    DPut H a (.ref b) v (upd H a (.dT (putK kvs k v))) := .inr ⟨kvs, k, b, e, rfl, eb, hl, rfl⟩
section
variable {X : Cx} {pins : List (Addr × Obj)} {σ : St} {H : Hp} {s : Shared} {a : Addr} {y v : V} {u r : Value} {o : Option V} {A : Around} {E : Value -> Shared -> Prop}
theorem Inv.big (I : Inv X pins σ H s) : sysModules < s.heap.objs.size := by
  have h : mainGlobals < s.heap.objs.size := (I.mod.glob.keeps I.bk).lt;exact Nat.lt_trans (by decide) h
end
section
variable {X : Cx} {pins : List (Addr × Obj)} {σ : St} {H : Hp} {s : Shared} {a : Addr} {kvs : List (Key × V)} {k : Key} {u : Value} {A : Around} {E : Value -> Shared -> Prop}
end
def tDGet (td ty : TE) : TE := fun σ H Q => td σ H fun x H1 => ty σ H1 fun y H2 => ∃ a v, x = .ref a /\ DGet H2 a y (some v) /\ Q v H2
section
variable {X : Cx} {o i e value : Expr} {pos pos' tpos : Pos} {td ty tv : TE}
end
def tDNewK : TE := fun _ H Q => ∀ p, H p = none -> Q (.ref p) (upd H p (.dK []))
def tDNewT : TE := fun _ H Q => ∀ p, H p = none -> Q (.ref p) (upd H p (.dT []))
section
variable {X : Cx} {pos : Pos}
end
def oo : List (TE × TE) -> St -> Hp -> (List (V × V) -> Hp -> Prop) -> Prop
  | [], _, H, Q => Q [] H
  | (tk, tv) :: r, σ, H, Q => tk σ H fun x H1 => tv σ H1 fun y H2 => oo r σ H2 fun ps H3 => Q ((x, y) :: ps) H3
def zaz (kvs more : List (Key × V)) : List (Key × V) := more.foldl (fun acc kv => putK acc kv.1 kv.2) kvs
def tDisp (trs : List (TE × TE)) : TE := fun σ H Q => ∀ p, H p = none -> oo trs σ (upd H p (.dK [])) fun ps H2 => H2 p = some (.dK []) /\ ∃ kvs : List (Key × V), ps = kvs.map (fun kv => (kV kv.1, kv.2)) /\ kvs.length <= 15 /\ Q (.ref p) (upd H2 p (.dK (zaz [] kvs)))
def IsD (H : Hp) (a : Addr) : Prop := (∃ kvs, Rd H a (.dK kvs)) \/ ∃ kvs, Rd H a (.dT kvs)
section
variable {X : Cx} {pins : List (Addr × Obj)} {σ : St} {H : Hp} {s : Shared} {a : Addr} {y d : V} {u r : Value} {o : Option V} {A : Around} {E : Value -> Shared -> Prop}
end
def tDGet1 (td ty : TE) : TE := fun σ H Q => td σ H fun x H1 => ∃ a, x = .ref a /\ IsD H1 a /\ ty σ H1 fun y H2 => ∃ o, DGet H2 a y o /\ Q (o.getD .non) H2
def tDGet2 (td ty tx : TE) : TE := fun σ H Q => td σ H fun x H1 => ∃ a, x = .ref a /\ IsD H1 a /\ ty σ H1 fun y H2 => tx σ H2 fun z H3 => ∃ o, DGet H3 a y o /\ Q (o.getD z) H3
section
variable {X : Cx} {o e f : Expr} {apos cpos : Pos} {td ty tx : TE}
end
section
variable {X : Cx} {pins : List (Addr × Obj)} {σ : St} {H : Hp} {s : Shared} {a : Addr} {kvs : List (Key × V)} {A : Around} {E : Value -> Shared -> Prop}
end
section
variable {X : Cx} {pins : List (Addr × Obj)} {σ : St} {H : Hp} {s : Shared} {a : Addr} {y : V} {u : Value} {A : Around} {E : Value -> Shared -> Prop}
end
end L2
namespace L2
open PySem PySem.Spec PyProof.Rows
section
variable {X : Cx}
end
section
variable {κ : Type} [DecidableEq κ]
theorem zd3 {kvs : List (κ × V)} {k : κ} {v : V} (h : valV kvs k = some v) : k ∈ kvs.map (·.1) := by
  have q : (kvs.any fun kv => decide (kv.1 = k)) = true := by
    rw [ow, h]
    all_goals rfl
  obtain ⟨p, hp, e⟩ := List.any_eq_true.mp q;exact Zp.mpr ⟨p, hp, of_decide_eq_true e⟩
end
end L2
namespace L2
open PySem PySem.Spec PyProof.Rows
def ja (ns : List (Str × NameKind)) (y n : Str) : Bool := match ns.lookup y with
  | some .free => y == n
  | some .local => false
  | some .cell => false
  | _ => true
def vg (ns : List (Str × NameKind)) : List Str -> List Str -> Bool
  | [], [] => true
  | y :: ys, n :: ms => ja ns y n && vg ns ys ms
  | _, _ => false
def rg (ns : List (Str × NameKind)) (env : Env) : Bool := ns.all fun y => !(y.2 == .free) || (env.kindOf y.1 == some .cell || env.kindOf y.1 == some .free)
def rz (ns : List (Str × NameKind)) : Bool := ns.all fun y => !(y.2 == .cell) && (!(y.2 == .local) || ns.lookup y.1 == some .local)
theorem jp {ns : List (Str × NameKind)} : ∀ {N2 N : List Str} {i : Nat} {y : Str}, vg ns N2 N = true -> N2[i]? = some y -> ja ns y y = true /\ (ns.lookup y = some .free -> N[i]? = some y)
  | [], [], _, _, _, e => by simp at e
  | y' :: ys, n :: ms, 0, y, h, e => by
    simp at e; subst e;unfold vg at h;rw [Bool.and_eq_true] at h;refine ⟨?_, fun hf => ?_⟩
    . have h1 := h.1
      unfold ja at h1 ⊢
      split at h1 <;> first | rfl | (exact absurd h1 Bool.false_ne_true) | (exact beq_self_eq_true _)
    . have h1 := h.1
      unfold ja at h1;rw [hf] at h1;have e : y' = n := eq_of_beq h1;simp [e]
  | y' :: ys, n :: ms, i + 1, y, h, e => by
    unfold vg at h;rw [Bool.and_eq_true] at h;obtain ⟨h1, h2⟩ := jp (i := i) (y := y) h.2 (by simpa using e);exact ⟨h1, fun hf => by simpa using h2 hf⟩
  | [], _ :: _, _, _, h, _ => by cases h
  | _ :: _, [], _, _, h, _ => by cases h
theorem qj {ns : List (Str × NameKind)} {env : Env} (h : rg ns env = true) {y : Str × NameKind} (hy : y ∈ ns) (hf : y.2 = .free) : env.kindOf y.1 = some .cell \/ env.kindOf y.1 = some .free := by
  have q := ZL.mp h y hy;rw [hf] at q
  simpa using q
theorem nj {ns : List (Str × NameKind)} (h : rz ns = true) : ∀ y ∈ ns, y.2 ≠ .cell := fun y hy e => by
  have q := ZL.mp h y hy;rw [e] at q;simp at q
theorem oa {ns : List (Str × NameKind)} (h : rz ns = true) : ∀ y ∈ ns, y.2 = .local -> ns.lookup y.1 = some .local := fun y hy e => by
  have q := ZL.mp h y hy;rw [e] at q
  simpa using q
theorem tw {env : Env} {x : Str} : ∀ {ns : List (Str × NameKind)}, (ns.map fun (n, k) => if (k == NameKind.free && env.scope.kind == .function && env.kindOf n == some .cell) then (n, NameKind.cell) else (n, k)).lookup x =
    (ns.lookup x).map fun k => if (k == NameKind.free && env.scope.kind == .function && env.kindOf x == some .cell) then NameKind.cell else k
  | [] => rfl
  | (n, k) :: r => by
    have ih := @tw env x r
    show List.lookup x ((if (k == NameKind.free && env.scope.kind == .function && env.kindOf n == some .cell) = true then (n, NameKind.cell) else (n, k)) :: _) = _
    cases hx : x == n with
    | true =>
      have e : x = n := eq_of_beq hx;subst e;simp only [ZF, beq_self_eq_true]
      by_cases hc : (k == NameKind.free && env.scope.kind == .function && env.kindOf x == some .cell) = true
      . rw [if_pos hc]; simp only [ZF, beq_self_eq_true, Yv]; rw [if_pos hc]
      . rw [if_neg hc]; simp only [ZF, beq_self_eq_true, Yv]; rw [if_neg hc]
    | false =>
      simp only [ZF, hx]
      by_cases hc : (k == NameKind.free && env.scope.kind == .function && env.kindOf n == some .cell) = true
      . rw [if_pos hc]; simp only [ZF, hx]; exact ih
      . rw [if_neg hc]; simp only [ZF, hx]; exact ih
theorem nk {scope : Scope} {env : Env} (h : ∀ y ∈ scope.names, y.2 = .free -> ∃ c, env.cells.lookup y.1 = some c) :
    ∃ cl, closureFor scope env = pure cl /\ (∀ x c, cl.lookup x = some c -> env.cells.lookup x = some c) /\ (∀ y ∈ scope.names, y.2 = .free -> ∃ c, cl.lookup y.1 = some c) := by
  have all : ∀ (ns : List (Str × NameKind)) (cs : List (Str × Addr)), (∀ y ∈ ns, y.2 = .free -> ∃ c, env.cells.lookup y.1 = some c) -> (∀ x c, cs.lookup x = some c -> env.cells.lookup x = some c) ->
      ∃ cl, (forIn ns cs fun x r => (if (x.2 == NameKind.free) = true then do let a <- cellOf env x.1; pure (ForInStep.yield ((x.1, a) :: r)) else pure (ForInStep.yield r) : Sem (ForInStep (List (Str × Addr))))) = pure cl /\
        (∀ x c, cl.lookup x = some c -> env.cells.lookup x = some c) /\ (∀ x, (cs.lookup x).isSome = true -> (cl.lookup x).isSome = true) /\ (∀ y ∈ ns, y.2 = .free -> ∃ c, cl.lookup y.1 = some c) := by
    intro ns
    induction ns with
    | nil => intro cs _ hc; exact ⟨cs, rfl, hc, fun _ z => z, fun _ z => nomatch z⟩
    | cons y r ih =>
      intro cs hh hc;have hr : ∀ z ∈ r, z.2 = .free -> ∃ c, env.cells.lookup z.1 = some c := fun z hz => hh z (Zv _ hz)
      by_cases hf : y.2 = .free
      . obtain ⟨c, ec⟩ := hh y ZA hf
        have hc' : ∀ x d, ((y.1, c) :: cs).lookup x = some d -> env.cells.lookup x = some d := fun x d e => by
          rw [ZF] at e
          cases hx : x == y.1 with
          | true =>
            rw [hx] at e;have e2 : x = y.1 := eq_of_beq hx;cases e;rw [e2]; exact ec
          | false =>
            rw [hx] at e;exact hc x d e
        obtain ⟨cl, e1, e2, e3, e4⟩ := ih ((y.1, c) :: cs) hr hc';refine ⟨cl, ?_, e2, fun x hx => e3 x ?_, fun z hz hzf => ?_⟩
        . rw [List.forIn_cons]
          have ek : (y.2 == NameKind.free) = true := by rw [hf]; rfl
          simp only [ek, if_true, cellOf, ec, pure_bind];exact e1
        . rw [ZF]; split <;> first | rfl | exact hx
        . rcases ZK.mp hz with rfl | hz
          . have := e3 z.1 (by rw [ZF, beq_self_eq_true]; rfl)
            exact Option.isSome_iff_exists.mp this
          . exact e4 z hz hzf
      . obtain ⟨cl, e1, e2, e3, e4⟩ := ih cs hr hc
        refine ⟨cl, ?_, e2, e3, fun z hz hzf => ?_⟩
        . rw [List.forIn_cons]
          have ek : (y.2 == NameKind.free) = false := by simpa using hf
          simp only [ek, Bool.false_eq_true, if_false, pure_bind];exact e1
        . rcases ZK.mp hz with rfl | hz
          . exact absurd hzf hf
          . exact e4 z hz hzf
  obtain ⟨cl, e1, e2, _, e4⟩ := all scope.names [] h (fun _ _ z => by cases z);refine ⟨cl, ?_, e2, e4⟩;unfold closureFor
  first
    | (rw [show (forIn scope.names ([] : List (Str × Addr)) _ : Sem (List (Str × Addr))) = pure cl from e1]; rfl)
    | (simp only [bind_pure]; exact e1)
    | (show (forIn scope.names [] _ >>= _) = _; exact (congrArg (fun t => t >>= fun cs => pure cs) e1))
structure Dyn where
  cl : List (Str × Addr)
  C : Addr
  s₀ : Shared
  H₀ : Hp
  fp : List Addr
abbrev zt (X : Cx) (scope : Scope) (N' : List Str) (d : Dyn) : Cx where
  prog := X.prog
  w := X.w
  K := X.K
  mg := X.mg
  base := X.base
  A := X.A
  N := N'
  s₀ := d.s₀
  H₀ := d.H₀
  env := compEnvC scope d.cl d.C X.env
  outer := X.stack
  stack := X.stack
  ex := d.fp
  fn := fun _ => false
  calm := true
  pn := []
  xe := fun _ _ => False
theorem cz {prog : Program} {w : World} {A : Around} {R : Result -> Shared -> Prop} {s : Shared} {elt target iter : Expr} {ifs : List Expr} {scope : Scope} {pos : Pos} {it acc : Value} {env : Env} (I : Nat -> Shared -> Prop)
    (turn : ∀ n s, I n s -> wpAny (model prog w) A (pyNext it) (fun r s₁ => match r with
      | none => R (.ok .next) s₁
      | some v => wpAny (model prog w) A (letOwnedTupleGo target it v) (fun _ s₁' => wpAny (model prog w) A (assign target env v) (fun _ s₂ =>
          wpAny (model prog w) A (forIn ifs true fun c r => if r = true then do let ok <- isTrue c env (eval c env); pure (ForInStep.yield ok) else pure (ForInStep.yield r)) (fun ok s₃ =>
            if ok = true then wpAny (model prog w) A (eval elt env) (fun x s₄ =>
              wpAny (model prog w) A (call (.builtin "list.append") [acc, x]) (fun _ s₅ => ∃ m, m < n /\ I m s₅) (fun _ _ => False) s₄) (fun _ _ => False) s₃
            else ∃ m, m < n /\ I m s₃) (fun _ _ => False) s₂) (fun _ _ => False) s₁') (fun _ _ => False) s₁) (fun _ _ => False) s)
    (n : Nat) (h : I n s) :
    codeAny (model prog w) A (.compLoop (.ListComp elt [⟨target, iter, ifs, 0⟩] scope pos) 0 it acc env) R s := by
  refine codeAny_loop rfl I (fun n s hI => ?_) n h
  show wpAny _ A ((compTurn (.ListComp elt [⟨target, iter, ifs, 0⟩] scope pos) 0 it acc env).onRaise (fun x => do noteFrame x env; theTreesLotGoes x)) _ _ s
  refine wpAny_noted ?_;rw [compTurn_list];refine wpAny_bind (wpAny_standAt (wpAny_bind (wpAny_mono (turn n s hI) (fun r s₁ h₁ => ?_) fun _ _ f => f.elim)))
  cases r with
  | none => exact wpAny_pure h₁
  | some v =>
    refine wpAny_bind (wpAny_mono h₁ (fun _ s₁' h₁' => ?_) fun _ _ f => f.elim);refine wpAny_bind (wpAny_mono h₁' (fun _ s₂ h₂ => wpAny_bind (wpAny_mono h₂ (fun ok s₃ h₃ => ?_) fun _ _ f => f.elim)) fun _ _ f => f.elim)
    cases ok with
    | false => exact wpAny_pure ⟨rfl, h₃⟩
    | true =>
      exact wpAny_bind (wpAny_bind (wpAny_mono h₃ (fun x s₄ h₄ => wpAny_bind (wpAny_mono h₄ (fun _ s₅ h₅ => wpAny_pure (wpAny_pure ⟨rfl, h₅⟩)) fun _ _ f => f.elim)) fun _ _ f => f.elim))
def PTs (X : Cx) (ifs : List Expr) (t : TT) : Prop :=
  ∀ (pins : List (Addr × Obj)) (s : Shared) (σ : St) (H : Hp) (Q : Bool -> Hp -> Prop), Inv X pins σ H s -> t σ H Q ->
    wpAny (model X.prog X.w) X.A (forIn ifs true fun c r => if r = true then do let ok <- isTrue c X.env (eval c X.env); pure (ForInStep.yield ok) else pure (ForInStep.yield r)) (TP X pins σ Q) X.xe s
def tAll : TT := fun _ H Q => Q true H
theorem ya {X : Cx} : PTs X [] tAll := fun _ _ _ H _ I h => wpAny_tests_nil ⟨H, I, h⟩
def sm (J : It) (σ : St) (k : Nat) (g : TG) (tt : TT) (te : TE) (H1 : Hp) (Fin : List V -> Hp -> Prop) : Prop :=
  ∃ W : Nat -> Nat -> List V -> Hp -> Prop, (∃ m, W 0 m [] H1) /\ ∀ i m ys H, W i m ys H -> ys.length <= sizeLine /\
    ((J.stop i H /\ Fin ys H) \/ (J.go i H /\ ∃ N : List V -> Hp -> Prop, (∀ ys' H', N ys' H' -> ∃ m', m' < m /\ W (i + 1) m' ys' H') /\ ∀ x H', J.yld i H x H' -> g x (List.replicate k none ++ σ) H' fun σ2 H2 => σ2.drop k = σ /\
      tt σ2 H2 fun b H3 => if b = true then te σ2 H3 fun v H4 => N (ys ++ [v]) H4 else N ys H3))
abbrev lobj (its : List Value) : Obj := { cls := .type "list", data := .seq its.toArray its.length }
section
variable {X : Cx} {pins : List (Addr × Obj)} {σ : St} {H2 : Hp} {s₂ : Shared} {scope : Scope} {ts N2 : List Str} {cl : List (Str × Addr)} {C D : Addr} {fp : List Addr}
theorem zd5 (I2 : Inv X pins σ H2 s₂) (hc : X.calm = true) (f2 : ∀ b ∈ fp, FpOk X pins H2 b /\ b < s₂.heap.objs.size) (hkind : scope.kind = .function) (hown : rz scope.names = true) (hfree : rg scope.names X.env = true)
    (hcl1 : ∀ x c, cl.lookup x = some c -> X.env.cells.lookup x = some c) (hcl2 : ∀ y ∈ scope.names, y.2 = .free -> ∃ c, cl.lookup y.1 = some c) (hC : s₂.heap.objs.size <= C) :
    (zt X scope (ts ++ N2) ⟨cl, C, s₂, H2, fp⟩).Ok := by
  refine ⟨I2.ok.mod, hkind, I2.ok.glob, I2.ok.blt, hC, fun x y c e1 e2 => I2.ok.inj x y c (hcl1 _ _ e1) (hcl1 _ _ e2), fun x hx => ?_, fun x c z _ => absurd (show false = true from z) Bool.false_ne_true, fun _ => I2.ok.hd hc, I2.ok.frames, .inl rfl, fun b hb => ?_, I2.bs, Zd I2.ok.bsz I2.sz, fun b o e hb => ?_, fun b hb hfs => ?_, I2.stack, I2.stkFree⟩
  . have hx' : (relabel scope X.env).names.lookup x = some .cell \/ (relabel scope X.env).names.lookup x = some .free := hx
    have e0 : (relabel scope X.env).names.lookup x = _ := tw (env := X.env) (x := x) (ns := scope.names);rw [e0] at hx'
    cases q : scope.names.lookup x with
    | none => rw [q] at hx'; simp at hx'
    | some k =>
      rw [q] at hx';simp only [Yv, Option.some.injEq] at hx';have hm : (x, k) ∈ scope.names := PySem.mem_of_lookup q
      have hk : k = .free := by
        have nc := nj hown _ hm
        split at hx'
        . rename_i hcond
          simp only [Bool.and_eq_true] at hcond;exact eq_of_beq hcond.1.1
        . rcases hx' with z | z
          . exact absurd z nc
          . exact z
      exact hcl2 _ hm hk
  . obtain ⟨⟨f0, f1, f3, f4, f5, f6⟩, hlt⟩ := f2 b hb
    exact ⟨Zs (Zh hlt hC), fun x c e => f5 x c (hcl1 x c e)⟩
  . obtain ⟨⟨f0, f1, f3, f4, f5, f6⟩, hlt⟩ := f2 b hb
    rcases f4 with z | z
    . exact I2.ok.noex b o e z
    . exact absurd (Zh (Heap.lt_size e) (Zd I2.ok.bsz z)) (ZJ _)
  . obtain ⟨⟨f0, f1, f3, f4, f5, f6⟩, hlt⟩ := f2 b hb
    rcases ZK.mp (I2.stkSub b hfs) with z | z
    . exact f1 z
    . exact f3 z
theorem j3 (I2 : Inv X pins σ H2 s₂) (hc : X.calm = true) (f2 : ∀ b ∈ fp, FpOk X pins H2 b /\ b < s₂.heap.objs.size) (hkind : scope.kind = .function) (hown : rz scope.names = true) (hfree : rg scope.names X.env = true) (hout : vg scope.names N2 X.N = true)
    (hcl1 : ∀ x c, cl.lookup x = some c -> X.env.cells.lookup x = some c) (hcl2 : ∀ y ∈ scope.names, y.2 = .free -> ∃ c, cl.lookup y.1 = some c) (hC : s₂.heap.objs.size <= C) (hDC : D ≠ C) (hD : s₂.heap.objs.size <= D)
    {h₁ : Heap} {tk : Nat} {m : Str -> Option Value} (hn : h₁.Ns C m) (old : ∀ b o, s₂.heap.get? b = some o -> h₁.get? b = some o) (hacc : h₁.get? D = some (lobj [])) :
    Inv (zt X scope (ts ++ N2) ⟨cl, C, s₂, H2, fp⟩) [(D, lobj [])] (List.replicate ts.length none ++ σ) H2 { s₂ with heap := h₁, toks := tk } := by
  have ok := zd5 (ts := ts) (N2 := N2) I2 hc f2 hkind hown hfree hcl1 hcl2 hC
  have hlN : ∀ {a b : List Str}, vg scope.names a b = true -> a.length = b.length := by
    intro a
    induction a with
    | nil => intro b h; cases b with | nil => rfl | cons _ _ => cases h
    | cons y ys ih =>
      intro b h
      cases b with
      | nil => cases h
      | cons n ms =>
        unfold vg at h;rw [Bool.and_eq_true] at h;rw [ZQ, ZQ, ih h.2]
  refine ⟨ok, rfl, I2.bare, Un.kept old, ⟨m, hn, fun i x v e1 e2 e3 => ?_⟩, fun x c e => ?_, ?_, fun x c e => I2.freeC x c (hcl1 x c e), fun p hp => ?_, I2.hok.kept old, ?_⟩
  . by_cases hi : i < ts.length
    . rw [Zg (by simpa using hi), Yb] at e2
      split at e2 <;> cases e2
    . have hi' : ts.length <= i := ZD.mp hi
      rw [Zf (by simpa using hi')] at e2;rw [ZI] at e2;have e1' : (ts ++ N2)[i]? = some x := e1;rw [Zf hi'] at e1';obtain ⟨k1, k2⟩ := jp hout e1';have e0 : (relabel scope X.env).names.lookup x = _ := tw (env := X.env) (x := x) (ns := scope.names);have e3' : (relabel scope X.env).names.lookup x = some .local \/ (relabel scope X.env).names.lookup x = some .cell \/ (relabel scope X.env).names.lookup x = some .free := e3;rw [e0] at e3'
      cases q : scope.names.lookup x with
      | none => rw [q] at e3'; simp at e3'
      | some k =>
        have hm : (x, k) ∈ scope.names := PySem.mem_of_lookup q
        have hk : k = .free := by
          unfold ja at k1;rw [q] at k1 e3'
          cases k with
          | free => rfl
          | «local» => cases k1
          | cell => cases k1
          | _ => exfalso; revert e3'; simp
        subst hk;obtain ⟨mo, hmo, hl⟩ := I2.loc;have hkv := qj hfree hm rfl;have vis : Vis X.env.scope x := hkv.elim (fun z => .inr (.inl z)) fun z => .inr (.inr z)
        obtain ⟨u, r, l⟩ := hl _ x v (k2 q) e2 vis;refine ⟨u, r, .inr ⟨?_, ?_⟩⟩
        . show (relabel scope X.env).names.lookup x = some .cell \/ (relabel scope X.env).names.lookup x = some .free
          rw [e0, q];simp only [Yv, Option.some.injEq]
          split
          . exact .inl rfl
          . exact .inr rfl
        . rcases l with ⟨kl, _⟩ | ⟨_, c, ec, z⟩
          . exfalso
            rcases hkv with z | z <;> (rw [kl] at z; cases z)
          . obtain ⟨c', ec'⟩ := hcl2 _ hm rfl
            have := hcl1 _ _ ec';rw [ec] at this;cases this;obtain ⟨o, ho, hd⟩ := z;exact ⟨c, ec', o, old _ _ ho, hd⟩
  . obtain ⟨v, o, ho, hd⟩ := I2.cell x c (hcl1 x c e)
    exact ⟨v, o, old _ _ ho, hd⟩
  . exact I2.hok.fresh hC
  . have e : p = (D, lobj []) := by simpa using hp
    subst e;refine ⟨hacc, I2.hok.fresh hD, hDC, fun z => ?_, fun v z => by cases z⟩
    rcases ZK.mp (I2.stkSub D z) with z | z
    . exact absurd (Zh I2.lt (by rw [<- z]; exact hD)) (ZJ _)
    . exact I2.nofs hD z
  . show (List.replicate ts.length none ++ σ).length = (ts ++ N2).length
    rw [Zo, Zo, ZI, I2.len, hlN hout]
theorem dy (I2 : Inv X pins σ H2 s₂) (f2 : ∀ b ∈ fp, FpOk X pins H2 b) (hD : s₂.heap.objs.size <= D) {σ' : St} {H' : Hp} {s' : Shared} {its : List Value} {ys : List V} {pl : List (Addr × Obj)}
    (J : Inv (zt X scope (ts ++ N2) ⟨cl, C, s₂, H2, fp⟩) pl σ' H' s') (hp : s'.heap.get? D = some (lobj its)) (hn : H' D = none) (hv : Vals ys its) (hz : ys.length <= sizeLine) : Inv X pins σ (upd H' D (.lst ys)) s' := by
  have neD : ∀ b o, s₂.heap.get? b = some o -> b ≠ D := fun b o e => Zs (Zh (Heap.lt_size e) hD)
  have neH : ∀ b o, H2 b = some o -> b ≠ D := fun b o e => Zs (Zh (I2.hok.lt e) hD)
  have u := J.base
  have un : Un (frs X.stack) fp H2 (upd H' D (.lst ys)) s₂.heap s'.heap :=
    ⟨u.keep, u.slot, fun b o e n hx => by rw [zp (neD b o e)]; exact u.free b o e n hx, u.there, fun b xs e => by rw [zp (neH b _ e)]; exact u.tups b xs e, fun b o v e => by rw [zp (neH b _ e)]; exact u.frzs b o v e,
      fun b ps e => by rw [zp (neH b _ e)]; exact u.tbls b ps e⟩
  have hok : HOk X.prog X.w (upd H' D (.lst ys)) s'.heap := fun b o e => by
    by_cases hb : b = D
    . subst hb
      rw [zf] at e;cases e;exact ⟨hz, its, its.length, hv, hp⟩
    . rw [zp hb] at e
      exact (J.hok b o e).stay (fun c v _ q => q) (fun c q => by rw [zp (xk q hn)]; exact q) fun c xs q => by rw [zp (xk q hn)]; exact q
  exact I2.call' (ch := fp) J.os un hok J.bare fun b hb => by
    obtain ⟨f0, f1, f3, f4, f5, f6⟩ := f2 b hb;exact ⟨f4, f1, f5, f6⟩
theorem jy {E : Value -> Shared -> Prop} {tg elt iter : Expr} {ifs : List Expr} {pos : Pos} {it : Addr} {tn : Nat -> Heap -> Prop} {J : It} {g : Dyn -> TG} {tt : Dyn -> TT} {te : Dyn -> TE} {RR : Value -> Addr -> Result -> Shared -> Prop} {Fin : List V -> Hp -> Prop}
    (I2 : Inv X pins σ H2 s₂) (hc : X.calm = true) (T : Turn X.prog X.w X.K tg J fp it tn) (st : tn 0 s₂.heap) (f2 : ∀ b ∈ fp, FpOk X pins H2 b) (hkind : scope.kind = .function) (hown : rz scope.names = true) (hfree : rg scope.names X.env = true) (hout : vg scope.names N2 X.N = true)
    (hcl1 : ∀ x c, cl.lookup x = some c -> X.env.cells.lookup x = some c) (hcl2 : ∀ y ∈ scope.names, y.2 = .free -> ∃ c, cl.lookup y.1 = some c)
    (hg : ∀ d, PG (zt X scope (ts ++ N2) d) tg (g d)) (ht : ∀ d, PTs (zt X scope (ts ++ N2) d) ifs (tt d)) (he : ∀ d, PE (zt X scope (ts ++ N2) d) elt (te d))
    (hW : ∀ d, sm J σ ts.length (g d) (tt d) (te d) H2 Fin)
    (hRR : ∀ D C s' H' ys, s₂.heap.objs.size <= C -> C ≠ D -> Inv X pins σ (upd H' D (.lst ys)) s' -> H' D = none -> H' C = none -> (∃ m, s'.heap.Ns C m) -> ys.length <= sizeLine -> Fin ys H' -> RR (.ref D) C (.ok .next) s') :
    wpAny (model X.prog X.w) X.A (newList []) (fun acc s₃ => wpAny (model X.prog X.w) X.A (newFunctionEnv scope X.env.globals cl [] X.env.qual none .none (some X.env)) (fun cenv s₄ =>
      codeAny (model X.prog X.w) X.A (.compStart (.ListComp elt [⟨tg, iter, ifs, 0⟩] scope pos) 0 (.ref it) acc { cenv with scope := relabel scope X.env }) (RR acc cenv.locals) s₄) E s₃) E s₂ := by
  refine wpAny_newObj_type (wpAny_newFunctionEnv (nj hown) (by intro y hy; simp at hy) (fun h₁ hns₁ hsb₁ => ?_) hkind);dsimp only at hns₁ hsb₁ ⊢;generalize hH2 : s₂.heap.push { cls := .type "list", dict := none, data := .seq ([] : List Value).toArray } = HP at hns₁ hsb₁ ⊢;have hC : HP.objs.size = s₂.heap.objs.size + 1 := by rw [<- hH2, Heap.size_push]
  have hDC : s₂.heap.objs.size ≠ HP.objs.size := by rw [hC]; exact Zs (Yp _)
  have hCle : s₂.heap.objs.size <= HP.objs.size := by rw [hC]; exact YA _
  have below : ∀ b, b < s₂.heap.objs.size -> b ≠ HP.objs.size /\ b ≠ s₂.heap.objs.size := fun b hb => ⟨by rw [hC]; exact Zs (Ym hb), Zs hb⟩
  have old : ∀ b o, s₂.heap.get? b = some o -> h₁.get? b = some o := fun b o e => hsb₁.extBut b o (below b (Heap.lt_size e)).1 (Heap.get?_push_of_some _ (hH2 ▸ Heap.get?_push_of_some _ e))
  have hacc : h₁.get? s₂.heap.objs.size = some (lobj []) := hsb₁.extBut _ _ hDC (Heap.get?_push_of_some _ (hH2 ▸ Heap.get?_push_size _ rfl))
  have flt : ∀ b ∈ fp, b < s₂.heap.objs.size := fun b hb => by
    obtain ⟨o, e, _⟩ := T.obj _ _ st b hb;exact Heap.lt_size e
  generalize hDD : s₂.heap.objs.size = D at *;generalize hCC : HP.objs.size = C at *;have hDle : s₂.heap.objs.size <= D := YG hDD;have I4 := fun (tk : Nat) => j3 (ts := ts) (D := D) (C := C) (tk := tk) I2 hc (fun b hb => ⟨f2 b hb, by rw [hDD]; exact flt b hb⟩) hkind hown hfree hout hcl1 hcl2 (by rw [hDD]; exact hCle) hDC hDle hns₁ old hacc
  generalize hd : (⟨cl, C, s₂, H2, fp⟩ : Dyn) = d at *;obtain ⟨W, ⟨m0, w0⟩, turn⟩ := hW d
  have Xs : ∀ {pl : List (Addr × Obj)} {H' : Hp}, (∀ b ∈ fp, H' b = none) -> (∀ p ∈ pl, p.1 = D) -> ∀ b ∈ fp, FpOk (zt X scope (ts ++ N2) d) pl H' b := fun {pl H'} hn hp b hb => by
    subst hd;obtain ⟨f0, f1, f3, f4, f5, f6⟩ := f2 b hb;refine ⟨hn b hb, (below b (flt b hb)).1, fun z => ?_, .inl hb, fun x c e => f5 x c (hcl1 x c e), fun p hp' => ?_⟩
    . rcases ZK.mp (I2.stkSub b z) with z | z
      . exact f1 z
      . exact f3 z
    . rw [hp p (by simpa using hp')]
      exact Ne.symm (below b (flt b hb)).2
  have loop : ∀ s₃ : Shared, s₃ = { s₂ with heap := h₁, toks := s₂.toks + ([] : List (Str × Value)).length } ->
      codeAny (model X.prog X.w) X.A (.compLoop (.ListComp elt [⟨tg, iter, ifs, 0⟩] scope pos) 0 (.ref it) (.ref D) (compEnvC scope cl C X.env)) (RR (.ref D) C) s₃ := by
    rintro s₃ rfl
    refine cz (fun n s' => ∃ i ys H' its, Inv (zt X scope (ts ++ N2) d) [(D, lobj its)] (List.replicate ts.length none ++ σ) H' s' /\ tn i s'.heap /\ (∀ b ∈ fp, H' b = none) /\ Vals ys its /\ W i n ys H') ?_ m0
      ⟨0, [], H2, [], I4 _, T.keep _ _ _ st fun b _ o e => old b o e, fun b hb => (f2 b hb).1, .nil, w0⟩
    rintro n s3 ⟨i, ys, H3, its, I3, st3, fr3, hv3, w3⟩
    obtain ⟨hlen, tr⟩ := turn i n ys H3 w3
    have one : ∀ p ∈ [(D, lobj its)], p.1 = D := fun p hp => by
      have e : p = (D, lobj its) := by simpa using hp
      rw [e]
    have eenv : (zt X scope (ts ++ N2) d).env = compEnvC scope cl C X.env := by subst hd; rfl
    rcases tr with ⟨stop, fin⟩ | ⟨go, N, hN, step⟩
    . refine thn (T.done (zt X scope (ts ++ N2) d) rfl rfl rfl rfl i _ s3 _ H3 (fun _ _ => False) I3 (Xs fr3 one) st3 stop) fun r s4 ⟨hr, J4⟩ => ?_
      subst hr
      show RR (.ref D) C (.ok .next) s4
      obtain ⟨pe, pn, _⟩ := J4.pin (D, lobj its) (by simp);have fC : H3 C = none := by have := J4.free; rw [eenv] at this; exact this
      have nC : ∃ m, s4.heap.Ns C m := by
        obtain ⟨m, z, _⟩ := J4.loc;rw [eenv] at z;exact ⟨m, z⟩
      subst hd;exact hRR D C s4 H3 ys hCle (Ne.symm hDC) (dy I2 f2 hDle J4 pe pn hv3 hlen) pn fC nC hlen fin
    . refine thn (T.item (zt X scope (ts ++ N2) d) rfl rfl rfl rfl i _ s3 _ H3 (fun _ _ => False) I3 (Xs fr3 one) st3 go) fun r s4 ⟨u, hr, h4⟩ => ?_
      subst hr;refine thn h4 fun _ s5 ⟨x, H5, I5, r5, y5, st5, fr5⟩ => ?_
      have I5' := I5.pinned (Xs fr5 one) (T.obj _ _ st5);rw [<- eenv];refine thn (hg d _ s5 _ H5 x u _ I5' r5 (step x H5 y5)) fun _ s6 ⟨σ6, H6, I6, hdrop, q6⟩ => ?_
      have back : ∀ {ys' : List V} {its' : List Value} {H' : Hp} {s' : Shared} {pl : List (Addr × Obj)}, Inv (zt X scope (ts ++ N2) d) ([(D, lobj its')] ++ pl) σ6 H' s' -> Inv (zt X scope (ts ++ N2) d) [(D, lobj its')] (List.replicate ts.length none ++ σ) H' s' := fun {ys' its' H' s' pl} I' => by
        have hl : σ6.length = (ts ++ N2).length := I'.len;refine (I'.pins_of (pins' := [(D, lobj its')]) fun p hp => I'.pin p (Zu _ (ZX _ hp))).weak ?_ ?_
        . rw [hl]; exact I3.len
        . intro j v e
          by_cases hj : j < ts.length
          . rw [Zg (by simpa using hj), Yb] at e
            split at e <;> cases e
          . have hj' : ts.length <= j := ZD.mp hj
            rw [Zf (by simpa using hj'), ZI, <- hdrop, YB] at e;rw [show ts.length + (j - ts.length) = j by omega] at e;exact e
      refine thn (ht d _ s6 σ6 H6 _ I6 q6) fun b s7 ⟨H7, I7, q7⟩ => ?_
      have pinsOf : ∀ {its' : List Value} {H' : Hp} {s' : Shared}, Inv (zt X scope (ts ++ N2) d) ([(D, lobj its')] ++ oh fp s5.heap) σ6 H' s' -> (∀ b ∈ fp, ∀ o, s5.heap.get? b = some o -> s'.heap.get? b = some o) /\ ∀ b ∈ fp, H' b = none := fun {its' H' s'} I' => by
        refine ⟨fun b hb o e => (I'.pin (b, o) (Zu _ (Zu _ (v0 hb e)))).1, fun b hb => ?_⟩;obtain ⟨o, e, _⟩ := T.obj _ _ st5 b hb;exact (I'.pin (b, o) (Zu _ (Zu _ (v0 hb e)))).2.1
      cases b with
      | false =>
        have q7' : N ys H7 := by simpa using q7
        obtain ⟨m', hm, w7⟩ := hN _ _ q7';obtain ⟨k1, k2⟩ := pinsOf I7
        show ∃ m, m < n /\ _
        exact ⟨m', hm, i + 1, ys, H7, its, back (ys' := ys) I7, T.keep _ _ _ st5 k1, k2, hv3, w7⟩
      | true =>
        have q7' : te d σ6 H7 fun v H4 => N (ys ++ [v]) H4 := by simpa using q7
        show wpAny _ _ _ _ _ _
        refine thn (he d _ s7 σ6 H7 _ I7 q7') fun y s8 ⟨v, H8, I8, r8, n8⟩ => ?_
        obtain ⟨m', hm, w8⟩ := hN _ _ n8;obtain ⟨k1, k2⟩ := pinsOf I8;obtain ⟨pe, pn, pC, pf, pd⟩ := I8.pin (D, lobj its) (by simp);have hsz : its.toArray.size <= sizeLine := by rw [Zr, <- hv3.length]; exact hlen
        refine append_at (hsz := hsz) pe fun h9 sb9 e9 => ?_
        have J8 : Inv (zt X scope (ts ++ N2) d) [] σ6 H8 s8 := I8.pins_of fun p hp => nomatch hp
        have hDs : (zt X scope (ts ++ N2) d).s₀.heap.objs.size <= D := by subst hd; exact hDle
        have J9 : Inv (zt X scope (ts ++ N2) d) [] σ6 H8 { s8 with heap := h9 } := J8.turned (t' := s8.toks) (it := D) (fun b o hb e => sb9.extBut b o hb e) pn pC (.inr hDs)
          (fun x c e => by
            obtain ⟨v', z⟩ := I3.cell x c e;subst hd;obtain ⟨v2, z2⟩ := I2.cell x c (hcl1 x c e)
            exact Zs (Zh z2.lt hDle)) (fun p hp => nomatch hp)
        have e9' : h9.get? D = some (lobj (its ++ [y])) := by
          rw [e9]
          show some ({ cls := .type "list", data := .seq (its.toArray.push y) (its.length + 1) } : Obj) = some { cls := .type "list", data := .seq (its ++ [y]).toArray (its ++ [y]).length }
          rw [Zo, Yh, List.push_toArray]
        have J9' : Inv (zt X scope (ts ++ N2) d) ([(D, lobj (its ++ [y]))] ++ []) σ6 H8 { s8 with heap := h9 } := J9.pins_of fun p hp => by
          have e : p = (D, lobj (its ++ [y])) := by simpa using hp
          subst e;exact ⟨e9', pn, pC, pf, fun v z => by cases z⟩
        refine ⟨m', hm, i + 1, ys ++ [v], H8, its ++ [y], back (ys' := ys) J9', ?_, k2, hv3.append (.cons r8 .nil), w8⟩;exact T.keep _ _ _ st5 fun b hb o e => sb9.extBut b o (below b (flt b hb)).2 (k1 b hb o e)
  exact codeAny_compStart_list (loop _ rfl) (T.self _ 0 _ _ _ (T.keep _ _ _ st fun b _ o e => old b o e) (loop _ rfl))
end
def fc (k : Nat) (wi : TI) (g : Dyn -> TG) (tt : Dyn -> TT) (te : Dyn -> TE) : TE := fun σ H Q => wi σ H fun J H1 => ∀ d : Dyn, sm J σ k (g d) (tt d) (te d) H1 fun ys H' => ∀ l, H' l = none -> Q (.ref l) (upd H' l (.lst ys))
theorem yl {X : Cx} {tg elt iter : Expr} {ifs : List Expr} {scope : Scope} {pos : Pos} (ts N2 : List Str) {wi : TI} {g : Dyn -> TG} {tt : Dyn -> TT} {te : Dyn -> TE} (hc : X.calm = true) (hi : PI X tg iter wi)
    (hg : ∀ d, PG (zt X scope (ts ++ N2) d) tg (g d)) (ht : ∀ d, PTs (zt X scope (ts ++ N2) d) ifs (tt d)) (he : ∀ d, PE (zt X scope (ts ++ N2) d) elt (te d))
    (hkind : scope.kind = .function) (hown : rz scope.names = true) (hfree : rg scope.names X.env = true) (hout : vg scope.names N2 X.N = true)
    (hs : ∀ x, foldedSetIterable iter X.env x = pure x := by intro _; rfl) : PE X (.ListComp elt [⟨tg, iter, ifs, 0⟩] scope pos) (fc ts.length wi g tt te) := by
  intro pins s σ H Q I h;obtain ⟨cl, hclos, hcl1, hcl2⟩ := nk (scope := scope) (env := X.env) fun y hy hf => I.ok.has y.1 (qj hfree hy hf)
  rw [eval_ListComp];refine wpAny_comprehension_free (use := none) rfl hs hclos hkind (oa hown) (thn (hi pins s σ H _ I h) fun v s1 h1 => thn h1 fun itv s2 h2 => ?_);obtain ⟨it, fp, tn, J, H2, e, I2, T, st2, f2, hW⟩ := h2;subst e;refine jy (RR := fun acc C => compPost (model X.prog X.w) X.A X.xe none (EP X pins σ Q) acc C) I2 hc T st2 f2 hkind hown hfree hout hcl1 hcl2 hg ht he hW ?_;intro D C s' H' ys hC hCD I' hD hCn hNs hl fin;obtain ⟨m, hm⟩ := hNs;refine ⟨m, hm, fun h' sb => ?_⟩
  have I'' : Inv X pins σ (upd H' D (.lst ys)) { s' with heap := h' } := by
    refine I'.turned (t' := s'.toks) (it := C) (fun b o hb e => sb.extBut b o hb e) (by rw [zp hCD]; exact hCn) (ZT (Zh I2.lt hC)) (.inr (Zd I2.sz hC)) (fun x c e => ?_) fun p hp => ?_
    . obtain ⟨v, q⟩ := I2.cell x c e
      exact Zs (Zh q.lt hC)
    . exact Zs (Zh (Heap.lt_size (I2.pin p hp).1) hC)
  exact ⟨.ref D, _, I'', rfl, fin D hD⟩
def tSetC (i : Nat) (te : TE) : TS := fun D σ H => te σ H fun x H1 => D.nx (σ.set i (some x)) H1
theorem il {X : Cx} {tg elt iter : Expr} {ifs : List Expr} {scope : Scope} {pos spos py : Pos} {i : Nat} {y : Str} (ts N2 : List Str) {wi : TI} {g : Dyn -> TG} {tt : Dyn -> TT} {te : Dyn -> TE} (hN : X.N.Nodup) (hi' : X.N[i]? = some y) (hy : X.env.scope.names.lookup y = some .local) (hc : X.calm = true) (hi : PI X tg iter wi)
    (hg : ∀ d, PG (zt X scope (ts ++ N2) d) tg (g d)) (ht : ∀ d, PTs (zt X scope (ts ++ N2) d) ifs (tt d)) (he : ∀ d, PE (zt X scope (ts ++ N2) d) elt (te d))
    (hkind : scope.kind = .function) (hown : rz scope.names = true) (hfree : rg scope.names X.env = true) (hout : vg scope.names N2 X.N = true)
    (hsw : swapsWith (.ListComp elt [⟨tg, iter, ifs, 0⟩] scope pos) (some (.Name y py)) spos.line X.env = pure true)
    (hs : ∀ x, foldedSetIterable iter X.env x = pure x := by intro _; rfl) : PS X (.Assign [.Name y py] (.ListComp elt [⟨tg, iter, ifs, 0⟩] scope pos) spos) (tSetC i (fc ts.length wi g tt te)) := by
  intro pins s σ H D0 I h;obtain ⟨cl, hclos, hcl1, hcl2⟩ := nk (scope := scope) (env := X.env) fun z hz hf => I.ok.has z.1 (qj hfree hz hf)
  rw [exec_Assign_Name_used _ _ _ _ hsw];refine wpAny_bind (wpAny_standAt (wpAny_bind ?_))
  show wpAny _ X.A (do let _ <- comprehension (.ListComp elt [⟨tg, iter, ifs, 0⟩] scope pos) scope X.env _ (newList []) false (eval iter X.env) (some (assign (.Name y py) X.env))) _ _ s
  refine wpAny_bind (wpAny_mono (wpAny_comprehension_free (use := some (assign (.Name y py) X.env)) (Q := fun _ s' => SP X pins D0 .next s') rfl hs hclos hkind (oa hown)
    (thn (hi pins s σ H _ I h) fun v s1 h1 => thn h1 fun itv s2 h2 => ?_)) (fun _ s' hq => wpAny_pure (wpAny_pure hq)) fun _ _ e => e)
  obtain ⟨it, fp, tn, J, H2, e, I2, T, st2, f2, hW⟩ := h2;subst e;refine jy (RR := fun acc C => compPost (model X.prog X.w) X.A X.xe (some (assign (.Name y py) X.env)) (fun _ s' => SP X pins D0 .next s') acc C) I2 hc T st2 f2 hkind hown hfree hout hcl1 hcl2 hg ht he hW ?_;intro D C s' H' ys hC hCD I' hD hCn hNs hl fin;obtain ⟨m, hm⟩ := hNs
  show wpAny _ _ _ _ _ _
  have hcl : C ≠ X.env.locals := ZT (Zh I2.lt hC)
  have hcc : ∀ x c, X.env.cells.lookup x = some c -> c ≠ C := fun x c e => by
    obtain ⟨v, q⟩ := I2.cell x c e;exact Zs (Zh q.lt hC)
  refine wpAny_assign_Name (iq I' hN hi' (.inl hy) (v := .ref D) (u := .ref D) rfl (fun s'' I'' ⟨a, sb, ha⟩ => ?_) (.inr hy))
  have haC : C ≠ a := by
    rcases ha with z | z
    . rw [z]; exact hcl
    . exact Ne.symm (hcc y a z)
  refine ⟨m, hm.sameBut sb haC, fun h' sb' => ?_⟩
  have I3 : Inv X pins (σ.set i (some (.ref D))) (upd H' D (.lst ys)) { s'' with heap := h' } := by
    refine I''.turned (t' := s''.toks) (it := C) (fun b o hb e => sb'.extBut b o hb e) (by rw [zp hCD]; exact hCn) hcl (.inr (Zd I2.sz hC)) hcc fun p hp => ?_
    exact Zs (Zh (Heap.lt_size (I2.pin p hp).1) hC)
  exact ⟨_, _, I3, fin D hD⟩
section
variable {σ : St} {k : Nat} {g : TG} {tt : TT} {te : TE} {H1 : Hp} {Fin : List V -> Hp -> Prop}
theorem rn {lo : Int} {n : Nat} (Pv : Nat -> List V -> Hp -> Prop) (h0 : Pv 0 [] H1) (hz : ∀ i ys H, i <= n -> Pv i ys H -> ys.length <= sizeLine)
    (hs : ∀ i ys H, i < n -> Pv i ys H -> g (.int (lo + i)) (List.replicate k none ++ σ) H fun σ2 H2 => σ2.drop k = σ /\ tt σ2 H2 fun b H3 => if b = true then te σ2 H3 fun v H4 => Pv (i + 1) (ys ++ [v]) H4 else Pv (i + 1) ys H3)
    (hd : ∀ ys H, Pv n ys H -> Fin ys H) : sm (Itr lo n) σ k g tt te H1 Fin := by
  refine ⟨fun i m ys H => m = n - i /\ i <= n /\ Pv i ys H, ⟨n, by simp, ZE _, h0⟩, ?_⟩
  rintro i m ys H ⟨rfl, hi, p⟩
  refine ⟨hz i ys H hi p, ?_⟩
  by_cases hlt : i < n
  . refine .inr ⟨hlt, Pv (i + 1), fun ys' H' p' => ⟨n - (i + 1), by omega, rfl, hlt, p'⟩, fun x H' y => ?_⟩
    obtain ⟨e, y⟩ := y;subst e y;exact hs i ys _ hlt p
  . have e : i = n := by omega
    subst e;exact .inl ⟨Zm _, hd ys H p⟩
theorem yz {K : Fg} {a : Addr} {xs : List V} (Pv : Nat -> List V -> Hp -> Prop) (h0 : Pv 0 [] H1) (hz : ∀ i ys H, i <= xs.length -> Pv i ys H -> ys.length <= sizeLine /\ SqL K H a xs)
    (hs : ∀ i x ys H, xs[i]? = some x -> Pv i ys H -> g x (List.replicate k none ++ σ) H fun σ2 H2 => σ2.drop k = σ /\ tt σ2 H2 fun b H3 => if b = true then te σ2 H3 fun v H4 => Pv (i + 1) (ys ++ [v]) H4 else Pv (i + 1) ys H3)
    (hd : ∀ ys H, Pv xs.length ys H -> Fin ys H) : sm (Itl K a) σ k g tt te H1 Fin := by
  refine ⟨fun i m ys H => m = xs.length - i /\ i <= xs.length /\ Pv i ys H, ⟨xs.length, by simp, ZE _, h0⟩, ?_⟩
  rintro i m ys H ⟨rfl, hi, p⟩
  have q := (hz i ys H hi p).2;refine ⟨(hz i ys H hi p).1, ?_⟩
  by_cases hlt : i < xs.length
  . refine .inr ⟨⟨xs, xs[i], q, by simp [hlt]⟩, Pv (i + 1), fun ys' H' p' => ⟨xs.length - (i + 1), by omega, rfl, hlt, p'⟩, fun x H' y => ?_⟩
    obtain ⟨e, y⟩ := y;subst e;exact hs i x ys _ (y xs q) p
  . have e : i = xs.length := by omega
    subst e;exact .inl ⟨⟨xs, q, Zm _⟩, hd ys H p⟩
end
end L2
namespace L2
open PySem PySem.Spec PyProof.Rows
theorem dm {xs : List V} {us : List Value} (r : Vals xs us) {j : Nat} (h : j < us.length) : ∃ x, xs[j]? = some x /\ RelV x us[j] := by
  have hl := r.length;have hj : j < xs.length := by omega
  obtain ⟨u, hu, rx⟩ := r.get (i := j) (x := xs[j]) (by simp [hj]);refine ⟨xs[j], by simp [hj], ?_⟩;have : us[j]? = some us[j] := by simp [h]
  rw [this] at hu;cases hu;exact rx
section
variable {X : Cx} {pins : List (Addr × Obj)} {σ : St} {H : Hp} {s : Shared} {A : Around} {a b : Addr}
end
def GridL (K : Fg) (H : Hp) (a : Addr) (as : List Addr) (rows : List (List Int)) : Prop := SqL K H a (as.map V.ref) /\ as.length = rows.length /\ ∀ (i : Nat) (r : Addr) (ns : List Int), as[i]? = some r -> rows[i]? = some ns -> SqL K H r (ns.map V.int)
section
variable {X : Cx} {pins : List (Addr × Obj)} {σ : St} {H : Hp} {s : Shared} {A : Around} {a b : Addr}
end
def kit0 (T1 T2 : String) : Option Bool := if (Value.type T1 == Value.type T2) = true then some true else if PySem.W.kitMeta T2 = true then (fastBuiltinMro T1).map (·.contains (Value.type T2)) else none
theorem zcq (K : Fg) (T1 T2 : String) : PySem.W.kitOne K (.type T1) (.type T2) = kit0 T1 T2 := rfl
section
variable {X : Cx}
theorem xf : CallR X (.builtin "isinstance") (fun xs H Q => ∃ x T T1 b, xs = [x, .ty T] /\ TyOf X.K H x (.type T1) /\ kit0 T1 T = some b /\ Q (.bl b) H) := by
  intro pins s σ H xs us Q I r h;obtain ⟨x, T, T1, b, rfl, ty, e, q⟩ := h;obtain ⟨u, v, rfl, rx, ry⟩ := Vals.two r;cases ry;exact zay I rx ty ((zcq X.K T1 T).trans e) fun tk => ⟨.bl b, H, I.tok _, rfl, q⟩
theorem ul {x : Str} {T : String} {pos : Pos} (hg : Gl X x) (hm : X.mg x = none) (hv : bootBuiltins x = some (.type T)) (hn : x ≠ "__name__" := by decide) (hd : (x == ("__debug__" : Str)) = false := by decide) : PE X (.Name x pos) (tC (.ty T)) :=
  zdx hg hm hv rfl hn hd
end
theorem xm : bootBuiltins "len" = some (.builtin "len") := by decide +kernel
theorem yb : bootBuiltins "isinstance" = some (.builtin "isinstance") := by decide +kernel
theorem zck : bootBuiltins "max" = some (.builtin "max") := by decide +kernel
theorem sy : bootBuiltins "all" = some (.builtin "all") := by decide +kernel
theorem f8 : bootBuiltins "abs" = some (.builtin "abs") := by decide +kernel
theorem zch : bootBuiltins "int" = some (.type "int") := by decide +kernel
theorem b7 : bootBuiltins "bool" = some (.type "bool") := by decide +kernel
theorem vz : bootBuiltins "list" = some (.type "list") := by decide +kernel
theorem xx : bootBuiltins "tuple" = some (.type "tuple") := by decide +kernel
theorem bt_str : bootBuiltins "str" = some (.type "str") := by decide +kernel
theorem b9 : bootBuiltins "dict" = some (.type "dict") := by decide +kernel
theorem bt_set : bootBuiltins "set" = some (.type "set") := by decide +kernel
theorem zar : bootBuiltins "zip" = some (.type "zip") := by decide +kernel
structure ze (K : Fg) (mg : Str -> Option Value) (name : Str) (st : Stmt) (ps : List Str) : Prop where
  ex : ∃ f fd, mg name = some (.ref f) /\ Fun K name name st f fd /\ Binds K fd ps []
structure FnAt (P : Program) (w : World) (K : Fg) (mg : Str -> Option Value) (base : Heap) (name : Str) (k : Nat) (ps : List Str) (sp : Sp) : Prop where
  ex : ∃ f fd, mg name = some (.ref f) /\ PySem.W.keepIn K (.ref f) = true /\ Binds K fd ps [] /\ FnOk P w K mg base CX0 k f fd ps sp
theorem FnAt.of {P : Program} {w : World} {K : Fg} {mg : Str -> Option Value} {base : Heap} {name : Str} {st : Stmt} {N ps : List Str} {k : Nat} {sp : Sp} (D : ze K mg name st ps) (S : zq N ps (zk st)) (len : ∀ vs H Q E, sp vs H Q E -> vs.length = ps.length)
    (hbody : ∀ (f : Addr) (cdv : Value) (A : Around) (outer : List Env) (s : Shared) (H : Hp) (vs : List V) (Q : VK) (E : XK), Room k (A.deeper (envOfC name (zk st) s.heap.objs.size f cdv)) -> sp vs H Q E ->
      ∃ t, PSs (cxOf CX0 P w K mg base N name (zk st) f cdv A outer s H E).nox (y0 st) t /\ t { nx := fun _ H' => Q .non H', rt := Q } (start N vs) H) : FnAt P w K mg base name (k + 1) ps sp := by
  obtain ⟨f, fd, hm, F, hb⟩ := D.ex;exact ⟨f, fd, hm, F.kp, hb, F.ok S len (hbody f)⟩
theorem def_mk {K : Fg} {h : Heap} {mg : Str -> Option Value} (X : K.In h) (G : h.Ns mainGlobals mg) {name : Str} {st : Stmt} {f : Addr} {oc : Value} {od an : Option Addr} {osl : Array (Option Value)} {kV doc pm cdv ct : Value} {ps : List Str}
    (a : PySem.W.nsIn K mainGlobals name = some (some (.ref f))) (l : K.lookup f = some ⟨oc, od, .func (PySem.W.fnOf name name (uq st) (y0 st) (zk st) .none kV doc pm an cdv ct), osl⟩)
    (c : PySem.W.codeIn K cdv name = true) (k : PySem.W.keepIn K (.ref f) = true)
    (hb : ∀ (kV doc pm : Value) (an : Option Addr) (cdv ct : Value) (us : List Value), us.length = ps.length -> bindArgs (PySem.W.fnOf name name (uq st) (y0 st) (zk st) .none kV doc pm an cdv ct) ⟨us, []⟩ = pure (ps.zip us)) : ze K mg name st ps :=
  ⟨f, _, PySem.W.mg_of X G a, zbv l c k, (zbv (st := st) l c k).binds hb⟩
section
variable {X : Cx} {x : Str} {k : Nat} {ps : List Str} {sp : Sp} {p pos : Pos} {e : Expr} {es : List Expr} {t : TA}
theorem zg (F : FnAt X.prog X.w X.K X.mg X.base x k ps sp) (hr : Room k X.A) (hg : Gl X x) (ha : PA X (e :: es) t) (hdb : (x == ("__debug__" : Str)) = false := by decide) (he : starEach (e :: es) X.env = (false, eval e X.env) :: starEach es X.env := by rfl)
    (hpl : (backTo pos (starEach es X.env)).any (·.1) = false := by rfl) : PE X (.Call (.Name x p) (e :: es) [] pos) (g9 sp [] E0 t) := by
  obtain ⟨f, fd, hm, hk, hb, G⟩ := F.ex;exact af G hr hg hm hk hb .nil pass0 ha hdb he hpl
end
theorem cxK {CX : CXT} {P : Program} {w : World} {K : Fg} {mg : Str -> Option Value} {base : Heap} {N : List Str} {qual : Str} {scope : Scope} {f : Addr} {cd : Value} {A : Around} {outer : List Env} {s : Shared} {H : Hp} {E : XK} : (cxOf CX P w K mg base N qual scope f cd A outer s H E).K = K := rfl
section
variable {D : Ends} {σ : St} {H : Hp} {Q : VK} {QT : Bool -> Hp -> Prop} {QA : List V -> Hp -> Prop} {QS : St -> Hp -> Prop} {R : It -> Hp -> Prop} {a b c : TE} {s t : TS} {tt uu : TT} {ta tr : TA} {g : TG} {i : Nat} {v x y z : V} {r r' : R2} {wi : TI}
theorem e_var : tVar i σ H Q = ∃ v, σ[i]? = some (some v) /\ Q v H := rfl
theorem e_C : tC v σ H Q = Q v H := rfl
theorem e_op : tOp r a b σ H Q = a σ H fun x H1 => b σ H1 fun y H2 => r x y H2 Q := rfl
theorem e_un {u : V -> Hp -> VK -> Prop} : tUn u a σ H Q = a σ H fun x H1 => u x H1 Q := rfl
theorem e_rI {C : Int -> Int -> Prop} {f : Int -> Int -> V} : rI C f x y H Q = ∃ i j, x = .int i /\ y = .int j /\ C i j /\ Q (f i j) H := rfl
theorem e_rI0 {f : Int -> Int -> V} : rI0 f x y H Q = ∃ i j, x = .int i /\ y = .int j /\ Q (f i j) H := rfl
theorem e_rU {f : Int -> V} : rU f x H Q = ∃ i, x = .int i /\ Q (f i) H := rfl
theorem e_rEq : rEq x y H Q = (scal x y = true /\ Q (.bl (decide (x = y))) H) := rfl
theorem e_rNe : rNe x y H Q = (scal x y = true /\ Q (.bl (!decide (x = y))) H) := rfl
theorem e_ixL {K : Fg} : rIxL K x y H Q = ∃ p xs i v, x = .ref p /\ y = .int i /\ SqL K H p xs /\ atI xs i = some v /\ Q v H := rfl
theorem e_ixT {K : Fg} : rIxT K x y H Q = ∃ p xs i v, x = .ref p /\ y = .int i /\ SqT K H p xs /\ atI xs i = some v /\ Q v H := rfl
theorem e_set {o i v : V} {Q : Hp -> Prop} : rSetL o i v H Q = ∃ p xs k j, o = .ref p /\ i = .int k /\ H p = some (.lst xs) /\ ixN xs.length k = some j /\ Q (upd H p (.lst (xs.set j v))) := rfl
theorem e_cat : rCat x y H Q = ∃ l b xs zs, x = .ref l /\ y = .ref b /\ H l = some (.lst xs) /\ H b = some (.lst zs) /\ xs.length + zs.length <= sizeLine /\ ∀ p, H p = none -> Q (.ref p) (upd H p (.lst (xs ++ zs))) := rfl
theorem e_test : zah a σ H QT = a σ H fun x H' => ∃ k, x = .bl k /\ QT k H' := rfl
theorem e_B : tB a σ H QT = a σ H fun x H1 => ∃ c, x = .bl c /\ QT c H1 := rfl
theorem e_and : tAnd tt uu σ H QT = tt σ H fun c H1 => if c = true then uu σ H1 QT else QT false H1 := rfl
theorem e_or : tOr tt uu σ H QT = tt σ H fun c H1 => if c = true then QT true H1 else uu σ H1 QT := rfl
theorem e_not : tNot tt σ H QT = tt σ H fun c H1 => QT (!c) H1 := rfl
theorem e_andV : tAndV a b σ H Q = a σ H fun x H1 => ∃ c, x = .bl c /\ if c = true then b σ H1 Q else Q (.bl false) H1 := rfl
theorem e_orV : tOrV a b σ H Q = a σ H fun x H1 => ∃ c, x = .bl c /\ if c = true then Q (.bl true) H1 else b σ H1 Q := rfl
theorem e_notV : tNotV a σ H Q = a σ H fun x H1 => ∃ c, x = .bl c /\ Q (.bl (!c)) H1 := rfl
theorem e_ifE : tIf tt a b σ H Q = tt σ H fun c H1 => if c = true then a σ H1 Q else b σ H1 Q := rfl
theorem e_all : tAll σ H QT = QT true H := rfl
theorem e_next : tNext D σ H = D.nx σ H := rfl
theorem e_seq : tSeq s t D σ H = s { D with nx := t D } σ H := rfl
theorem e_brk : tBreak D σ H = D.bk σ H := rfl
theorem e_cnt : tCont D σ H = D.ct σ H := rfl
theorem e_drop : tDrop a D σ H = a σ H fun _ H1 => D.nx σ H1 := rfl
theorem e_ret : tRet a D σ H = a σ H D.rt := rfl
theorem e_retN : tRetN D σ H = D.rt .non H := rfl
theorem e_ifS : tIfS tt s t D σ H = tt σ H fun b H1 => if b = true then s D σ H1 else t D σ H1 := rfl
theorem e_asg : tAsg a g D σ H = a σ H fun x H1 => g x σ H1 D.nx := rfl
theorem zej : ak i v σ H QS = QS (σ.set i (some v)) H := rfl
theorem e_setC : tSetC i a D σ H = a σ H fun x H1 => D.nx (σ.set i (some x)) H1 := rfl
theorem e_augS {tget : V -> V -> Hp -> VK -> Prop} {tip : TIp} {tset : TSet} : tAugS a b c tget tip tset D σ H = a σ H fun o H1 => b σ H1 fun i H2 => tget o i H2 fun x H3 => c σ H3 fun y H4 => tip x y H4 fun z H5 => tset o i z H5 fun H6 => D.nx σ H6 := rfl
theorem e_ipI {f : Int -> Int -> Int} : ipI f x y H Q = ∃ i j, x = .int i /\ y = .int j /\ Q (.int (f i j)) H := rfl
theorem e_nil : tNil σ H QA = QA [] H := rfl
theorem e_cons : tCons a ta σ H QA = a σ H fun x H1 => ta σ H1 fun xs H2 => QA (x :: xs) H2 := rfl
theorem e_tup : tTup ta σ H Q = ta σ H fun xs H1 => xs.length <= sizeLine /\ ∀ p, H1 p = none -> Q (.ref p) (upd H1 p (.tup xs)) := rfl
theorem e_lst : tLst ta σ H Q = ta σ H fun xs H1 => xs.length <= sizeLine /\ ∀ p, H1 p = none -> Q (.ref p) (upd H1 p (.lst xs)) := rfl
theorem e_call {sp : Sp} {E : XK} : g9 sp [] E ta σ H Q = ta σ H fun vs H1 => sp (vs ++ []) H1 Q E := rfl
theorem e_CB {u : List V -> Hp -> VK -> Prop} : tCB u ta σ H Q = ta σ H fun vs H1 => u vs H1 Q := rfl
theorem e_BM {K : Fg} {T : String} {u : V -> List V -> Hp -> VK -> Prop} : tBM K T u a ta σ H Q = a σ H fun x H1 => tyV K T x H1 /\ ta σ H1 fun xs H2 => u x xs H2 Q := rfl
theorem e_app {vs : List V} : bu x vs H Q = ∃ l xs y, x = .ref l /\ vs = [y] /\ H l = some (.lst xs) /\ xs.length < sizeLine /\ Q .non (upd H l (.lst (xs ++ [y]))) := rfl
theorem e_rng1 : iRng1 ta σ H R = ta σ H fun vs H1 => ∃ j : Int, vs = [.int j] /\ -(2 ^ 62) <= j /\ j < 2 ^ 62 /\ R (Itr 0 j.toNat) H1 := rfl
theorem e_rng2 : iRng2 ta σ H R = ta σ H fun vs H1 => ∃ i j : Int, vs = [.int i, .int j] /\ (-(2 ^ 62) <= i /\ i < 2 ^ 62 /\ -(2 ^ 62) <= j /\ j < 2 ^ 62) /\ R (Itr i (j - i).toNat) H1 := rfl
theorem e_iL {K : Fg} : iList K a σ H R = a σ H fun x H1 => ∃ p, x = .ref p /\ (∃ xs, SqL K H1 p xs) /\ R (Itl K p) H1 := rfl
def ForW (J : It) (g : TG) (tb : TS) (D : Ends) (σ : St) (H1 : Hp) : Prop := ∃ W : Nat -> Nat -> St -> Hp -> Prop, (∃ m, W 0 m σ H1) /\ ∀ i m σ H, W i m σ H ->
  (J.stop i H /\ D.nx σ H) \/ (J.go i H /\ ∃ N : St -> Hp -> Prop, (∀ σ' H', N σ' H' -> ∃ m', m' < m /\ W (i + 1) m' σ' H') /\ ∀ x H', J.yld i H x H' -> g x σ H' fun σ2 H2 => tb { D with nx := N, ct := N, bk := D.nx } σ2 H2)
theorem e_for : tFor wi g t D σ H = wi σ H fun J H1 => ForW J g t D σ H1 := rfl
theorem e_comp {k : Nat} {g : Dyn -> TG} {tt : Dyn -> TT} {te : Dyn -> TE} : fc k wi g tt te σ H Q = wi σ H fun J H1 => ∀ d : Dyn, sm J σ k (g d) (tt d) (te d) H1 fun ys H' => ∀ l, H' l = none -> Q (.ref l) (upd H' l (.lst ys)) := rfl
end
end L2
namespace L2
open PySem PySem.Spec PyProof.Rows
section
variable {X : Cx}
theorem wx (hc : X.calm = true) : CallR X (.builtin "all") (fun xs H Q => ∃ (p : Addr) (bs : List Bool), xs = [.ref p] /\ SqL X.K H p (bs.map V.bl) /\ Q (.bl (bs.all id)) H) := by
  intro pins s σ H xs us Q I r h;obtain ⟨p, bs, rfl, hq, q⟩ := h;obtain ⟨u, rfl, rx⟩ := Vals.one r;cases rx;obtain ⟨its, rv, pl, hz⟩ := I.list hq;have hlt : p < s.heap.objs.size := by obtain ⟨_, e, _⟩ := pl.isList; exact Heap.lt_size e
  have hlen : its.length = bs.length := by have := rv.length; rw [Za] at this; exact this.symm
  refine call_all_walk (wpAny_pyIter_list pl.isList ?_)
  refine ⟨s.heap.objs.size, [s.heap.objs.size, p], [s.heap.objs.size], its.toArray.size, _, _, fun i => (bs[i]?).getD true, rfl, Walks.list (A := X.A.in1) (I.ok.hd hc) _ p (Zs hlt) its.toArray,
    ⟨⟨_, Heap.get?_push_size _ rfl, rfl, rfl⟩, pl.isList.push _⟩, fun i v s' Q' E' hP hQ => ?_, fun h' tk hk => ?_⟩
  . have hi : its[i]? = some v := by simpa using hP
    have hil : i < bs.length := by rw [<- hlen]; exact (Zc.mp hi).1
    have e : bs[i]? = some bs[i] := by simp [hil]
    obtain ⟨u, hu, ru⟩ := rv.get (i := i) (x := V.bl bs[i]) (by rw [Ze, e]; rfl);rw [hi] at hu;cases hu;cases ru;simp only [e, Option.getD_some] at hQ;exact wpAny_truthy_bool hQ
  . have e : ((List.range its.toArray.size).all fun i => (bs[i]?).getD true) = bs.all id := by
      rw [Zr, hlen];rw [Bool.eq_iff_iff, ZL, ZL]
      constructor
      . intro z b hb
        obtain ⟨i, hi, rfl⟩ := Zy hb;have := z i (ZP.mpr hi)
        simpa [Zb hi] using this
      . intro z i hi
        have hi' := ZP.mp hi;simp only [Zb hi', Option.getD_some];exact z _ (Zl hi')
    rw [e];exact ⟨.bl (bs.all id), H, I.kept fun b x e => hk b x (fun hm => by rw [ZC.mp hm] at e; exact ZJ _ (Heap.lt_size e)) (Heap.get?_push_of_some _ e), rfl, q⟩
end
def Itz (K : Fg) (a b : Addr) : It :=
  ⟨fun i H => ∃ xs ys x y, SqL K H a xs /\ SqL K H b ys /\ xs[i]? = some x /\ ys[i]? = some y,
   fun i H v H' => ∃ T x y, v = .ref T /\ H T = none /\ H' = upd H T (.tup [x, y]) /\ ∀ xs ys, SqL K H a xs -> SqL K H b ys -> xs[i]? = some x /\ ys[i]? = some y,
   fun i H => ∃ xs ys, SqL K H a xs /\ SqL K H b ys /\ (xs.length <= i \/ ys.length <= i)⟩
structure ft (z TI TO i1 i2 : Addr) : Prop where
  TIz : TI ≠ z
  TOz : TO ≠ z
  i1z : i1 ≠ z
  i2z : i2 ≠ z
  TITO : TI ≠ TO
  TIi1 : TI ≠ i1
  TIi2 : TI ≠ i2
  TOi1 : TO ≠ i1
  TOi2 : TO ≠ i2
  i12 : i1 ≠ i2
def tnZip (z TI TO i1 i2 l1 l2 : Addr) (i : Nat) (h : Heap) : Prop := IsZip h z TI TO .none /\ IsPair h TI (.ref i1) (.ref i2) /\ (∃ a b, IsPair h TO a b) /\ h.IsListIter i1 l1 i /\ h.IsListIter i2 l2 i
theorem i3 {z TI TO i1 i2 l1 l2 : Addr} {i : Nat} {h : Heap} {xs ys : Array Value} (D : ft z TI TO i1 i2) (t : tnZip z TI TO i1 i2 l1 l2 i h) (h1 : h.IsList l1 xs) (h2 : h.IsList l2 ys) : ZipApart z TI TO i1 i2 l1 l2 := by
  obtain ⟨hz, hTI, ⟨a, b, hTO⟩, k1, k2⟩ := t
  have n1 : ∀ {l : Addr} {ws : Array Value}, h.IsList l ws -> l ≠ z := fun {l ws} q e => by
    obtain ⟨o, e1, c, _⟩ := q;subst e;rw [hz] at e1; cases e1; simp at c
  have n2 : ∀ {l : Addr} {ws : Array Value}, h.IsList l ws -> l ≠ TO := fun {l ws} q e => by
    obtain ⟨o, e1, c, _⟩ := q;subst e;rw [hTO] at e1; cases e1; simp at c
  have n3 : ∀ {l j l' : Addr} {k : Nat} {ws : Array Value}, h.IsListIter j l' k -> h.IsList l ws -> l ≠ j := fun {l j l' k ws} k1 q e => by
    obtain ⟨o, e1, c, _⟩ := q;obtain ⟨o', e1', c', _⟩ := k1;subst e;rw [e1'] at e1; cases e1; rw [c'] at c; simp at c
  exact ⟨D.TIz, D.TOz, D.i1z, D.i2z, D.TITO, D.TIi1, D.TIi2, D.TOi1, D.TOi2, D.i12, n1 h1, n2 h1, n3 k1 h1, n3 k2 h1, n1 h2, n2 h2, n3 k1 h2, n3 k2 h2⟩
theorem Inv.turnedLaid {X : Cx} {pins : List (Addr × Obj)} {σ : St} {H : Hp} {s : Shared} {h' : Heap} {t' : Nat} {ch : List Addr} {T : Addr} {o : HO} (I : Inv X pins σ H s) (hf : ∀ b ∈ ch, FpOk X pins H b)
    (k : ∀ b o, b ∉ ch -> s.heap.get? b = some o -> h'.get? b = some o) (hT : s.heap.objs.size <= T) (new : ObjOk X.prog X.w (upd H T o) h' T o) : Inv X pins σ (upd H T o) { s with heap := h', toks := t' } := by
  have nch : ∀ b u, H b = some u -> b ∉ ch := fun b u e z => by rw [(hf b z).1] at e; cases e
  have nT : ∀ b u, H b = some u -> b ≠ T := fun b u e => Zs (Zh (I.hok.lt e) hT)
  have nT' : ∀ b u, s.heap.get? b = some u -> b ≠ T := fun b u e => Zs (Zh (Heap.lt_size e) hT)
  refine I.step (g' := s.gens) (d' := s.drawn) (ch := ch) (fun b hb => ?_) (fun b o _ _ hc e _ => k b o hc e) (fun b o _ _ hc e _ => ⟨o.slots, k b o hc e⟩) (fun b o _ e n => by rw [zp (nT' b o e)]; exact n)
    (fun b o hc e => ⟨o, k b o hc e⟩) (fun b xs e => by rw [zp (nT b _ e)]; exact e) (fun b ob u e => by rw [zp (nT b _ e)]; exact e) (fun b ps e => ⟨#[], by rw [zp (nT b _ e), e]; simp⟩) (fun m hm => ?_) (fun b u e => ?_) I.bare
  . obtain ⟨f0, f1, f2, f3, f4, f5⟩ := hf b hb
    exact ⟨f3, f1, f4, f5⟩
  . obtain ⟨ob, es, ep, ho, r⟩ := hm
    exact ⟨ob, es, ep, k _ ob (fun z => (hf _ z).2.1 rfl) ho, r⟩
  . by_cases hb : b = T
    . subst hb
      rw [zf] at e;cases e;exact new
    . rw [zp hb] at e
      refine (I.hok b u e).stay (fun c v hc q => k c v ?_ q) (fun c q => by rw [zp (nT c _ q)]; exact q) fun c xs q => by rw [zp (nT c _ q)]; exact q
      rcases hc with z | z
      . rw [z]; exact nch b u e
      . exact nch c _ z
theorem zcn {P : Program} {w : World} {K : Fg} {elts : List Expr} {x1 : Nat} {pos : Pos} (z TI TO i1 i2 l1 l2 : Addr) (D : ft z TI TO i1 i2) :
    Turn P w K (.Tuple elts x1 pos) (Itz K l1 l2) [z, TI, TO, i1, i2] z (tnZip z TI TO i1 i2 l1 l2) where
  mem := by simp
  obj := fun i h st b hb => by
    obtain ⟨hz, hTI, ⟨a, b', hTO⟩, ⟨o1, e1, c1, d1⟩, ⟨o2, e2, c2, d2⟩⟩ := st;simp only [ZK, Zx, or_false] at hb
    rcases hb with rfl | rfl | rfl | rfl | rfl
    . exact ⟨_, hz, fun v q => by cases q⟩
    . exact ⟨_, hTI, fun v q => by cases q⟩
    . exact ⟨_, hTO, fun v q => by cases q⟩
    . exact ⟨o1, e1, fun v q => by rw [d1] at q; cases q⟩
    . exact ⟨o2, e2, fun v q => by rw [d2] at q; cases q⟩
  keep := fun i h h' st k => by
    obtain ⟨hz, hTI, ⟨a, b, hTO⟩, h1, h2⟩ := st;exact ⟨k z (by simp) _ hz, k TI (by simp) _ hTI, ⟨a, b, k TO (by simp) _ hTO⟩, h1.at fun o e => k i1 (by simp) o e, h2.at fun o e => k i2 (by simp) o e⟩
  item := by
    intro X hP hw hK hc i pins s σ H E I hf st hg;subst hP hw hK;obtain ⟨xs, ys, x, y, qa, qb, hx, hy⟩ := hg;obtain ⟨us, ru, pu, zu⟩ := I.list qa;obtain ⟨vs, rv, pv', zv⟩ := I.list qb;obtain ⟨u, hu, rxu⟩ := ru.get hx;obtain ⟨v, hv, ryv⟩ := rv.get hy;have A := i3 D st pu.isList pv'.isList;obtain ⟨hz, hTI, ⟨a, b, hTO⟩, h1, h2⟩ := id st;refine wpAny_pyNext_zip_item A hz hTI hTO h1 h2 pu.isList pv'.isList (x := u) (y := v) (by simpa using hu) (by simpa using hv) fun h' a1 a2 a3 a4 a5 a6 hk => ?_
    have ltT : ∀ {c o}, s.heap.get? c = some o -> c ≠ s.heap.objs.size := fun e => Zs (Heap.lt_size e)
    refine ⟨_, rfl, wpAny_letOwnedTupleGo_zip (s := { s with heap := h' }) a1 fun h'' b1 sb => ?_⟩;have hTz : s.heap.objs.size ≠ z := Ne.symm (ltT hz)
    have hf4 : ∀ b ∈ [z, TO, i1, i2], FpOk X pins H b := fun b hb => hf b (by
      simp only [ZK, Zx, or_false] at hb ⊢
      rcases hb with h | h | h | h <;> simp [h])
    have I1 : Inv X pins σ (upd H s.heap.objs.size (.tup [x, y])) { s with heap := h'', toks := s.toks } := I.turnedLaid (ch := [z, TO, i1, i2]) hf4 (fun b o hb e => by
      simp only [ZK, Zx, or_false, not_or] at hb
      exact sb.extBut b o hb.1 (hk b o hb.1 hb.2.1 hb.2.2.1 hb.2.2.2 e)) (Zm _) ⟨by show 2 <= sizeLine; decide, [u, v], .cons rxu (.cons ryv .nil), by
        have e := sb.extBut _ _ hTz a5
        exact ⟨_, e, rfl, _, rfl, rfl⟩⟩
    refine ⟨.ref s.heap.objs.size, _, I1, rfl, ⟨s.heap.objs.size, x, y, rfl, I.hok.fresh (Zm _), rfl, fun xs' ys' q1 q2 => ?_⟩, ?_, fun b hb => ?_⟩
    . rw [I.list_inj q1 qa, I.list_inj q2 qb]
      exact ⟨hx, hy⟩
    . exact ⟨b1, sb.extBut _ _ A.TIz (hk _ _ A.TIz A.TITO A.TIi1 A.TIi2 hTI), ⟨_, _, sb.extBut _ _ A.TOz a2⟩, a3.extBut sb.extBut A.i1z, a4.extBut sb.extBut A.i2z⟩
    . have hb' := (hf b hb).1
      rw [zp ?_]
      . exact hb'
      . simp only [ZK, Zx, or_false] at hb
        rcases hb with rfl | rfl | rfl | rfl | rfl
        . exact ltT hz
        . exact ltT hTI
        . exact ltT hTO
        . obtain ⟨_, e, _⟩ := h1; exact ltT e
        . obtain ⟨_, e, _⟩ := h2; exact ltT e
  done := by
    intro X hP hw hK hc i pins s σ H E I hf st hg;subst hP hw hK;obtain ⟨xs, ys, qa, qb, hend⟩ := hg;obtain ⟨us, ru, pu, zu⟩ := I.list qa;obtain ⟨vs, rv, pv', zv⟩ := I.list qb;have A := i3 D st pu.isList pv'.isList;obtain ⟨hz, hTI, ⟨a, b, hTO⟩, h1, h2⟩ := id st;have l1' := ru.length;have l2' := rv.length
    refine wpAny_pyNext_zip_end (I.ok.hd hc) A hz hTI hTO h1 h2 pu.isList pv'.isList (by
      rcases hend with h | h
      . left; simp; omega
      . right; simp; omega) fun h' hk => ⟨rfl, ?_⟩
    have nch : ∀ b u, H b = some u -> b ∉ [z, TO, i1, i2] := fun b u e q => by
      have := (hf b (by simp only [ZK, Zx, or_false] at q ⊢; rcases q with h | h | h | h <;> simp [h])).1;rw [this] at e; cases e
    have k : ∀ b o, b ∉ [z, TO, i1, i2] -> s.heap.get? b = some o -> h'.get? b = some o := fun b o hb e => by
      simp only [ZK, Zx, or_false, not_or] at hb;exact hk b o hb.1 hb.2.1 hb.2.2.1 hb.2.2.2 e
    have hf4 : ∀ b ∈ [z, TO, i1, i2], FpOk X pins H b := fun b hb => hf b (by
      simp only [ZK, Zx, or_false] at hb ⊢
      rcases hb with h | h | h | h <;> simp [h])
    exact I.step (g' := s.gens) (d' := s.drawn) (t' := s.toks) (ch := [z, TO, i1, i2]) (fun b hb => by
        obtain ⟨f0, f1, f2, f3, f4, f5⟩ := hf4 b hb
        exact ⟨f3, f1, f4, f5⟩) (fun b o _ _ hc e _ => k b o hc e) (fun b o _ _ hc e _ => ⟨o.slots, k b o hc e⟩) (fun b o _ e n => n)
      (fun b o hc e => ⟨o, k b o hc e⟩) (fun b xs e => e) (fun b ob u e => e) (fun b ps e => ⟨#[], by rw [e]; simp⟩) (fun m hm => by
        obtain ⟨ob, es, ep, ho, r⟩ := hm
        exact ⟨ob, es, ep, k _ ob (fun q => (hf4 _ q).2.1 rfl) ho, r⟩) (fun b u e => (I.hok b u e).stay (fun c v hc q => k c v (by
          rcases hc with r | r
          . rw [r]; exact nch b u e
          . exact nch c _ r) q) (fun _ q => q) fun _ _ q => q) I.bare
  self := fun _ _ _ _ _ st h => wpAny_pyIter_zip st.1 h
def iZip (K : Fg) (ta : TA) : TI := fun σ H R => ta σ H fun vs H1 => ∃ a b, vs = [.ref a, .ref b] /\ (∃ xs, SqL K H1 a xs) /\ (∃ ys, SqL K H1 b ys) /\ R (Itz K a b) H1
theorem di {X : Cx} {a b : Expr} {ta : TA} {p pos tpos : Pos} {elts : List Expr} {x1 : Nat} (hg : Gl X "zip") (hm : X.mg "zip" = none) (ha : PA X [a, b] ta) (hs : starEach [a, b] X.env = [(false, eval a X.env), (false, eval b X.env)] := by rfl) (hs2 : starEach [b] X.env = [(false, eval b X.env)] := by rfl) :
    PI X (.Tuple elts x1 tpos) (.Call (.Name "zip" p) [a, b] [] pos) (iZip X.K ta) := by
  intro pins s σ H R I h;refine Call_ (ss I hg hm zar (PyProof.Rows.callWith_type1 (thn (ha pos pins s σ H _ I h) fun us s1 ⟨vs, H1, I1, r1, q1⟩ => ?_) (by rw [hs, hs2]) (by rw [hs2]; rfl)));obtain ⟨a, b, e, ⟨xs, qa⟩, ⟨ys, qb⟩, q⟩ := q1;subst e;obtain ⟨u, v, rfl, ru, rv⟩ := Vals.two r1;cases ru; cases rv;obtain ⟨its, _, pa, _⟩ := I1.list qa;obtain ⟨jts, _, pb, _⟩ := I1.list qb;refine call_zip_2 pa.isList pb.isList fun h' z1 z2 z3 z4 z5 z6 kp => ?_
  refine wpAny_pyIter_zip (s := { s1 with heap := h' }) z1 ?_;have I2 : Inv X pins σ H1 { s1 with heap := h' } := I1.kept (t' := s1.toks) kp;have D : ft (s1.heap.objs.size + 4) (s1.heap.objs.size + 2) (s1.heap.objs.size + 3) s1.heap.objs.size (s1.heap.objs.size + 1) := by constructor <;> (show (_ : Nat) ≠ _; omega)
  refine ⟨s1.heap.objs.size + 4, [s1.heap.objs.size + 4, s1.heap.objs.size + 2, s1.heap.objs.size + 3, s1.heap.objs.size, s1.heap.objs.size + 1], _, _, H1, rfl, I2, zcn _ _ _ _ _ a b D, ⟨z1, z2, ⟨_, _, z3⟩, z4, z5⟩, fun c hc => ?_, q⟩
  have hle : s1.heap.objs.size <= c := by
    simp only [ZK, Zx, or_false] at hc
    rcases hc with h | h | h | h | h <;> (rw [h]; omega)
  exact I1.fpOk hle (I1.hok.fresh hle)
theorem e_zip {K : Fg} {ta : TA} {σ : St} {H : Hp} {R : It -> Hp -> Prop} : iZip K ta σ H R = ta σ H fun vs H1 => ∃ a b, vs = [.ref a, .ref b] /\ (∃ xs, SqL K H1 a xs) /\ (∃ ys, SqL K H1 b ys) /\ R (Itz K a b) H1 := rfl
theorem e_gTup {K : Fg} {n : Nat} {t : TGs} {v : V} {σ : St} {H : Hp} {Q : St -> Hp -> Prop} : gTup K n t v σ H Q = ∃ a xs, v = .ref a /\ SqT K H a xs /\ xs.length = n /\ t xs σ H Q := rfl
theorem e_gNil {vs : List V} {σ : St} {H : Hp} {Q : St -> Hp -> Prop} : gNil vs σ H Q = (vs = [] /\ Q σ H) := rfl
theorem zdo {t : TG} {u : TGs} {vs : List V} {σ : St} {H : Hp} {Q : St -> Hp -> Prop} : gCons t u vs σ H Q = ∃ v r, vs = v :: r /\ t v σ H fun σ' H' => u r σ' H' Q := rfl
end L2
namespace L2
open PySem PySem.Spec PyProof.Rows
def eqVs : List V -> List V -> Bool
  | [], [] => true
  | x :: xs, y :: ys => eqV x y && eqVs xs ys
  | _, _ => false
theorem jc : ∀ {xs ys : List V}, xs.length = ys.length -> ((List.range xs.length).all fun j => eqV (xs.getD j .non) (ys.getD j .non)) = eqVs xs ys
  | [], [], _ => rfl
  | [], _ :: _, h => by simp at h
  | _ :: _, [], h => by simp at h
  | x :: xs, y :: ys, h => by
    have ih := @jc xs ys (by simpa using h);rw [ZQ, List.range_succ_eq_map, List.all_cons, Yw]
    show (eqV x y && _) = (eqV x y && eqVs xs ys)
    rw [<- ih];rfl
theorem e8 : ∀ {xs ys : List V}, xs.length ≠ ys.length -> eqVs xs ys = false
  | [], [], h => by simp at h
  | [], _ :: _, _ => rfl
  | _ :: _, [], _ => rfl
  | x :: xs, y :: ys, h => by
    have ih := @e8 xs ys (by simpa using h);unfold eqVs;rw [ih, Bool.and_false]
theorem ny {xs : List V} (h : xs.all yx = true) {j : Nat} {x : V} (e : xs[j]? = some x) : yx x = true := ZL.mp h x (Zi e)
theorem dj {A : Around} {s : Shared} {us vs : List Value} {xs ys : List V} (hu : Vals xs us) (hv : Vals ys vs) (fx : xs.all yx = true) (fy : ys.all yx = true) :
    ∀ j (h1 : j < us.toArray.size) (h2 : j < vs.toArray.size), SeqAt.EqAt A s us.toArray[j] vs.toArray[j] (eqV (xs.getD j .non) (ys.getD j .non)) := by
  intro j h1 h2;have h1' : j < us.length := by simpa using h1
  have h2' : j < vs.length := by simpa using h2
  obtain ⟨x, ex, rx⟩ := dm hu h1';obtain ⟨y, ey, ry⟩ := dm hv h2';rw [List.getElem_toArray, List.getElem_toArray, Zk, Zk, ex, ey];exact zbt rx ry (ny fx ex) (ny fy ey)
section
variable {X : Cx}
end
section
variable {X : Cx}
theorem zec {xs ys : List V} : (((List.range (min xs.length ys.length)).all fun j => eqV (xs.getD j .non) (ys.getD j .non)) && xs.length == ys.length) = eqVs xs ys := by
  by_cases hl : xs.length = ys.length
  . rw [<- hl, YH, jc hl]
    simp
  . rw [e8 hl, show (xs.length == ys.length) = false by simpa using hl, Bool.and_false]
theorem op_neT (hu : X.A.units < cLine) : OpR X (compareOp .NotEq) (fun x y H Q => ∃ (a b : Addr) (xs ys : List V), x = .ref a /\ y = .ref b /\ SqT X.K H a xs /\ SqT X.K H b ys /\ xs.all yx = true /\ ys.all yx = true /\ Q (.bl (!eqVs xs ys)) H) := by
  intro pins s σ H x y v u Q I rx ry h;obtain ⟨a, b, xs, ys, rfl, rfl, ha, hb, fx, fy, q⟩ := h;cases rx; cases ry;obtain ⟨us, r1, p1, z1⟩ := I.tuple ha;obtain ⟨vs, r2, p2, z2⟩ := I.tuple hb;have l1 := r1.length;have l2 := r2.length;refine SeqAt.RcNeAt.tuples (show s.heap.IsTuple a us.toArray from p1) (show s.heap.IsTuple b vs.toArray from p2) hu (dj (A := X.A.in1) (s := s) r1 r2 fx fy) _ _ _ _ ?_;rw [Zr, Zr, <- l1, <- l2, zec];exact ⟨.bl (!eqVs xs ys), H, I, rfl, q⟩
end
theorem e_gSub {to ti : TE} {t : TSet} {v : V} {σ : St} {H : Hp} {Q : St -> Hp -> Prop} : gSub to ti t v σ H Q = to σ H fun o H1 => ti σ H1 fun i H2 => t o i v H2 fun H3 => Q σ H3 := rfl
theorem e_rep {x y : V} {H : Hp} {Q : VK} : rRep x y H Q = ∃ l k xs, x = .ref l /\ y = .int k /\ H l = some (.lst xs) /\ -(2 ^ 63) <= k /\ k < 2 ^ 63 /\ xs.length * k.toNat <= sizeLine /\ ∀ p, H p = none -> Q (.ref p) (upd H p (.lst (List.replicate k.toNat xs).flatten)) := rfl
end L2
namespace L2
open PySem PySem.Spec PyProof.Rows
section
variable {σ : St} {k : Nat} {g : TG} {tt : TT} {te : TE} {H1 : Hp} {Fin : List V -> Hp -> Prop}
theorem d5 {K : Fg} {a b : Addr} {xs zs : List V} (Pv : Nat -> List V -> Hp -> Prop) (h0 : Pv 0 [] H1) (hz : ∀ i ys H, i <= min xs.length zs.length -> Pv i ys H -> ys.length <= sizeLine /\ SqL K H a xs /\ SqL K H b zs)
    (hs : ∀ i x z ys H T, xs[i]? = some x -> zs[i]? = some z -> H T = none -> Pv i ys H -> g (.ref T) (List.replicate k none ++ σ) (upd H T (.tup [x, z])) fun σ2 H2 => σ2.drop k = σ /\ tt σ2 H2 fun b H3 => if b = true then te σ2 H3 fun v H4 => Pv (i + 1) (ys ++ [v]) H4 else Pv (i + 1) ys H3)
    (hd : ∀ ys H, Pv (min xs.length zs.length) ys H -> Fin ys H) : sm (Itz K a b) σ k g tt te H1 Fin := by
  refine ⟨fun i m ys H => m = min xs.length zs.length - i /\ i <= min xs.length zs.length /\ Pv i ys H, ⟨min xs.length zs.length, by simp, ZE _, h0⟩, ?_⟩
  rintro i m ys H ⟨rfl, hi, p⟩
  obtain ⟨q0, qa, qb⟩ := hz i ys H hi p;refine ⟨q0, ?_⟩
  by_cases hlt : i < min xs.length zs.length
  . have h1 : i < xs.length := by omega
    have h2 : i < zs.length := by omega
    refine .inr ⟨⟨xs, zs, xs[i], zs[i], qa, qb, by simp [h1], by simp [h2]⟩, Pv (i + 1), fun ys' H' p' => ⟨min xs.length zs.length - (i + 1), by omega, rfl, hlt, p'⟩, fun x H' y => ?_⟩;obtain ⟨T, x', z', rfl, hT, rfl, hy⟩ := y;obtain ⟨e1, e2⟩ := hy xs zs qa qb;exact hs i x' z' ys _ T e1 e2 hT p
  . have e : i = min xs.length zs.length := by omega
    subst e;exact .inl ⟨⟨xs, zs, qa, qb, by omega⟩, hd ys H p⟩
end
theorem e_slL {K : Fg} {x : V} {lo hi : Option Int} {H : Hp} {Q : VK} : rSlL K x lo hi H Q = ∃ a xs, x = .ref a /\ SqL K H a xs /\ ∀ p, H p = none -> Q (.ref p) (upd H p (.lst (cutV xs lo hi))) := rfl
theorem e_tSl {r : V -> Option Int -> Option Int -> Hp -> VK -> Prop} {te : TE} {tl th : TO} {σ : St} {H : Hp} {Q : VK} : tSl r te tl th σ H Q = te σ H fun x H1 => tl σ H1 fun l H2 => th σ H2 fun u H3 => r x l u H3 Q := rfl
theorem zc3 {σ : St} {H : Hp} {Q : Option Int -> Hp -> Prop} : ze9 σ H Q = Q none H := rfl
theorem e_part {t : TE} {σ : St} {H : Hp} {Q : Option Int -> Hp -> Prop} : tPart t σ H Q = t σ H fun x H1 => ∃ i, x = .int i /\ Q (some i) H1 := rfl
end L2
namespace L2
open PySem PySem.Spec PyProof.Rows
section
variable {σ : St} {H : Hp} {Q : VK} {a b c : TE} {x : V} {vs : List V} {r r' : R2}
theorem e_pop : rPop x vs H Q = ∃ l xs y, x = .ref l /\ vs = [] /\ H l = some (.lst xs) /\ xs[xs.length - 1]? = some y /\ Q y (upd H l (.lst xs.dropLast)) := rfl
theorem e_BM0 {K : Fg} {T : String} {u : V -> List V -> Hp -> VK -> Prop} : tBM0 K T u a σ H Q = a σ H fun x H1 => tyV K T x H1 /\ u x [] H1 Q := rfl
theorem zeo : fj r r' a b c σ H Q = a σ H fun x H1 => b σ H1 fun y H2 => r x y H2 fun z H3 => ∃ k, z = .bl k /\ (if k = true then c σ H3 fun w' H4 => r' y w' H4 Q else Q (.bl false) H3) := rfl
theorem zem : tDNewK σ H Q = ∀ p, H p = none -> Q (.ref p) (upd H p (.dK [])) := rfl
theorem e_in {K : Fg} {neg : Bool} {y : V} : rIn K neg x y H Q = ∃ p xs, y = .ref p /\ (SqL K H p xs \/ SqT K H p xs) /\ yx x = true /\ xs.all yx = true /\ Q (.bl (if neg then !inV x xs else inV x xs)) H := rfl
end
theorem qq {X : Cx} {x : Str} {i : Int} {pos : Pos} (hg : Gl X x) (hm : ∃ t, X.mg x = some (Value.int i t)) (hd : (x == ("__debug__" : Str)) = false := by decide) : PE X (.Name x pos) (tC (.int i)) := by
  obtain ⟨t, hm⟩ := hm;exact vk hg hm ⟨t, rfl⟩ hd
def Its (lo st : Int) (n : Nat) : It := ⟨fun i _ => i < n, fun i H x H' => H' = H /\ x = .int (lo + i * st), fun i _ => n <= i⟩
def iRng3 (ta : TA) : TI := fun σ H R => ta σ H fun vs H1 => ∃ i j k : Int, vs = [.int i, .int j, .int k] /\ (-(2 ^ 61) <= i /\ i < 2 ^ 61 /\ -(2 ^ 61) <= j /\ j < 2 ^ 61 /\ 0 < k /\ k < 2 ^ 30) /\ R (Its i k (Builtin.Range.rangeSize i j k).toNat) H1
theorem e_rng3 {ta : TA} {σ : St} {H : Hp} {R : It -> Hp -> Prop} : iRng3 ta σ H R = ta σ H fun vs H1 => ∃ i j k : Int, vs = [.int i, .int j, .int k] /\ (-(2 ^ 61) <= i /\ i < 2 ^ 61 /\ -(2 ^ 61) <= j /\ j < 2 ^ 61 /\ 0 < k /\ k < 2 ^ 30) /\ R (Its i k (Builtin.Range.rangeSize i j k).toNat) H1 := rfl
def Ite (K : Fg) (a : Addr) : It :=
  ⟨fun i H => ∃ xs x, SqL K H a xs /\ xs[i]? = some x,
   fun i H v H' => ∃ T x, v = .ref T /\ H T = none /\ H' = upd H T (.tup [.int i, x]) /\ ∀ xs, SqL K H a xs -> xs[i]? = some x,
   fun i H => ∃ xs, SqL K H a xs /\ xs.length <= i⟩
def iEnum (K : Fg) (ta : TA) : TI := fun σ H R => ta σ H fun vs H1 => ∃ a, vs = [.ref a] /\ (∃ xs, SqL K H1 a xs) /\ R (Ite K a) H1
theorem e_enum {K : Fg} {ta : TA} {σ : St} {H : Hp} {R : It -> Hp -> Prop} : iEnum K ta σ H R = ta σ H fun vs H1 => ∃ a, vs = [.ref a] /\ (∃ xs, SqL K H1 a xs) /\ R (Ite K a) H1 := rfl
section
variable {X : Cx}
end
section
variable {X : Cx}
end
end L2
namespace L2
open PySem PySem.Spec PyProof.Rows
section
variable {X : Cx} {pins : List (Addr × Obj)} {σ : St} {H : Hp} {k : Nat} {f : Addr} {fd : FuncData} {ps : List Str} {sp : Sp}
def tMinK (K : Fg) (sp : Sp) (ta : TA) : TE := fun σ H Q => ta σ H fun vs H1 => ∃ (l : Addr) (xs : List V) (kf : Nat -> Int), vs = [.ref l] /\ SqL K H1 l xs /\ 0 < xs.length /\
  (∀ i x, xs[i]? = some x -> sp [x] H1 (fun v H' => v = .int (kf i) /\ H' = H1) E0) /\ ∀ i x, xs[i]? = some x -> (∀ j, j < xs.length -> kf i <= kf j /\ (j < i -> kf i < kf j)) -> Q x H1
theorem e_minK {K : Fg} {ta : TA} {Q : VK} : tMinK K sp ta σ H Q = ta σ H fun vs H1 => ∃ (l : Addr) (xs : List V) (kf : Nat -> Int), vs = [.ref l] /\ SqL K H1 l xs /\ 0 < xs.length /\
  (∀ i x, xs[i]? = some x -> sp [x] H1 (fun v H' => v = .int (kf i) /\ H' = H1) E0) /\ ∀ i x, xs[i]? = some x -> (∀ j, j < xs.length -> kf i <= kf j /\ (j < i -> kf i < kf j)) -> Q x H1 := rfl
end
end L2
namespace L2
open PySem PySem.Spec PyProof.Rows
def CX1 (P : Program) (w : World) : CXT := fun outer H s E e s' => ∃ (ea C : Addr) (a0 : Value) (B : Heap) (H' : Hp), e = .ref ea /\ s'.os = s.os /\ AllBare s'.gens /\ Un (frs outer) [] H H' s.heap s'.heap /\ HOk P w H' s'.heap /\
  Heap.FlyingW B outer ea (.ref C) a0 s'.heap /\ H' ea = none /\ (∀ b o, H' b = some o -> ∃ ob, B.get? b = some ob) /\ (∀ b o, s.heap.get? b = some o -> b ∉ frs outer -> ∃ ob, B.get? b = some ob /\ (H b = none -> ob = o)) /\ E (.ref C) none H'
theorem pass1 {P : Program} {w : World} {X : Cx} : ml (CX1 P w) X E0 := fun _ _ _ _ _ _ _ h => by
  obtain ⟨_, _, _, _, _, _, _, _, _, _, _, _, _, _, z⟩ := h;exact z.elim
theorem UpToSlots.get {h h' : Heap} (u : h.UpToSlots h') {b : Addr} {o : Obj} (e : h.get? b = some o) (n : ∀ vs, o.data ≠ .fields vs) : ∃ sl, h'.get? b = some { o with slots := sl } := u b o e n
theorem HOk.flown {P : Program} {w : World} {H : Hp} {h h' B : Heap} (x : HOk P w H h) (bh : B.StaysIn h) (bh' : B.StaysIn h') (dom : ∀ b o, H b = some o -> ∃ ob, B.get? b = some ob) : HOk P w H h' := fun a o e =>
  (x a o e).stay (fun b u hb q => by
    have hB : ∃ ob, B.get? b = some ob := by
      rcases hb with rfl | hb
      . exact dom _ _ e
      . exact dom _ _ hb
    obtain ⟨ob, hob⟩ := hB;have := bh b ob hob;rw [q] at this;cases this
    exact bh' b u hob) (fun _ q => q) fun _ _ q => q
theorem l7 {P : Program} {w : World} {H : Hp} {h : Heap} {a : Addr} {o : HO} (x : ObjOk P w H h a o) : ∃ ob, h.get? a = some ob := by
  cases o with
  | lst xs => obtain ⟨_, _, _, _, e⟩ := x; exact ⟨_, e⟩
  | tup xs => obtain ⟨_, _, _, o, e, _⟩ := x; exact ⟨_, e⟩
  | dK kvs => obtain ⟨_, _, _, _, o, _, _, e, _⟩ := x; exact ⟨_, e⟩
  | dT kvs => obtain ⟨_, _, _, _, o, _, _, e, _⟩ := x; exact ⟨_, e⟩
  | set S n => obtain ⟨o, _, _, _, e, _⟩ := x; exact ⟨_, e⟩
  | ins C dx fs => obtain ⟨_, _, _, e, _⟩ := x; exact ⟨_, e⟩
  | own y => exact x
  | xd fs => obtain ⟨_, ⟨_, _, _, e, _⟩, _⟩ := x; exact ⟨_, e⟩
  | rng lo hi => obtain ⟨_, _, _, e⟩ := x; exact ⟨_, e⟩
  | frz ob u => obtain ⟨e, _⟩ := x; exact ⟨_, e⟩
  | tbl ps => exact ⟨_, (show h.get? a = some _ from x)⟩
  | met f y => exact ⟨_, (show h.get? a = some _ from x)⟩
  | ext φ => obtain ⟨_, e, _⟩ := x; exact e
section
variable {X : Cx} {pins : List (Addr × Obj)} {σ : St} {H : Hp} {s : Shared}
theorem kc {fs : List Addr} {H0 H1 : Hp} {h0 h1 h2 B : Heap} (u : Un fs [] H0 H1 h0 h1) (dom2 : ∀ b o, h0.get? b = some o -> b ∉ fs -> ∃ ob, B.get? b = some ob /\ (H0 b = none -> ob = o))
    (bh' : B.StaysIn h2) (sl : h1.UpToSlots h2) (hfr : ∀ b ∈ fs, ∀ o, h1.get? b = some o -> ∀ vs, o.data ≠ .fields vs) : Un fs [] H0 H1 h0 h2 where
  keep := fun b o e n hb _ => by
    obtain ⟨ob, e1, e2⟩ := dom2 b o e hb;rw [e2 n] at e1;exact bh' b o e1
  slot := fun b o e n hb hx => by
    obtain ⟨s1, e1⟩ := u.slot b o e n hb hx;obtain ⟨s2, e2⟩ := sl b _ e1 (hfr b hb _ e1);exact ⟨s2, e2⟩
  free := u.free
  there := fun b o e hx => by
    by_cases hb : b ∈ fs
    . obtain ⟨o1, e1⟩ := u.there b o e hx
      obtain ⟨s2, e2⟩ := sl b _ e1 (hfr b hb _ e1);exact ⟨_, e2⟩
    . obtain ⟨ob, e1, _⟩ := dom2 b o e hb
      exact ⟨ob, bh' b ob e1⟩
  tups := u.tups
  frzs := u.frzs
  tbls := u.tbls
theorem dw {P : Program} {w : World} {K : Fg} {mg : Str -> Option Value} {base : Heap} {N : List Str} {qual : Str} {scope : Scope} {f : Addr} {cd : Value} {A : Around} {outer : List Env} {s0 : Shared} {H0 : Hp} {E : XK} {h' : Heap} {e C : Addr} {args : List Value}
    (hX : X = cxOf (CX1 P w) P w K mg base N qual scope f cd A outer s0 H0 E) (I : Inv X pins σ H s) (hx : Heap.MadeExcOf s.heap h' e (.ref C) args) (hE : E (.ref C) none H) (tk : Nat) : X.xe (.ref e) { s with heap := h', toks := tk } := by
  subst hX
  show wpAny _ _ (leaving _ (.ref e)) _ _ _
  have hst : s.heap.FunFrames base (envOfC qual scope s0.heap.objs.size f cd :: outer) := I.stack;have hin : ∀ env ∈ (envOfC qual scope s0.heap.objs.size f cd :: outer), ∀ b, env.frame = some b -> b ∈ (envOfC qual scope s0.heap.objs.size f cd :: outer).filterMap (·.frame) := fun env he b hb => ZO.mpr ⟨env, he, hb⟩
  have getB : ∀ b o, s.heap.get? b = some o -> b ∉ (envOfC qual scope s0.heap.objs.size f cd :: outer).filterMap (·.frame) -> (PySem.W.hideAll s.heap ((envOfC qual scope s0.heap.objs.size f cd :: outer).filterMap (·.frame))).get? b = some o := fun b o q n => PySem.W.hideAll_get _ q n
  refine wpAny_leaves_madeW (s := { s with heap := h', toks := tk }) (h := s.heap) I.ok.frames rfl (fun b o q => PySem.W.of_hideAll _ q) (PySem.W.funFrames_hide hst hin) hx fun h'' t x1 x2 x3 x4 => ?_
  have dom : ∀ b o, H b = some o -> ∃ ob, (PySem.W.hideAll s.heap ((envOfC qual scope s0.heap.objs.size f cd :: outer).filterMap (·.frame))).get? b = some ob := fun b o q => by
    have hlt := I.hok.lt q
    have hnf : b ∉ (envOfC qual scope s0.heap.objs.size f cd :: outer).filterMap (·.frame) := fun z => by
      have := I.stkFree b z;rw [q] at this; cases this
    obtain ⟨ob, hob⟩ := l7 (I.hok b o q);exact ⟨ob, getB b ob hob hnf⟩
  have un : Un (frs outer) [] H0 H s0.heap s.heap := I.base
  have dom2 : ∀ b o, s0.heap.get? b = some o -> b ∉ frs outer -> ∃ ob, (PySem.W.hideAll s.heap ((envOfC qual scope s0.heap.objs.size f cd :: outer).filterMap (·.frame))).get? b = some ob /\ (H0 b = none -> ob = o) := fun b o q n => by
    have hnf : b ∉ (envOfC qual scope s0.heap.objs.size f cd :: outer).filterMap (·.frame) := fun z => by
      rcases ZK.mp (I.stkSub b z) with y | y
      . have h1 : s0.heap.objs.size <= b := by rw [y]; exact I.ok.above
        exact absurd (Zh (Heap.lt_size q) h1) (ZJ _)
      . exact n y
    obtain ⟨o1, e1⟩ := un.there b o q (by simp);refine ⟨o1, getB b o1 e1 hnf, fun z => ?_⟩;have := un.keep b o q z n (by simp);rw [e1] at this;exact Option.some.inj this
  have hfr : ∀ b ∈ frs outer, ∀ o, s.heap.get? b = some o -> ∀ vs, o.data ≠ .fields vs := fun b hb o q => by
    obtain ⟨_, o', e', n'⟩ := hst.mem (b := b) (by
      obtain ⟨env, he, hf⟩ := ZO.mp hb
      exact ZO.mpr ⟨env, Zv _ he, hf⟩)
    rw [q] at e'; cases e';exact n'
  have sl : s.heap.UpToSlots h'' := (Heap.UpToSlots.of_keeps hx.keeps).trans x4;refine ⟨e, C, _, _, H, rfl, I.os, I.bare, kc un dom2 x1.1 sl hfr, HOk.flown I.hok (fun b o q => PySem.W.of_hideAll _ q) x1.1 dom, x1, ?_, dom, dom2, hE⟩
  cases q : H e with
  | none => rfl
  | some o =>
    obtain ⟨ob, hob⟩ := l7 (I.hok e o q);rw [hx.new] at hob; cases hob
theorem passX {P : Program} {w : World} {K : Fg} {mg : Str -> Option Value} {base : Heap} {N : List Str} {qual : Str} {scope : Scope} {f : Addr} {cd : Value} {A : Around} {outer : List Env} {s0 : Shared} {H0 : Hp} {E E1 : XK}
    (hX : X = cxOf (CX1 P w) P w K mg base N qual scope f cd A outer s0 H0 E) (hE : ∀ c H', E1 c none H' -> E c none H') : ml (CX1 P w) X E1 := by
  subst hX;intro pins σ H s e s' I h;obtain ⟨ea, C, a0, B, H', rfl, os, bare, un, hok, fl, hea, dom, dom2, hE1⟩ := h
  show wpAny _ _ (leaving _ (.ref ea)) _ _ _
  have hst : s'.heap.FunFrames B (envOfC qual scope s0.heap.objs.size f cd :: outer) := fl.2.2.1;have un0 : Un (frs outer) [] H0 H s0.heap s.heap := I.base
  have sub : ∀ b ∈ frs outer, b ∈ frs (envOfC qual scope s0.heap.objs.size f cd :: outer) := fun b hb => by
    obtain ⟨env, he, hf⟩ := ZO.mp hb;exact ZO.mpr ⟨env, Zv _ he, hf⟩
  have notL : ∀ b o, s0.heap.get? b = some o -> b ∉ frs outer -> b ∉ frs (envOfC qual scope s0.heap.objs.size f cd :: outer) := fun b o q n z => by
    rcases ZK.mp (I.stkSub b z) with y | y
    . have h1 : s0.heap.objs.size <= b := by rw [y]; exact I.ok.above
      exact absurd (Zh (Heap.lt_size q) h1) (ZJ _)
    . exact n y
  refine wpAny_leaves_onW I.ok.frames rfl fl fun h'' x1 x2 => ?_
  have ut := (un0.mono sub (fun _ z => z)).trans un;have un1 : Un (frs outer) [] H0 H' s0.heap s'.heap := ⟨fun b o e n hb hx => ut.keep b o e n (notL b o e hb) hx, fun b o e n hb hx => ut.slot b o e n (sub b hb) hx, ut.free, ut.there, ut.tups, ut.frzs, ut.tbls⟩
  have dom2' : ∀ b o, s0.heap.get? b = some o -> b ∉ frs outer -> ∃ ob, B.get? b = some ob /\ (H0 b = none -> ob = o) := fun b o q n => by
    obtain ⟨o1, e1⟩ := un0.there b o q (by simp);obtain ⟨ob, k1, k2⟩ := dom2 b o1 e1 (notL b o q n);refine ⟨ob, k1, fun z => ?_⟩;have e2 := un0.keep b o q z n (by simp);rw [e1] at e2;cases e2;exact k2 (un0.free b _ q z (by simp))
  have hfr : ∀ b ∈ frs outer, ∀ o, s'.heap.get? b = some o -> ∀ vs, o.data ≠ .fields vs := fun b hb o q => by
    obtain ⟨_, o', e', n'⟩ := hst.mem (b := b) (sub b hb);rw [q] at e'; cases e';exact n'
  exact ⟨ea, C, a0, B, H', rfl, os.trans I.os, bare, kc un1 dom2' x1.1 x2 hfr, HOk.flown hok fl.1 x1.1 dom, x1, hea, dom, dom2', hE _ _ hE1⟩
theorem Inv.track {ea : Addr} {oe : Obj} {o : HO} (I : Inv X pins σ H s) (he : s.heap.get? ea = some oe) (hn : H ea = none) (new : X.s₀.heap.get? ea = none) (hL : ea ≠ X.env.locals) (hC : ∀ x c, X.env.cells.lookup x = some c -> c ≠ ea) (hp : ∀ p ∈ X.pn ++ pins, p.1 ≠ ea)
    (ok : ObjOk X.prog X.w (upd H ea o) s.heap ea o) : Inv X pins σ (upd H ea o) s := by
  have ne0 : ∀ b u, H b = some u -> b ≠ ea := fun b u q z => by rw [z, hn] at q; cases q
  have new' : ∀ b u, X.s₀.heap.get? b = some u -> b ≠ ea := fun b u q z => by rw [z, new] at q; cases q
  refine ⟨I.ok, I.os, I.bare, ⟨I.base.keep, I.base.slot, fun b u q n hx => ?_, I.base.there, fun b xs q => ?_, fun b u v q => ?_, fun b ps q => ?_⟩, I.loc, I.cell, ?_, fun x c q => ?_, fun p h => ?_, fun b u q => ?_, I.len⟩
  . rw [zp (new' b u q)]; exact I.base.free b u q n hx
  . have := I.base.tups b xs q; rw [zp (ne0 b _ this)]; exact this
  . have := I.base.frzs b u v q; rw [zp (ne0 b _ this)]; exact this
  . obtain ⟨m, this⟩ := I.base.tbls b ps q; exact ⟨m, by rw [zp (ne0 b _ this)]; exact this⟩
  . rw [zp (Ne.symm hL)]; exact I.free
  . rw [zp (hC x c q)]; exact I.freeC x c q
  . obtain ⟨h1, h2, h3⟩ := I.pin p h
    exact ⟨h1, by rw [zp (hp p h)]; exact h2, h3⟩
  . by_cases hb : b = ea
    . subst hb; rw [zf] at q; cases q; exact ok
    . rw [zp hb] at q
      exact (I.hok b u q).stay (fun _ _ _ z => z) (fun c z => by rw [zp (ne0 c _ z)]; exact z) fun c xs z => by rw [zp (ne0 c _ z)]; exact z
def ExcO (ea C : Addr) : HO := .ext fun h => ∃ o, h.get? ea = some o /\ o.cls = .ref C /\ ∃ vs, o.data = .fields vs
abbrev Cx.suite (X : Cx) (e : Value) : Cx := { X with A := X.A.mark (some e), calm := false, xe := fun _ _ => False }
theorem Inv.suite (I : Inv X pins σ H s) (e : Value) : Inv (X.suite e) pins σ H s :=
  ⟨⟨I.ok.mod, I.ok.kind, I.ok.glob, I.ok.blt, I.ok.above, I.ok.inj, I.ok.has, I.ok.cab, (fun z => by cases z), I.ok.frames, I.ok.stk, I.ok.exf, I.ok.bs, I.ok.bsz, I.ok.noex, I.ok.exfs, I.ok.funs, I.ok.frf⟩, I.os, I.bare, I.base, I.loc, I.cell, I.free, I.freeC, I.pin, I.hok, I.len⟩
theorem Inv.unsuite {e : Value} (I : Inv (X.suite e) pins σ H s) (hd : X.calm = true -> X.A.handled = none) : Inv X pins σ H s :=
  ⟨⟨I.ok.mod, I.ok.kind, I.ok.glob, I.ok.blt, I.ok.above, I.ok.inj, I.ok.has, I.ok.cab, hd, I.ok.frames, I.ok.stk, I.ok.exf, I.ok.bs, I.ok.bsz, I.ok.noex, I.ok.exfs, I.ok.funs, I.ok.frf⟩, I.os, I.bare, I.base, I.loc, I.cell, I.free, I.freeC, I.pin, I.hok, I.len⟩
end
abbrev VE : List Value := [.type "ValueError", .type "Exception", .type "BaseException", .type "object"]
structure Err (K : Fg) (C : Addr) : Prop where
  ok : PySem.W.excIn K C VE "ValueError.__new__" = true
theorem Err.obj {K : Fg} {C : Addr} {h : Heap} (c : Err K C) (X : K.In h) : ∃ bm N nm q bs hdct sn sub ab col dd k0 k1 k2 k3 k5 mN, h.get? C = some (excClassObj nm q C N bs bm hdct sn sub ab col dd k0 k1 k2 k3 k5 "ValueError.__new__") /\
    h.Ns N mN /\ mN "__init__" = none /\ OwnTail h VE bm /\ ∀ v b, PySem.W.mroIn K C v = some b -> (Value.ref C :: bm).contains v = b := by
  have q := c.ok;unfold PySem.W.excIn at q
  split at q
  case h_2 => cases q
  case h_1 dd cd sl ho =>
    split at q
    case h_2 => cases q
    case h_1 C' bm k0 k1 k2 k3 n k5 hm hs =>
      simp only [Bool.and_eq_true, beq_iff_eq, Bool.not_eq_true'] at q
      have hmro : ∀ v b, PySem.W.mroIn K C v = some b -> (Value.ref C' :: bm).contains v = b := fun v b e => by
        unfold PySem.W.mroIn PySem.W.clsIn at e;rw [ho] at e;simp only [Option.bind_some, hm, List.isEmpty_cons, Bool.false_eq_true, if_false, Option.some.injEq] at e;exact e
      obtain ⟨⟨⟨⟨⟨e1, e2⟩, hdel⟩, ht⟩, hok⟩, hni⟩ := q;subst e1;subst e2;obtain ⟨nm, bs, mro, ns, qn, hd, sn, sub, ab, col, del⟩ := cd;have hm' : mro = Value.ref C' :: bm := hm;have hdel' : del = false := hdel;subst hm';subst hdel'
      have hsl : sl = #[k0, k1, k2, k3, some (.builtin "ValueError.__new__"), k5] := by
        cases sl with
        | mk l =>
          have hs' : l = [k0, k1, k2, k3, some (.builtin "ValueError.__new__"), k5] := hs;rw [hs']
      subst hsl;exact ⟨bm, ns, nm, qn, bs, hd, sn, sub, ab, col, dd, k0, k1, k2, k3, k5, _, X _ _ ho, .of_isNs (PySem.W.isNs_of_in X hok), PySem.W.nsMap_none_of_in X hok hni, PySem.W.tail_of_in X ht, hmro⟩
section
variable {M : Model} {A : Around} {E : Value -> Shared -> Prop}
theorem ip {h : Heap} {g : Array GenState} {d : Drawn} {t : Nat} {os : OsState} {e C D : Addr} {oe : Obj} {Q : Bool -> Shared -> Prop} {b : Bool} {K : Fg} (X : K.In h) (cC : Err K C) (cD : Err K D) (he : h.get? e = some oe) (hcls : oe.cls = .ref C)
    (hsub : PySem.W.mroIn K C (.ref D) = some b) (hq : Q b ⟨h, g, d, t, os⟩) : wpAny M A (excMatches (.ref e) (.ref D)) Q E ⟨h, g, d, t, os⟩ := by
  obtain ⟨bm, N, nm, q, bs, hdct, sn, sub, ab, col, dd, k0, k1, k2, k3, k5, mN, hC, hN, hni, T, hm⟩ := cC.obj X;obtain ⟨bm', N', nm', q', bs', hdct', sn', sub', ab', col', dd', k0', k1', k2', k3', k5', mN', hD, hN', hni', T', hm'⟩ := cD.obj X;have hcB : (Value.ref D :: bm').contains (.type "BaseException") = true := by rw [YC, T'.hasType (X := "BaseException") (b := true) (by decide +kernel), Bool.or_true]
  have hcD := hm _ _ hsub;have f := tc_notTuple;unfold excMatches
  repeat (first | (with_reducible refine wpAny_loadPart_at he ?_; rw [hcls]) | with_reducible refine wpAny_loadPart_at hD ?_ | (with_reducible refine wpAny_isSubtype_exc hD ?_; rw [hcB]) | (with_reducible refine wpAny_isSubtype_exc hC ?_; rw [hcD]) | wp_step)
  cases b <;> (try wp_walk) <;> exact hq
end
end L2
namespace L2
open PySem PySem.Spec PyProof.Rows
theorem PS.nox {X : Cx} {st : Stmt} {t : TS} (h : PS X.nox st t) : PS X st t := fun pins s σ H D I hw =>
  wpAny_mono (h pins s σ H D (I.wish _) hw) (fun _ _ z => z.unwish) fun _ _ z => z.elim
def tryXe (X : Cx) (pn : List (Addr × Obj)) (J : St -> Value -> Hp -> Prop) : Value -> Shared -> Prop := fun e s' =>
  ∃ pins σ H s, Inv { X with pn := pn, xe := fun _ _ => False } pins σ H s /\ CX1 X.prog X.w X.stack H s (fun c _ H' => J σ c H') e s'
abbrev oz (X : Cx) (pn : List (Addr × Obj)) (J : St -> Value -> Hp -> Prop) : Cx := { X with pn := pn, xe := tryXe X pn J }
def am (X : Cx) (J : St -> Value -> Hp -> Prop) : Prop := ∀ pins σ H s e s', Inv X pins σ H s -> CX1 X.prog X.w X.stack H s (fun c _ H' => J σ c H') e s' -> X.xe e s'
theorem sw {X : Cx} {pn : List (Addr × Obj)} {J : St -> Value -> Hp -> Prop} : am (oz X pn J) J := fun pins σ H s e s' I h =>
  ⟨pins, σ, H, s, Inv.unwish (X := { X with pn := pn, xe := fun _ _ => False }) (E := tryXe X pn J) I, h⟩
theorem v6 {X : Cx} {P : Program} {w : World} {K : Fg} {mg : Str -> Option Value} {base : Heap} {N : List Str} {qual : Str} {scope : Scope} {f : Addr} {cd : Value} {A : Around} {outer : List Env} {s0 : Shared} {H0 : Hp} {E : XK}
    (hX : X = cxOf (CX1 P w) P w K mg base N qual scope f cd A outer s0 H0 E) : am X (fun _ c H' => E c none H') := fun pins σ H s e s' I h => by
  have q := passX (X := X) (E1 := fun c _ H' => E c none H') hX (fun _ _ z => z) pins σ H s e s' I;subst hX;exact q h
structure FnAtX (P : Program) (w : World) (K : Fg) (mg : Str -> Option Value) (base : Heap) (name : Str) (k : Nat) (ps : List Str) (sp : Sp) : Prop where
  ex : ∃ f fd, mg name = some (.ref f) /\ PySem.W.keepIn K (.ref f) = true /\ Binds K fd ps [] /\ FnOk P w K mg base (CX1 P w) k f fd ps sp
theorem FnAtX.of {P : Program} {w : World} {K : Fg} {mg : Str -> Option Value} {base : Heap} {name : Str} {st : Stmt} {N ps : List Str} {k : Nat} {sp : Sp} (D : ze K mg name st ps) (S : zq N ps (zk st)) (len : ∀ vs H Q E, sp vs H Q E -> vs.length = ps.length)
    (hbody : ∀ (f : Addr) (cdv : Value) (A : Around) (outer : List Env) (s : Shared) (H : Hp) (vs : List V) (Q : VK) (E : XK), Room k (A.deeper (envOfC name (zk st) s.heap.objs.size f cdv)) -> sp vs H Q E ->
      ∃ t, PSs (cxOf (CX1 P w) P w K mg base N name (zk st) f cdv A outer s H E) (y0 st) t /\ t { nx := fun _ H' => Q .non H', rt := Q } (start N vs) H) : FnAtX P w K mg base name (k + 1) ps sp := by
  obtain ⟨f, fd, hm, F, hb⟩ := D.ex;refine ⟨f, fd, hm, F.kp, hb, ?_⟩;obtain ⟨oc, od, kV, doc, pm, an, cdv, ct, osl, rfl, lk, hcd⟩ := F.ex;exact fn_of lk hcd S len (hbody f cdv)
section
variable {X : Cx} {x : Str} {k : Nat} {ps : List Str} {sp : Sp} {p pos : Pos} {e : Expr} {es : List Expr} {t : TA}
def zap (sp : Sp) (J : St -> Value -> Hp -> Prop) (t : TA) : TE := fun σ H Q => t σ H fun vs H1 => sp vs H1 Q fun c _ H' => J σ c H'
theorem ze0 {J : St -> Value -> Hp -> Prop} {σ : St} {H : Hp} {Q : VK} : zap sp J t σ H Q = t σ H fun vs H1 => sp vs H1 Q fun c _ H' => J σ c H' := rfl
theorem wc {J : St -> Value -> Hp -> Prop} (F : FnAtX X.prog X.w X.K X.mg X.base x k ps sp) (hr : Room k X.A) (hx : am X J) (hg : Gl X x) (ha : PA X (e :: es) t) (hdb : (x == ("__debug__" : Str)) = false := by decide) (he : starEach (e :: es) X.env = (false, eval e X.env) :: starEach es X.env := by rfl)
    (hpl : (backTo pos (starEach es X.env)).any (·.1) = false := by rfl) : PE X (.Call (.Name x p) (e :: es) [] pos) (zap sp J t) := by
  obtain ⟨f, fd, hm, hk, hb, G⟩ := F.ex;intro pins s σ H Q I h;refine wpAny_Call_Name_kw (om I hg hm ?_ hdb);refine PySem.W.callWith_K (h₀ := X.base) I.ok.mod.kin hk (thn (ha pos pins s σ H _ I h) fun us s1 ⟨vs, H1, I1, r, q⟩ => ⟨I1.kIn, ?_⟩) he hpl;have hl : (us ++ []).length = ps.length := by rw [ZU, <- r.length]; exact G.len _ _ _ _ q
  refine wpAny_call (codeAny_mono (G.run X.A X.stack s1 H1 ⟨us, []⟩ us vs Q _ hr I1.env0 (by have := hb s1 us I1.kIn hl; rw [ZU] at this; exact this) r q) fun r' s' hq => ?_)
  cases r' with
  | error e => exact hx pins σ H1 s1 e s' I1 hq
  | ok fl =>
    cases fl with
    | ret u => exact I1.after hq
    | next => exact False.elim hq
    | brk => exact False.elim hq
    | cont => exact False.elim hq
theorem zdj (F : FnAtX X.prog X.w X.K X.mg X.base x k ps sp) (hr : Room k X.A) (hg : Gl X x) (ha : PA X (e :: es) t) (hdb : (x == ("__debug__" : Str)) = false := by decide) (he : starEach (e :: es) X.env = (false, eval e X.env) :: starEach es X.env := by rfl)
    (hpl : (backTo pos (starEach es X.env)).any (·.1) = false := by rfl) : PE X (.Call (.Name x p) (e :: es) [] pos) (g9 sp [] E0 t) := by
  obtain ⟨f, fd, hm, hk, hb, G⟩ := F.ex;exact af G hr hg hm hk hb .nil pass1 ha hdb he hpl
end
section
variable {X : Cx} {C : Addr} {x : Str} {np cpos pos : Pos}
def zce (X : Cx) (C : Addr) (R : Hp -> Prop) : Prop := ∀ pins σ H s h' e args tk, Inv X pins σ H s -> Heap.MadeExcOf s.heap h' e (.ref C) args -> R H -> X.xe (.ref e) { s with heap := h', toks := tk }
theorem vi {P : Program} {w : World} {K : Fg} {mg : Str -> Option Value} {base : Heap} {N : List Str} {qual : Str} {scope : Scope} {f : Addr} {cd : Value} {A : Around} {outer : List Env} {s0 : Shared} {H0 : Hp} {E : XK}
    (hX : X = cxOf (CX1 P w) P w K mg base N qual scope f cd A outer s0 H0 E) : zce X C (fun H => E (.ref C) none H) := fun pins σ H s h' e args tk I hx hE => dw hX I hx hE tk
def zbe (R : Hp -> Prop) (ta : TA) : TS := fun _ σ H => ta σ H fun vs H1 => vs.length <= sizeLine /\ R H1
theorem ze8 {R : Hp -> Prop} {ta : TA} {D : Ends} {σ : St} {H : Hp} : zbe R ta D σ H = ta σ H fun vs H1 => vs.length <= sizeLine /\ R H1 := rfl
theorem tz {e : Expr} {es : List Expr} {R : Hp -> Prop} {ta : TA} (hc : X.calm = true) (c : Err X.K C) (hg : Gl X x) (hm : X.mg x = some (.ref C)) (hr : zce X C R) (ha : PA X (e :: es) ta) (hdb : (x == ("__debug__" : Str)) = false := by decide)
    (he : starEach (e :: es) X.env = (false, eval e X.env) :: starEach es X.env := by rfl) (hpl : (backTo cpos (starEach es X.env)).any (·.1) = false := by rfl) :
    PS X (.Raise (some (.Call (.Name x np) (e :: es) [] cpos)) none pos) (zbe R ta) := by
  intro pins s σ H D I h;obtain ⟨bm, N, nm, q, bs, hdct, sn, sub, ab, col, dd, k0, k1, k2, k3, k5, mN, hC, hN, hni, T, _⟩ := c.obj I.ok.mod.kin
  refine wpAny_Raise_call_subU (C := C) (nm := nm) (q := q) (N := N) (bs := bs) (bm := bm) (hdct := hdct) (sn := sn) (sub := sub) (ab := ab) (col := col) (dd := dd) (k0 := k0) (k1 := k1) (k2 := k2) (k3 := k3) (k5 := k5)
    PySem.F.excBase_ValueError (by decide +kernel) PySem.F.excBase_ValueError (mN := mN) (T.hasType PySem.F.excBase_ValueError.hasBase) (I.ok.hd hc) (by rw [he]; show (false || (backTo cpos (starEach es X.env)).any (·.1)) = false; rw [hpl]; rfl) hni (om I hg hm ⟨rfl, ?_⟩ hdb)
  have hrun := ha cpos pins s σ H _ I h;rw [he] at hrun ⊢;refine Calls.evalArgs_plain (wpAny_mono hrun (fun us s1 h1 => ?_) fun _ _ z => z);obtain ⟨vs, H1, I1, r1, hz, q1⟩ := h1;exact ⟨rfl, by rw [<- r1.length]; exact hz, I1.bk _ _ hC, hN.keeps I1.bk, T.keeps I1.bk, fun h' e hx => hr pins σ H1 s1 h' e us s1.toks I1 hx q1⟩
end
section
variable {X : Cx} {pins : List (Addr × Obj)} {σ : St} {H : Hp} {s : Shared}
theorem Inv.intry (I : Inv X pins σ H s) (J : St -> Value -> Hp -> Prop) : Inv (oz X (X.pn ++ pins) J) [] σ H s :=
  ⟨⟨I.ok.mod, I.ok.kind, I.ok.glob, I.ok.blt, I.ok.above, I.ok.inj, I.ok.has, I.ok.cab, I.ok.hd, I.ok.frames, I.ok.stk, I.ok.exf, I.ok.bs, I.ok.bsz, I.ok.noex, I.ok.exfs, I.ok.funs, I.ok.frf⟩, I.os, I.bare, I.base, I.loc, I.cell, I.free, I.freeC, fun p hp => I.pin p (by simpa using hp), I.hok, I.len⟩
theorem Inv.outtry {pl : List (Addr × Obj)} {E : Value -> Shared -> Prop} (I : Inv { X with pn := X.pn ++ pins, xe := E } pl σ H s) : Inv X pins σ H s :=
  ⟨⟨I.ok.mod, I.ok.kind, I.ok.glob, I.ok.blt, I.ok.above, I.ok.inj, I.ok.has, I.ok.cab, I.ok.hd, I.ok.frames, I.ok.stk, I.ok.exf, I.ok.bs, I.ok.bsz, I.ok.noex, I.ok.exfs, I.ok.funs, I.ok.frf⟩, I.os, I.bare, I.base, I.loc, I.cell, I.free, I.freeC, fun p hp => I.pin p (ZX _ hp), I.hok, I.len⟩
theorem SP.outtry {J : St -> Value -> Hp -> Prop} {D : Ends} {f : Flow} {s' : Shared} (h : SP (oz X (X.pn ++ pins) J) [] D f s') : SP X pins D f s' := by
  cases f with
  | next => obtain ⟨a, b, I, q⟩ := h; exact ⟨a, b, I.outtry, q⟩
  | brk => obtain ⟨a, b, I, q⟩ := h; exact ⟨a, b, I.outtry, q⟩
  | cont => obtain ⟨a, b, I, q⟩ := h; exact ⟨a, b, I.outtry, q⟩
  | ret u => obtain ⟨v, a, b, I, r, q⟩ := h; exact ⟨v, a, b, I.outtry, r, q⟩
theorem pk {M : Model} {A : Around} {E : Value -> Shared -> Prop} {i : Nat} {n : Str} {pos : Pos} {Q : Unit -> Shared -> Prop} (I : Inv X pins σ H s) (hN : X.N.Nodup) (hi : X.N[i]? = some n) (hx : X.env.scope.names.lookup n = some .local)
    (h : ∀ s', Inv X pins (σ.set i none) H s' -> Q () s') : wpAny M A (do bindName X.env n .none; unbindBehindTheSuite X.env n pos) Q E s := by
  refine wpAny_bind (wpAny_bindName (o9 I hN hi (.inl hx) (v := .non) rfl (fun s1 I1 => ?_) (.inr hx)));obtain ⟨m, hn, hl⟩ := id I1.loc;have hiσ : i < σ.length := by rw [I.len]; exact (Zc.mp hi).1
  obtain ⟨u, ru, lk⟩ := hl i n .non hi (by rw [ZS hiσ]) (.inl hx)
  have hm : ∃ u, m n = some u := by
    rcases lk with ⟨_, e⟩ | ⟨k, _⟩
    . exact ⟨u, e⟩
    . exfalso
      have hk : X.env.kindOf n = some .local := hx
      rcases k with k | k <;> (rw [hk] at k; cases k)
  obtain ⟨u', hu'⟩ := hm;have hcls : (X.env.scope.kind == .class || (X.env.scope.kind == .module && X.env.locals != X.env.globals)) = false := by rw [I.ok.kind]; rfl
  unfold unbindBehindTheSuite;refine wpAny_onRaise (wpAny_unbindName_local hx hn hu' hcls fun h' u2 hn' sb => ?_);obtain ⟨oL, _, _, hoL, _⟩ := id hn;have J : Inv X pins (σ.set i (some .non)) H s1 := I1;refine h _ ⟨J.ok, J.os, J.bare, ⟨fun b o e z hb hx' => ?_, fun b o e z hb hx' => ?_, J.base.free, fun b o e hx' => ?_, J.base.tups, J.base.frzs, J.base.tbls⟩, ⟨_, hn', fun j y v' e1 e2 e3 => ?_⟩, fun y c e => ?_, J.free, J.freeC, fun p hp => ?_, fun b ob e => ?_, by simpa using I.len⟩
  . exact (sb.2 b (Zs (Zh (Heap.lt_size e) J.ok.above))).trans (J.base.keep b o e z hb hx')
  . obtain ⟨sl, e1⟩ := J.base.slot b o e z hb hx'
    exact ⟨sl, (sb.2 b (Zs (Zh (Heap.lt_size e) J.ok.above))).trans e1⟩
  . obtain ⟨o', e1⟩ := J.base.there b o e hx'
    exact ⟨o', (sb.2 b (Zs (Zh (Heap.lt_size e) J.ok.above))).trans e1⟩
  . by_cases hj : j = i
    . subst hj
      rw [ZS hiσ] at e2;cases e2
    . rw [ZY (Ne.symm hj)] at e2
      obtain ⟨w', r', q⟩ := hl j y v' e1 (by rw [ZY (Ne.symm hj)]; exact e2) e3;refine ⟨w', r', ?_⟩
      rcases q with ⟨k, e⟩ | ⟨k, c, e, z⟩
      . refine .inl ⟨k, ?_⟩
        have : y ≠ n := fun e => hj (kw hN e1 (e ▸ hi))
        simp [this, e]
      . exact .inr ⟨k, c, e, z.sameBut sb (J.cne y c e)⟩
  . obtain ⟨w', z⟩ := J.cell y c e
    exact ⟨w', z.sameBut sb (J.cne y c e)⟩
  . obtain ⟨e, z, ne, nf, d⟩ := J.pin p hp
    exact ⟨(sb.2 p.1 ne).trans e, z, ne, nf, d⟩
  . refine (J.hok b ob e).stay (fun c w' hc q => (sb.2 c ?_).trans q) (fun _ q => q) fun _ _ q => q
    rintro rfl
    rcases hc with hc | hc
    . rw [<- hc, J.free] at e; cases e
    . rw [J.free] at hc; cases hc
def j4 (i : Nat) (D : Ends) : Ends := { nx := fun σ H => D.nx (σ.set i none) H, rt := D.rt, bk := fun σ H => D.bk (σ.set i none) H, ct := fun σ H => D.ct (σ.set i none) H }
def zbf (K : Fg) (D0 : Addr) (i : Nat) (tb : (St -> Value -> Hp -> Prop) -> List (Addr × Obj) -> TS) (ts : Value -> TS) : TS := fun D σ H => ∃ J : St -> Value -> Hp -> Prop, (∀ pn, tb J pn D σ H) /\
  ∀ σ1 c H1, J σ1 c H1 -> ∃ C, c = .ref C /\ Err K C /\ PySem.W.mroIn K C (.ref D0) = some true /\ ∀ e ea, H1 ea = none -> ts e (j4 i D) (σ1.set i (some (.ref ea))) (upd H1 ea (ExcO ea C))
theorem zca {body : List Stmt} {b0 : Stmt} {suite : List Stmt} {x n : Str} {np hpos pos : Pos} {D0 : Addr} {i : Nat} {tb : (St -> Value -> Hp -> Prop) -> List (Addr × Obj) -> TS} {ts : Value -> TS} (cD : Err X.K D0) (hg : Gl X x) (hm : X.mg x = some (.ref D0)) (hN : X.N.Nodup) (hi : X.N[i]? = some n) (hx : X.env.scope.names.lookup n = some .local)
    (hb : ∀ J pn, PSs (oz X pn J) body (tb J pn)) (hs : ∀ e, PSs (X.suite e) (b0 :: suite) (ts e)) (hst : X.stack = X.env :: X.outer := by rfl) (hf : X.env.frame = some X.env.locals := by rfl) (hex : X.ex = [] := by rfl) (hdb : (x == ("__debug__" : Str)) = false := by decide) :
    PS X (.Try body [.ExceptHandler (some (.Name x np)) (some n) (b0 :: suite) hpos] [] [] pos) (zbf X.K D0 i tb ts) := by
  intro pins s σ H D I h;obtain ⟨J, hbody, hcatch⟩ := h;refine wpAny_Try_except (wpAny_mono (hb J (X.pn ++ pins) [] s σ H D (I.intry J) (hbody _)) (fun f s1 h1 => ?_) fun e s1 h1 => ?_)
  . have h2 := SP.outtry h1
    cases f with
    | next =>
      obtain ⟨a, b, I1, q⟩ := h2;exact wpAny_execs_nil ⟨a, b, I1, q⟩
    | brk => exact h2
    | cont => exact h2
    | ret u => exact h2
  . obtain ⟨pins', σ1, H1, s2, I2, hcx⟩ := h1
    have J2 : Inv X pins σ1 H1 s2 := I2.outtry;obtain ⟨ea, C, a0, B, H', e1, os, bare, un, hok, fl, hea, dom, dom2, hJ⟩ := hcx;subst e1;obtain ⟨C2, eC, cC, hsub, hsuite⟩ := hcatch σ1 _ H' hJ;obtain rfl : C = C2 := by injection eC
    have hfr0 : X.A.frames = some (X.env :: X.outer) := by rw [<- hst]; exact I.ok.frames
    have fl0 : Heap.FlyingW B (X.env :: X.outer) ea (.ref C) a0 s1.heap := by rw [<- hst]; exact fl
    have hfr : ∀ b ∈ frs X.stack, ∀ o, s1.heap.get? b = some o -> ∀ vs, o.data ≠ .fields vs := fun b hb o q => by
      obtain ⟨_, o', e', n'⟩ := fl.2.2.1.mem hb;rw [q] at e'; cases e';exact n'
    have old_ne : ∀ b o, s2.heap.get? b = some o -> b ≠ ea := fun b o q z => by
      by_cases hbf : b ∈ frs X.stack
      . obtain ⟨oe, vs, T, oT, ts', he, _, hd, _⟩ := fl.2.2.2
        rw [<- z] at he;exact hfr b hbf oe he vs hd
      . obtain ⟨ob, k1, _⟩ := dom2 b o q hbf
        rw [z, fl.2.1] at k1; cases k1
    refine wpAny_looks_onW hfr0 hf fl0 fun h4 held4 sm4 => ?_
    refine wpAny_landsW held4 fun h5 fl5 sm5 => ?_
    have at5 : ∀ {h6 : Heap} {sx : Shared}, sx.heap = h6 -> sx.os = s1.os -> sx.gens = s1.gens -> B.StaysIn h6 -> s1.heap.UpToSlots h6 -> Inv X pins σ1 H' sx := fun {h6 sx} e1 e2 e3 k1 k2 => by
      subst e1;exact J2.call' (ch := []) (e2.trans os) (kc un dom2 k1 k2 hfr) (HOk.flown hok fl.1 k1 dom) (by rw [e3]; exact bare) (fun b z => absurd z (by simp))
    have I5 : Inv X pins σ1 H' { s1 with heap := h5 } := at5 (sx := { s1 with heap := h5 }) rfl rfl rfl fl5.1 (sm4.trans sm5);obtain ⟨oe5, he5, hc5⟩ := fl5.there;refine wpAny_handleBy_cons (codeAny_handlers_test (om (I5.suite (.ref ea)) hg hm ?_ hdb)) (by intro q; cases q);refine ip I5.kIn cC cD he5 hc5 hsub ?_
    show codeAny _ _ _ _ _
    refine codeAny_handlers_suite_as ?_;refine lands_againW fl5 fun h6 fl6 sm6 => ?_
    have I6 : Inv X pins σ1 H' { s1 with heap := h6 } := at5 (sx := { s1 with heap := h6 }) rfl rfl rfl fl6.1 ((sm4.trans sm5).trans sm6)
    have I7 : Inv X pins σ1 (upd H' ea (ExcO ea C)) { s1 with heap := h6 } := by
      obtain ⟨oe, vs, T, oT, ts', he, ⟨hcl, _⟩, hd, _⟩ := fl6.2.2.2;refine I6.track he hea ?_ ?_ (fun y c q => ?_) (fun p hp => ?_) ?_
      . cases q : X.s₀.heap.get? ea with
        | none => rfl
        | some o =>
          obtain ⟨o', q'⟩ := J2.base.there ea o q (by rw [hex]; simp);exact absurd rfl (old_ne ea o' q')
      . obtain ⟨m, ⟨o, _, _, ho, _⟩, _⟩ := J2.loc
        exact Ne.symm (old_ne _ o ho)
      . obtain ⟨v, o, ho, _⟩ := J2.cell y c q
        exact old_ne c o ho
      . exact old_ne _ _ (J2.pin p hp).1
      . refine ⟨⟨oe, he, hcl, vs, hd⟩, ⟨oe, he⟩, fun h1 h2 k1 k2 => ?_⟩
        obtain ⟨o, z1, z2⟩ := k1;exact ⟨o, k2 o z1, z2⟩
    refine o9 (X := X.suite (.ref ea)) (I7.suite (.ref ea)) hN hi (.inl hx) (v := .ref ea) rfl (fun s8 I8 => ?_) (.inr hx);refine wpAny_mono (hs (.ref ea) pins s8 _ _ (j4 i D) I8 (hsuite _ ea hea)) (fun f s9 h9 => ?_) fun _ _ z => z.elim
    show wpAny _ _ _ _ _ _
    cases f with
    | next =>
      obtain ⟨σ9, H9, I9, q9⟩ := h9;exact pk (I9.unsuite I.ok.hd) hN hi hx fun s' I' => ⟨_, _, I', q9⟩
    | brk =>
      obtain ⟨σ9, H9, I9, q9⟩ := h9;exact pk (I9.unsuite I.ok.hd) hN hi hx fun s' I' => ⟨_, _, I', q9⟩
    | cont =>
      obtain ⟨σ9, H9, I9, q9⟩ := h9;exact pk (I9.unsuite I.ok.hd) hN hi hx fun s' I' => ⟨_, _, I', q9⟩
    | ret u =>
      obtain ⟨v9, σ9, H9, I9, r9, q9⟩ := h9;exact pk (I9.unsuite I.ok.hd) hN hi hx fun s' I' => ⟨_, _, _, I', r9, q9⟩
def tTry0 (K : Fg) (D0 : Addr) (tb : (St -> Value -> Hp -> Prop) -> List (Addr × Obj) -> TS) (ts : Value -> TS) : TS := fun D σ H => ∃ J : St -> Value -> Hp -> Prop, (∀ pn, tb J pn D σ H) /\
  ∀ σ1 c H1, J σ1 c H1 -> ∃ C, c = .ref C /\ Err K C /\ PySem.W.mroIn K C (.ref D0) = some true /\ ∀ e, ts e D σ1 H1
theorem suK {e : Value} : (X.suite e).K = X.K := rfl
theorem noxK : X.nox.K = X.K := rfl
theorem tryK {pn : List (Addr × Obj)} {J : St -> Value -> Hp -> Prop} : (oz X pn J).K = X.K := rfl
theorem zdw {K : Fg} {D0 : Addr} {i : Nat} {tb : (St -> Value -> Hp -> Prop) -> List (Addr × Obj) -> TS} {ts : Value -> TS} {D : Ends} : zbf K D0 i tb ts D σ H = ∃ J : St -> Value -> Hp -> Prop, (∀ pn, tb J pn D σ H) /\
  ∀ σ1 c H1, J σ1 c H1 -> ∃ C, c = .ref C /\ Err K C /\ PySem.W.mroIn K C (.ref D0) = some true /\ ∀ e ea, H1 ea = none -> ts e (j4 i D) (σ1.set i (some (.ref ea))) (upd H1 ea (ExcO ea C)) := rfl
theorem e_try0 {K : Fg} {D0 : Addr} {tb : (St -> Value -> Hp -> Prop) -> List (Addr × Obj) -> TS} {ts : Value -> TS} {D : Ends} : tTry0 K D0 tb ts D σ H = ∃ J : St -> Value -> Hp -> Prop, (∀ pn, tb J pn D σ H) /\
  ∀ σ1 c H1, J σ1 c H1 -> ∃ C, c = .ref C /\ Err K C /\ PySem.W.mroIn K C (.ref D0) = some true /\ ∀ e, ts e D σ1 H1 := rfl
end
end L2
namespace L2
open PySem PySem.Spec PyProof.Rows
structure ErrQ (K : Fg) (C : Addr) : Prop extends Err K C where
  ga : PySem.W.findIn K (.ref C) "__getattribute__" = some (some (.builtin "BaseException.__getattribute__"))
  gn : PySem.W.findIn K (.ref C) "__getattr__" = some none
  gc : PySem.W.findIn K (.ref C) "__class__" = some (some (.builtin "object.__class__"))
section
variable {prog : Program} {w : World} {A : Around} {E : Value -> Shared -> Prop} {h : Heap} {g : Array GenState} {d : Drawn} {t : Nat} {os : OsState} {a C : Addr} {o : Obj} {K : Fg}
theorem ay {R : Result -> Shared -> Prop} (X : K.In h) (c : ErrQ K C) (hx : h.get? a = some o) (hc : o.cls = .ref C) (hq : R (.ok (.ret (.ref C))) ⟨h, g, d, t, os⟩) :
    codeAny (model prog w) A (.call (.builtin "getset_descriptor.__get__") ⟨[.builtin "object.__class__", .ref a, .ref C], []⟩) R ⟨h, g, d, t, os⟩ := by
  obtain ⟨bm, N, nm, q, bs, hdct, sn, sub, ab, col, dd, k0, k1, k2, k3, k5, mN, hC, hN, hni, T, _⟩ := c.obj X;have hT5 : (⟨h, g, d, t, os⟩ : Shared).TypeIs (.builtin "object.__class__") "getset_descriptor" := F.typeOf_object_class;have hcO : (Value.ref C :: bm).contains (.type (".".intercalate ("object.__class__".cutAt '.').dropLast)) = true := by rw [F.owner_object_class, YC, T.hasType (X := "object") (b := true) (by decide +kernel), Bool.or_true]
  refine codeAny_call_builtin F.slot_gs_get.plain F.entry_gs_get (F.slot_gs_get.check _ _ _ _ _ _ _ _ hT5 (F.args_gs_get _ _ _) ?_)
  repeat (any_goals (first | assumption | (with_reducible refine wpAny_loadPart_at hx ?_; rw [hc]) | (with_reducible refine wpAny_isSubtype_exc hC ?_; rw [hcO]) | wp_step))
  refine ⟨Code.quiet_builtin _ (by decide +kernel), codeAny_builtin F.entry_object_class ?_⟩
  repeat (any_goals (first | assumption | (with_reducible refine wpAny_loadPart_at hx ?_; rw [hc]) | wp_step))
theorem fk {tk : Tok} {Q : Fin -> Shared -> Prop} (X : K.In h) (c : ErrQ K C) (hx : h.get? a = some o) (hc : o.cls = .ref C) (hq : Q (.done (.ret (.ref C))) ⟨h, g, d, t, os⟩) :
    wpAny (model prog w) A (Builtin.«object.__getattribute__» ⟨[.ref a, .str "__class__" tk], []⟩) Q E ⟨h, g, d, t, os⟩ := by
  have hT5 : (⟨h, g, d, t, os⟩ : Shared).TypeIs (.builtin "object.__class__") "getset_descriptor" := F.typeOf_object_class;have L1 := PySem.W.looks_findIn (M := model prog w) X c.gc;have f5 := F.typeOf_object_class;have f6 := F.slot_gs_get.lookup;have f7 := F.slot_gs_set.lookup
  repeat (any_goals (first | assumption | (with_reducible refine wpAny_loadPart_at hx ?_; rw [hc]) | with_reducible refine L1.at ?_ | wp_step))
  refine ay X c hx hc ?_
  repeat (any_goals (first | assumption | wp_step))
theorem dt {M : Model} {nameV : Value} {Q : Unit -> Shared -> Prop} (X : K.In h) (c : ErrQ K C) (hx : h.get? a = some o) (hc : o.cls = .ref C) (hq : Q () ⟨h, g, d, t, os⟩) : wpAny M A (checkBuiltinCall "BaseException.__getattribute__" ⟨[.ref a, nameV], []⟩) Q E ⟨h, g, d, t, os⟩ := by
  obtain ⟨bm, N, nm, q, bs, hdct, sn, sub, ab, col, dd, k0, k1, k2, k3, k5, mN, hC, hN, hni, T, _⟩ := c.obj X;have hk : builtinKind "BaseException.__getattribute__" = some .slot := by decide +kernel
  have hsplit : splitId "BaseException.__getattribute__" = some ("BaseException", "__getattribute__") := by decide +kernel
  have hcB : (Value.ref C :: bm).contains (.type "BaseException") = true := by rw [YC, T.hasType (X := "BaseException") (b := true) (by decide +kernel), Bool.or_true]
  have ha := F.args_bexc_ga (.ref a) nameV;simp only [checkBuiltinCall, hk, hsplit];refine wpAny_bind ?_;unfold isInstance
  repeat (first | (with_reducible refine wpAny_loadPart_at hx ?_; rw [hc]) | (with_reducible refine wpAny_isSubtype_exc hC ?_; rw [hcB]) | wp_step)
  exact hq
theorem c5 {tk : Tok} {R : Result -> Shared -> Prop} (X : K.In h) (c : ErrQ K C) (hx : h.get? a = some o) (hc : o.cls = .ref C) (hq : R (.ok (.ret (.ref C))) ⟨h, g, d, t, os⟩) :
    codeAny (model prog w) A (.call (.builtin "BaseException.__getattribute__") ⟨[.ref a, .str "__class__" tk], []⟩) R ⟨h, g, d, t, os⟩ :=
  codeAny_call_builtin F.attrBase_ValueError.ga.plain F.entry_bexc_ga (dt X c hx hc (fk X c hx hc hq))
theorem zav {tk : Tok} {Q : Value -> Shared -> Prop} (X : K.In h) (c : ErrQ K C) (hx : h.get? a = some o) (hc : o.cls = .ref C) (hq : Q (.ref C) ⟨h, g, d, t, os⟩) : wpAny (model prog w) A (getAttrBy (.ref a) (.str "__class__" tk) false) Q E ⟨h, g, d, t, os⟩ := by
  have f3 := F.attrBase_ValueError.ga.bind (.ref a);have L1 := PySem.W.looks_findIn (M := model prog w) X c.ga;have L2' := PySem.W.looks_findIn (M := model prog w) X c.gn;have hx2 : (Value.builtin "BaseException.__getattribute__" == Value.builtin "object.__getattribute__") = false := by decide +kernel
  have hx1 : (onTheHeap (Value.ref C) && Value.builtin "BaseException.__getattribute__" == Value.builtin "object.__getattribute__") = false := by rw [hx2]; rfl
  repeat (any_goals (first | assumption | (with_reducible refine wpAny_loadPart_at hx ?_; rw [hc]) | with_reducible refine L1.at ?_ | with_reducible refine L2'.at ?_ | wp_step))
  refine c5 X c hx hc ?_
  repeat (any_goals (first | assumption | wp_step))
theorem cv {Q : Option Value -> Shared -> Prop} (X : K.In h) (c : ErrQ K C) (hx : h.get? a = some o) (hc : o.cls = .ref C) (hq : Q (some (.ref C)) ⟨h, g, d, t + 1, os⟩) : wpAny (model prog w) A (getAttr? (.ref a) "__class__") Q E ⟨h, g, d, t, os⟩ := by
  unfold getAttr? getAttrBy?
  repeat (any_goals (first | assumption | with_reducible apply zav X c hx hc | wp_step))
end
def ExcAt (a C : Addr) (h : Heap) : Prop := ∃ o, h.get? a = some o /\ o.cls = .ref C
theorem kz {K : Fg} {a C : Addr} (c : ErrQ K C) : PySem.W.KitX K (.ref a) (.ref C) (ExcAt a C) where
  ty := fun M h X p => by
    obtain ⟨o, h1, h2⟩ := p;exact h2 ▸ (PySem.W.Looks.ld h1).andThen .now
  it := fun M h X p => by
    obtain ⟨bm, N, nm, q, bs, hdct, sn, sub, ab, col, dd, k0, k1, k2, k3, k5, mN, hC, hN, hni, T, _⟩ := c.obj X;intro A' Q' E' s' k q;unfold isType loadHead;exact wpAny_bind (wpAny_loadPart (k _ _ hC) (wpAny_pure q))
  ne := fun h tp dd its n sl X htp => by
    obtain ⟨bm, N, nm, q, bs, hdct, sn, sub, ab, col, dd, k0, k1, k2, k3, k5, mN, hC, hN, hni, T, _⟩ := c.obj X;refine Bool.eq_false_iff.mpr fun q => ?_
    have e : C = tp := Value.ref.inj (beq_iff_eq.mp q);subst e;rw [hC] at htp;have hcl := congrArg Obj.cls (Option.some.inj htp)
    revert hcl
    show Value.type "type" = Value.type "tuple" -> False
    intro hcl
    injection hcl with hcl
    exact absurd hcl (by decide)
  ca := fun {_ _ _ _ _ s} X p k => by
    obtain ⟨o, h1, h2⟩ := p;obtain ⟨h, g, d, t, os⟩ := s;exact cv X c h1 h2 k
section
variable {X : Cx} {pins : List (Addr × Obj)} {σ : St} {H : Hp} {s : Shared}
theorem Inv.exc {ea C : Addr} (I : Inv X pins σ H s) (h : H ea = some (ExcO ea C)) : ExcAt ea C s.heap := by
  have q : ObjOk X.prog X.w H s.heap ea (ExcO ea C) := I.hok ea _ h;obtain ⟨⟨o, h1, h2, _⟩, _⟩ := q;exact ⟨o, h1, h2⟩
theorem fq : CallR X (.builtin "isinstance") (fun xs H Q => ∃ ea C D b, xs = [.ref ea, .ref D] /\ H ea = some (ExcO ea C) /\ ErrQ X.K C /\ PySem.W.kitOne X.K (.ref C) (.ref D) = some b /\ Q (.bl b) H) := by
  intro pins s σ H xs us Q I r h;obtain ⟨ea, C, D, b, rfl, he, c, e, q⟩ := h;obtain ⟨u, v, rfl, rx, ry⟩ := Vals.two r;cases rx; cases ry;exact PySem.W.kia_one (kz c) I.kIn (I.exc he) e (fun z => nomatch z) fun tk => ⟨.bl b, H, I.tok _, rfl, q⟩
theorem d4 : CallR X (.builtin "isinstance") (fun xs H Q => ∃ ea C T b, xs = [.ref ea, .ty T] /\ H ea = some (ExcO ea C) /\ ErrQ X.K C /\ PySem.W.kitOne X.K (.ref C) (.type T) = some b /\ Q (.bl b) H) := by
  intro pins s σ H xs us Q I r h;obtain ⟨ea, C, D, b, rfl, he, c, e, q⟩ := h;obtain ⟨u, v, rfl, rx, ry⟩ := Vals.two r;cases rx; cases ry;exact PySem.W.kia_one (kz c) I.kIn (I.exc he) e (fun z => nomatch z) fun tk => ⟨.bl b, H, I.tok _, rfl, q⟩
theorem gd : ∀ {Ds : List Addr} {us : List Value}, Vals (Ds.map V.ref) us -> us = Ds.map Value.ref
  | [], _, .nil => rfl
  | D :: Ds, _, .cons r t => by
    rw [gd t];cases r;rfl
theorem gq : CallR X (.builtin "isinstance") (fun xs H Q => ∃ (ea C tp : Addr) (Ds : List Addr) (b : Bool), xs = [.ref ea, .ref tp] /\ H ea = some (ExcO ea C) /\ ErrQ X.K C /\ SqT X.K H tp (Ds.map V.ref) /\ PySem.W.kitAny X.K (.ref C) (Ds.map Value.ref) = some b /\ Q (.bl b) H) := by
  intro pins s σ H xs us Q I r h;obtain ⟨ea, C, tp, Ds, b, rfl, he, c, ht, e, q⟩ := h;obtain ⟨u, v, rfl, rx, ry⟩ := Vals.two r;cases rx; cases ry;obtain ⟨its, rv, ⟨o, ho, hc, n, hd⟩, hz⟩ := I.tuple ht;have ei := gd rv;subst ei;obtain ⟨ocls, odict, odata, oslots⟩ := o;dsimp only at hc hd;subst hc hd;exact PySem.W.kia_tup (kz c) I.kIn (I.exc he) ho e (fun z => nomatch z) fun tk => ⟨.bl b, H, I.tok _, rfl, q⟩
end
theorem gy : bootBuiltins "ValueError" = some (.type "ValueError") := by decide +kernel
theorem da {K : Fg} {h : Heap} {mg : Str -> Option Value} (X : K.In h) (G : h.Ns mainGlobals mg) {name : Str} {C : Addr} (e : PySem.W.nsIn K mainGlobals name = some (some (.ref C))) (q : PySem.W.excIn K C VE "ValueError.__new__" = true)
    (g1 : PySem.W.findIn K (.ref C) "__getattribute__" = some (some (.builtin "BaseException.__getattribute__"))) (g2 : PySem.W.findIn K (.ref C) "__getattr__" = some none) (g3 : PySem.W.findIn K (.ref C) "__class__" = some (some (.builtin "object.__class__"))) :
    mg name = some (.ref C) /\ ErrQ K C := ⟨PySem.W.mg_of X G e, ⟨⟨q⟩, g1, g2, g3⟩⟩
theorem zc0 {K : Fg} {C : Addr} : PySem.W.kitOne K (.ref C) (.ref C) = some true := by
  unfold PySem.W.kitOne;rw [if_pos (by simp)]
theorem u5 {K : Fg} {C D : Addr} {cd : ClassData} {b : Bool} (h0 : (Value.ref C == Value.ref D) = false) (h1 : PySem.W.clsIn K D = some cd) (h2 : PySem.W.typeIn K (.ref D) = some (.type "type")) (h3 : PySem.W.subIn K (.ref C) (.ref D) = some b) : PySem.W.kitOne K (.ref C) (.ref D) = some b := by
  unfold PySem.W.kitOne PySem.W.kitCls;rw [if_neg (by rw [h0]; simp)]
  show (if ((PySem.W.clsIn K D).isSome && PySem.W.typeIn K (.ref D) == some (.type "type")) = true then PySem.W.subIn K (.ref C) (.ref D) else none) = some b
  rw [h1, h2, if_pos (by simp)];exact h3
theorem zfa {K : Fg} {C : Addr} {b : Bool} (h3 : PySem.W.subIn K (.ref C) (.type "ValueError") = some b) : PySem.W.kitOne K (.ref C) (.type "ValueError") = some b := by
  unfold PySem.W.kitOne PySem.W.kitCls;rw [if_neg (by simp)]
  show (if PySem.W.kitMeta "ValueError" = true then PySem.W.subIn K (.ref C) (.type "ValueError") else none) = some b
  rw [if_pos (by decide +kernel)];exact h3
def zcj (K : Fg) (C : Addr) : List Addr -> Prop
  | [] => True
  | D :: Ds => PySem.W.kitOne K (.ref C) (.ref D) = some false /\ zcj K C Ds
theorem lm {K : Fg} {C : Addr} : ∀ {Ds : List Addr}, zcj K C Ds -> PySem.W.kitAny K (.ref C) (Ds.map Value.ref) = some false
  | [], _ => rfl
  | D :: Ds, h => by
    show PySem.W.kitAny K (.ref C) (Value.ref D :: Ds.map Value.ref) = some false
    unfold PySem.W.kitAny;rw [h.1];exact lm h.2
theorem Same.seqT {K : Fg} {H H' : Hp} {a : Addr} {xs : List V} (e : Same H H') (h : SqT K H a xs) : SqT K H' a xs := by
  rcases h with (h | ⟨o, h⟩) | h
  . exact .inl (.inl (e _ _ h))
  . exact .inl (.inr ⟨o, e _ _ h⟩)
  . exact .inr h
end L2
namespace L2
open PySem PySem.Spec PyProof.Rows
inductive Tr where
  | lf (v : V) | ls (ts : List Tr) | tp (ts : List Tr)
mutual
def TrAt (K : Fg) (H : Hp) : Tr -> V -> Prop
  | .lf v, x => x = v /\ yx v = true
  | .ls ts, x => ∃ a xs, x = .ref a /\ SqL K H a xs /\ TrsAt K H ts xs
  | .tp ts, x => ∃ a xs, x = .ref a /\ SqT K H a xs /\ TrsAt K H ts xs
def TrsAt (K : Fg) (H : Hp) : List Tr -> List V -> Prop
  | [], xs => xs = []
  | t :: ts, xs => ∃ y ys, xs = y :: ys /\ TrAt K H t y /\ TrsAt K H ts ys
end
mutual
def eqTr : Tr -> Tr -> Bool
  | .lf v, .lf w => eqV v w
  | .ls ts, .ls us => zaa ts us
  | .tp ts, .tp us => zaa ts us
  | _, _ => false
def zaa : List Tr -> List Tr -> Bool
  | [], [] => true
  | t :: ts, u :: us => eqTr t u && zaa ts us
  | _, _ => false
end
mutual
def deep : Tr -> Nat
  | .lf _ => 0
  | .ls ts => jt ts + 1
  | .tp ts => jt ts + 1
def jt : List Tr -> Nat
  | [] => 0
  | t :: ts => max (deep t) (jt ts)
end
theorem TrsAt.len {K : Fg} {H : Hp} : ∀ {ts : List Tr} {xs : List V}, TrsAt K H ts xs -> ts.length = xs.length
  | [], xs, h => by rw [TrsAt] at h; rw [h]; rfl
  | t :: ts, xs, h => by
    rw [TrsAt] at h;obtain ⟨y, ys, rfl, _, h⟩ := h;simp [TrsAt.len h]
theorem TrsAt.get {K : Fg} {H : Hp} : ∀ {ts : List Tr} {xs : List V} {j : Nat} {x : V}, TrsAt K H ts xs -> xs[j]? = some x -> ∃ t, ts[j]? = some t /\ TrAt K H t x
  | [], xs, j, x, h, e => by rw [TrsAt] at h; subst h; simp at e
  | t :: ts, xs, 0, x, h, e => by
    rw [TrsAt] at h;obtain ⟨y, ys, rfl, h1, h⟩ := h;cases e;exact ⟨t, rfl, h1⟩
  | t :: ts, xs, j + 1, x, h, e => by
    rw [TrsAt] at h;obtain ⟨y, ys, rfl, h1, h⟩ := h;exact TrsAt.get (ts := ts) (j := j) h e
theorem TrsAt.of {K : Fg} {H : Hp} : ∀ {ts : List Tr} {xs : List V}, ts.length = xs.length -> (∀ (j : Nat) (t : Tr) (x : V), ts[j]? = some t -> xs[j]? = some x -> TrAt K H t x) -> TrsAt K H ts xs
  | [], [], _, _ => by rw [TrsAt]
  | t :: ts, x :: xs, hl, h => by
    rw [TrsAt];exact ⟨x, xs, rfl, h 0 t x rfl rfl, TrsAt.of (by simpa using hl) fun j t x e1 e2 => h (j + 1) t x e1 e2⟩
section
variable {X : Cx} {pins : List (Addr × Obj)} {σ : St} {H : Hp} {s : Shared}
end
section
variable {X : Cx}
def SameK : Tr -> Tr -> Prop
  | .ls _, .ls _ => True
  | .tp _, .tp _ => True
  | _, _ => False
theorem SameK.of {t t' : Tr} (h : SameK t t') : (∃ ts us, t = .ls ts /\ t' = .ls us) \/ ∃ ts us, t = .tp ts /\ t' = .tp us := by
  cases t <;> cases t' <;> first | exact .inl ⟨_, _, rfl, rfl⟩ | exact .inr ⟨_, _, rfl, rfl⟩ | exact h.elim
def rEqD (K : Fg) (n : Nat) (neg : Bool) (x y : V) (H : Hp) (Q : VK) : Prop := ∃ t t', SameK t t' /\ TrAt K H t x /\ TrAt K H t' y /\ deep t <= n /\ deep t' <= n /\ Q (.bl (neg ^^ eqTr t t')) H
end
section
variable {X : Cx} {pins : List (Addr × Obj)} {σ : St} {H : Hp} {s : Shared}
open Classical in
end
section
variable {X : Cx}
def inTr (t : Tr) (ts : List Tr) : Bool := ts.any fun u => eqTr u t
def rInD (K : Fg) (n : Nat) (neg : Bool) : R2 := fun x y H Q => ∃ p xs ts t, y = .ref p /\ (SqL K H p xs \/ SqT K H p xs) /\ TrsAt K H ts xs /\ TrAt K H t x /\ deep t <= n /\ jt ts <= n /\ Q (.bl (neg ^^ inTr t ts)) H
end
mutual
theorem TrAt.mono {K : Fg} {H H' : Hp} (S : Same H H') : ∀ {t : Tr} {x : V}, TrAt K H t x -> TrAt K H' t x
  | .lf v, x, h => by rw [TrAt] at h ⊢; exact h
  | .ls ts, x, h => by
    rw [TrAt] at h ⊢;obtain ⟨a, xs, e, sq, h⟩ := h;exact ⟨a, xs, e, S.seq sq, TrsAt.mono S h⟩
  | .tp ts, x, h => by
    rw [TrAt] at h ⊢;obtain ⟨a, xs, e, sq, h⟩ := h;exact ⟨a, xs, e, Same.seqT S sq, TrsAt.mono S h⟩
theorem TrsAt.mono {K : Fg} {H H' : Hp} (S : Same H H') : ∀ {ts : List Tr} {xs : List V}, TrsAt K H ts xs -> TrsAt K H' ts xs
  | [], xs, h => by rw [TrsAt] at h ⊢; exact h
  | t :: ts, xs, h => by
    rw [TrsAt] at h ⊢;obtain ⟨y, ys, e, h1, h2⟩ := h;exact ⟨y, ys, e, TrAt.mono S h1, TrsAt.mono S h2⟩
end
theorem TrAt.lf {K : Fg} {H : Hp} {v : V} (f : yx v = true) : TrAt K H (.lf v) v := by rw [TrAt]; exact ⟨rfl, f⟩
theorem TrAt.ls {K : Fg} {H : Hp} {a : Addr} {xs : List V} {ts : List Tr} (h : SqL K H a xs) (q : TrsAt K H ts xs) : TrAt K H (.ls ts) (.ref a) := by rw [TrAt]; exact ⟨a, xs, rfl, h, q⟩
theorem TrAt.tp {K : Fg} {H : Hp} {a : Addr} {xs : List V} {ts : List Tr} (h : SqT K H a xs) (q : TrsAt K H ts xs) : TrAt K H (.tp ts) (.ref a) := by rw [TrAt]; exact ⟨a, xs, rfl, h, q⟩
theorem TrsAt.nil {K : Fg} {H : Hp} : TrsAt K H [] [] := by rw [TrsAt]
theorem TrsAt.cons {K : Fg} {H : Hp} {t : Tr} {ts : List Tr} {x : V} {xs : List V} (h : TrAt K H t x) (q : TrsAt K H ts xs) : TrsAt K H (t :: ts) (x :: xs) := by rw [TrsAt]; exact ⟨x, xs, rfl, h, q⟩
theorem TrsAt.flat {K : Fg} {H : Hp} : ∀ {xs : List V}, xs.all yx = true -> TrsAt K H (xs.map Tr.lf) xs
  | [], _ => TrsAt.nil
  | x :: xs, f => by
    rw [List.all_cons, Bool.and_eq_true] at f;exact TrsAt.cons (TrAt.lf f.1) (TrsAt.flat f.2)
theorem TrsAt.append {K : Fg} {H : Hp} : ∀ {ts us : List Tr} {xs ys : List V}, TrsAt K H ts xs -> TrsAt K H us ys -> TrsAt K H (ts ++ us) (xs ++ ys)
  | [], us, xs, ys, h, q => by rw [TrsAt] at h; subst h; exact q
  | t :: ts, us, xs, ys, h, q => by
    rw [TrsAt] at h;obtain ⟨y, zs, rfl, h1, h2⟩ := h;exact TrsAt.cons h1 (TrsAt.append h2 q)
theorem e_eqD {K : Fg} {n : Nat} {neg : Bool} {x y : V} {H : Hp} {Q : VK} : rEqD K n neg x y H Q = ∃ t t', SameK t t' /\ TrAt K H t x /\ TrAt K H t' y /\ deep t <= n /\ deep t' <= n /\ Q (.bl (neg ^^ eqTr t t')) H := rfl
theorem e_inD {K : Fg} {n : Nat} {neg : Bool} {x y : V} {H : Hp} {Q : VK} : rInD K n neg x y H Q = ∃ p xs ts t, y = .ref p /\ (SqL K H p xs \/ SqT K H p xs) /\ TrsAt K H ts xs /\ TrAt K H t x /\ deep t <= n /\ jt ts <= n /\ Q (.bl (neg ^^ inTr t ts)) H := rfl
end L2
namespace L2
open PySem PySem.Spec PyProof.Rows
def chr1 (c : Nat) : Str := ⟨#[c]⟩
def Itw (x : Str) : It := ⟨fun i _ => i < x.cps.size, fun i H v H' => H' = H /\ ∃ c, x.cps[i]? = some c /\ v = .str (chr1 c), fun i _ => x.cps.size <= i⟩
theorem zbk {P : Program} {w : World} {K : Fg} {tg : Expr} (it : Addr) (x : Str) (t : Tok) : Turn P w K tg (Itw x) [it] it (fun i h => h.IsStrIter it "str_ascii_iterator" x t i) where
  mem := by simp
  obj := fun i h st b hb => by
    have e : b = it := by simpa using hb
    subst e;obtain ⟨o, e, c, d⟩ := st;exact ⟨o, e, fun v z => by rw [d] at z; cases z⟩
  keep := fun i h h' st k => by
    obtain ⟨o, e, r⟩ := st;exact ⟨o, k it (by simp) o e, r⟩
  item := by
    intro X hP hw hK hc i pins s σ H E I hf st hg;subst hP hw hK;have hi : i < x.cps.size := hg;obtain ⟨f0, f1, f2, f3, f4, f5⟩ := hf it (by simp);refine wpAny_pyNext_ascii_item st (c := x.cps[i]) (by simp [hi]) fun h' st' sb => ?_
    have I1 : Inv X pins σ H { s with heap := h', toks := s.toks + 1 } := I.turned (t' := s.toks + 1) (fun b o hb e => (sb.2 b hb).trans e) f0 f1 f3 f4 f5;obtain ⟨o, e, c, d⟩ := id st';exact ⟨_, rfl, jg (s := { s with heap := h', toks := s.toks + 1 }) e c d (by decide) ⟨.str (chr1 x.cps[i]), H, I1, ⟨_, rfl⟩, ⟨rfl, _, by simp [hi], rfl⟩, st', fun b hb => (hf b hb).1⟩⟩
  done := by
    intro X hP hw hK hc i pins s σ H E I hf st hg;subst hP hw hK;have hi : x.cps.size <= i := hg;obtain ⟨f0, f1, f2, f3, f4, f5⟩ := hf it (by simp);exact wpAny_pyNext_ascii_end (I.ok.hd hc) st (by simp [hi]) fun h' eb => ⟨rfl, I.turned (t' := s.toks) (fun b o hb e => eb b o hb e) f0 f1 f3 f4 f5⟩
  self := fun _ _ _ _ _ st h => wpAny_pyIter_striter_ascii st h
theorem zat {P : Program} {w : World} {K : Fg} {tg : Expr} (it : Addr) (x : Str) (t : Tok) : Turn P w K tg (Itw x) [it] it (fun i h => h.IsStrIter it "str_iterator" x t i) where
  mem := by simp
  obj := fun i h st b hb => by
    have e : b = it := by simpa using hb
    subst e;obtain ⟨o, e, c, d⟩ := st;exact ⟨o, e, fun v z => by rw [d] at z; cases z⟩
  keep := fun i h h' st k => by
    obtain ⟨o, e, r⟩ := st;exact ⟨o, k it (by simp) o e, r⟩
  item := by
    intro X hP hw hK hc i pins s σ H E I hf st hg;subst hP hw hK;have hi : i < x.cps.size := hg;obtain ⟨f0, f1, f2, f3, f4, f5⟩ := hf it (by simp);refine wpAny_pyNext_wide_item st (c := x.cps[i]) (by simp [hi]) fun h' st' sb => ?_
    have I1 : Inv X pins σ H { s with heap := h', toks := s.toks + 1 } := I.turned (t' := s.toks + 1) (fun b o hb e => (sb.2 b hb).trans e) f0 f1 f3 f4 f5;obtain ⟨o, e, c, d⟩ := id st';exact ⟨_, rfl, jg (s := { s with heap := h', toks := s.toks + 1 }) e c d (by decide) ⟨.str (chr1 x.cps[i]), H, I1, ⟨_, rfl⟩, ⟨rfl, _, by simp [hi], rfl⟩, st', fun b hb => (hf b hb).1⟩⟩
  done := by
    intro X hP hw hK hc i pins s σ H E I hf st hg;subst hP hw hK;have hi : x.cps.size <= i := hg;obtain ⟨f0, f1, f2, f3, f4, f5⟩ := hf it (by simp);exact wpAny_pyNext_wide_end (I.ok.hd hc) st (by simp [hi]) fun h' eb => ⟨rfl, I.turned (t' := s.toks) (fun b o hb e => eb b o hb e) f0 f1 f3 f4 f5⟩
  self := fun _ _ _ _ _ st h => wpAny_pyIter_striter_wide st h
def iStr (a : TE) : TI := fun σ H R => a σ H fun x H1 => ∃ z, x = .str z /\ R (Itw z) H1
theorem pi_str {X : Cx} {tg l : Expr} {tl : TE} (hl : PE X l tl) : PI X tg l (iStr tl) := by
  intro pins s σ H R I h;refine thn (hl pins s σ H _ I h) fun v s1 ⟨x, H1, I1, r1, q1⟩ => ?_
  obtain ⟨z, e, q⟩ := q1;subst e;obtain ⟨t, rfl⟩ := r1;refine wpAny_pyIter_strU ?_
  have fin : ∀ {tn : Nat -> Heap -> Prop}, Turn X.prog X.w X.K tg (Itw z) [s1.heap.objs.size] s1.heap.objs.size tn -> tn 0 (s1.heap.push { cls := .type (strIterType z), data := .fields #[.str z t, .int 0 0] }) ->
      PIE X pins σ tg R (.ref s1.heap.objs.size) { s1 with heap := s1.heap.push { cls := .type (strIterType z), data := .fields #[.str z t, .int 0 0] } } := fun {tn} T h0 => by
    refine ⟨s1.heap.objs.size, [s1.heap.objs.size], _, _, H1, rfl, I1.kept (t' := s1.toks) fun b o e => Heap.get?_push_of_some _ e, T, h0, fun b hb => ?_, q⟩;have e : b = s1.heap.objs.size := by simpa using hb
    subst e;exact I1.fpOk (Zm _) (I1.hok.fresh (Zm _))
  cases ha : z.cps.all (· < 128) with
  | true =>
    have e : strIterType z = "str_ascii_iterator" := by simp [strIterType, ha]
    refine fin (zbk _ z t) ?_;exact ⟨_, Heap.get?_push_size _ rfl, by rw [e], rfl⟩
  | false =>
    have e : strIterType z = "str_iterator" := by simp [strIterType, ha]
    refine fin (zat _ z t) ?_;exact ⟨_, Heap.get?_push_size _ rfl, by rw [e], rfl⟩
theorem e_iStr {a : TE} {σ : St} {H : Hp} {R : It -> Hp -> Prop} : iStr a σ H R = a σ H fun x H1 => ∃ z, x = .str z /\ R (Itw z) H1 := rfl
def xj (z : Str) (n : Nat) : Str := ⟨(List.replicate n z.cps.toList).flatten.toArray⟩
theorem zbn : ∀ (n : Nat) (a acc : Array Nat), (List.replicate n a).foldl (· ++ ·) acc = acc ++ (List.replicate n a.toList).flatten.toArray := by
  intro n
  induction n with
  | zero => intro a acc; simp
  | succ n ih =>
    intro a acc;rw [Yz, YL, ih, Yz, List.flatten_cons]
    apply Array.ext'
    simp
theorem mul_is (z : Str) (n : Int) : Txt.mul z n = xj z n.toNat := by
  unfold Txt.mul xj
  by_cases h : n < 1
  . rw [if_pos h, show n.toNat = 0 by omega]; rfl
  . rw [if_neg h]
    by_cases h2 : (n == 1 || z.length == 0) = true
    . rw [if_pos h2]
      rcases Bool.or_eq_true _ _ ▸ h2 with q | q
      . have : n = 1 := by simpa using q
        subst this
        show z = _
        have : (1 : Int).toNat = 1 := rfl;rw [this];simp
      . have e : z.cps.size = 0 := by simpa [Str.length] using q
        have e2 : z.cps = #[] := Array.eq_empty_of_size_eq_zero e;obtain ⟨c⟩ := z;simp only at e2;subst e2;simp
    . rw [if_neg h2, zbn]
      simp
section
variable {X : Cx}
def rMulS : R2 := fun x y H Q => ∃ z n, x = .str z /\ y = .int n /\ -(2 ^ 62) <= n /\ n < 2 ^ 31 /\ z.length * n.toNat <= 2 ^ 20 /\ Q (.str (xj z n.toNat)) H
theorem ie : OpR X (binaryOp .Mult) rMulS := by
  intro pins s σ H x y v u Q I rx ry h;obtain ⟨z, n, rfl, rfl, h1, h2, h3, q⟩ := h;obtain ⟨t, rfl⟩ := rx;obtain ⟨t', rfl⟩ := ry;refine SB.mul ⟨?_, fun h4 h5 => ?_, fun h4 h5 => ?_⟩ fun tk k => ?_
  . rw [decide_eq_false (by omega), decide_eq_false (by omega)]; rfl
  . intro h6
    have h7 : (z.length : Int) * n <= 2 ^ 20 := by
      have : ((z.length * n.toNat : Nat) : Int) <= ((2 ^ 20 : Nat) : Int) := by exact_mod_cast h3
      rw [Int.natCast_mul, Int.toNat_of_nonneg (by omega)] at this;exact this
    have h8 : (2 ^ 63 - 1 : Int) / n * n <= z.length * n := Int.mul_le_mul_of_nonneg_right (by omega) (by omega);have h9 := Int.emod_add_mul_ediv (2 ^ 63 - 1 : Int) n;have h10 : (2 ^ 63 - 1 : Int) % n < n := Yg _ (by omega);rw [Int.mul_comm] at h8;omega
  . have : z.length * n.toNat <= sizeLine := Zd h3 (by decide)
    show decide (z.length * n.toNat > sizeLine) = false
    exact decide_eq_false (by omega)
  . rw [mul_is]
    exact ⟨.str (xj z n.toNat), H, I.tok _, ⟨_, rfl⟩, q⟩
theorem e_mulS {x y : V} {H : Hp} {Q : VK} : rMulS x y H Q = ∃ z n, x = .str z /\ y = .int n /\ -(2 ^ 62) <= n /\ n < 2 ^ 31 /\ z.length * n.toNat <= 2 ^ 20 /\ Q (.str (xj z n.toNat)) H := rfl
end
theorem hu9 {A : Around} {k : Nat} (hr : Room k A) : A.units + 1 + 8 <= cLine := by have := hr.un; omega
theorem e_ixS {x y : V} {H : Hp} {Q : VK} : rIxS x y H Q = ∃ z i c, x = .str z /\ y = .int i /\ z.length <= sizeLine /\ atI z.cps.toList i = some c /\ Q (.str ⟨#[c]⟩) H := rfl
theorem e_rev {x : V} {vs : List V} {H : Hp} {Q : VK} : zct x vs H Q = ∃ l xs, x = .ref l /\ vs = [] /\ H l = some (.lst xs) /\ Q .non (upd H l (.lst xs.reverse)) := rfl
theorem zdp {x : V} {vs : List V} {H : Hp} {Q : VK} : rClear x vs H Q = ∃ l xs, x = .ref l /\ vs = [] /\ H l = some (.lst xs) /\ Q .non (upd H l (.lst [])) := rfl
theorem zdr {x : V} {vs : List V} {H : Hp} {Q : VK} : zbw x vs H Q = ∃ l xs i k y, x = .ref l /\ vs = [.int i] /\ H l = some (.lst xs) /\ -(2 ^ 63) <= i /\ i < 2 ^ 63 /\ seqIndex? i xs.length = some k /\ xs[k]? = some y /\ Q y (upd H l (.lst (xs.eraseIdx k))) := rfl
theorem e_iT {K : Fg} {a : TE} {σ : St} {H : Hp} {R : It -> Hp -> Prop} : iTup K a σ H R = a σ H fun x H1 => ∃ p, x = .ref p /\ (∃ xs, SqT K H1 p xs) /\ R (Itt K p) H1 := rfl
section
variable {X : Cx}
def rJoin (K : Fg) : V -> List V -> Hp -> VK -> Prop := fun x vs H Q => ∃ sep b texts, x = .str sep /\ vs = [.ref b] /\ SqL K H b (texts.map V.str) /\ JoinOk sep texts = true /\ Q (.str (Txt.join sep texts)) H
theorem e_join {K : Fg} {x : V} {vs : List V} {H : Hp} {Q : VK} : rJoin K x vs H Q = ∃ sep b texts, x = .str sep /\ vs = [.ref b] /\ SqL K H b (texts.map V.str) /\ JoinOk sep texts = true /\ Q (.str (Txt.join sep texts)) H := rfl
end
section
variable {σ : St} {k : Nat} {g : TG} {tt : TT} {te : TE} {H1 : Hp} {Fin : List V -> Hp -> Prop}
theorem fz {K : Fg} {a : Addr} {xs : List V} (Pv : Nat -> List V -> Hp -> Prop) (h0 : Pv 0 [] H1) (hz : ∀ i ys H, i <= xs.length -> Pv i ys H -> ys.length <= sizeLine /\ SqT K H a xs)
    (hs : ∀ i x ys H, xs[i]? = some x -> Pv i ys H -> g x (List.replicate k none ++ σ) H fun σ2 H2 => σ2.drop k = σ /\ tt σ2 H2 fun b H3 => if b = true then te σ2 H3 fun v H4 => Pv (i + 1) (ys ++ [v]) H4 else Pv (i + 1) ys H3)
    (hd : ∀ ys H, Pv xs.length ys H -> Fin ys H) : sm (Itt K a) σ k g tt te H1 Fin := by
  refine ⟨fun i m ys H => m = xs.length - i /\ i <= xs.length /\ Pv i ys H, ⟨xs.length, by simp, ZE _, h0⟩, ?_⟩
  rintro i m ys H ⟨rfl, hi, p⟩
  have q := (hz i ys H hi p).2;refine ⟨(hz i ys H hi p).1, ?_⟩
  by_cases hlt : i < xs.length
  . refine .inr ⟨⟨xs, xs[i], q, by simp [hlt]⟩, Pv (i + 1), fun ys' H' p' => ⟨xs.length - (i + 1), by omega, rfl, hlt, p'⟩, fun x H' y => ?_⟩
    obtain ⟨e, y⟩ := y;subst e;exact hs i x ys _ (y xs q) p
  . have e : i = xs.length := by omega
    subst e;exact .inl ⟨⟨xs, q, Zm _⟩, hd ys H p⟩
end
theorem zy {e : Expr} {es : List Expr} {env : Env} (h : ∀ e' p, e ≠ .Starred e' p) : starEach (e :: es) env = (false, eval e env) :: starEach es env := by
  cases e <;> first | rfl | exact absurd rfl (h _ _)
def iSeq (K : Fg) (tl : TE) : TI := fun σ H R => tl σ H fun x H1 => ∃ a, x = .ref a /\ (((∃ xs, SqL K H1 a xs) /\ R (Itl K a) H1) \/ ((∃ xs, SqT K H1 a xs) /\ R (Itt K a) H1))
theorem e_iSeq {K : Fg} {tl : TE} {σ : St} {H : Hp} {R : It -> Hp -> Prop} : iSeq K tl σ H R = tl σ H fun x H1 => ∃ a, x = .ref a /\ (((∃ xs, SqL K H1 a xs) /\ R (Itl K a) H1) \/ ((∃ xs, SqT K H1 a xs) /\ R (Itt K a) H1)) := rfl
section
variable {X : Cx}
def rTupL (K : Fg) : List V -> Hp -> VK -> Prop := fun xs H Q => ∃ p ys, xs = [.ref p] /\ SqL K H p ys /\ ∀ l, H l = none -> Q (.ref l) (upd H l (.tup ys))
theorem xv : CallR X (.type "tuple") (rTupL X.K) := fun pins s σ H xs us Q I r h => by
  obtain ⟨p, ys, e, hq, q⟩ := h;exact gm pins s σ H xs us Q I r ⟨p, ys, e, .inl ⟨hq, q⟩⟩
theorem e_tupL {K : Fg} {xs : List V} {H : Hp} {Q : VK} : rTupL K xs H Q = ∃ p ys, xs = [.ref p] /\ SqL K H p ys /\ ∀ l, H l = none -> Q (.ref l) (upd H l (.tup ys)) := rfl
end
theorem e_disp {trs : List (TE × TE)} {σ : St} {H : Hp} {Q : VK} : tDisp trs σ H Q = ∀ p, H p = none -> oo trs σ (upd H p (.dK [])) fun ps H2 => H2 p = some (.dK []) /\ ∃ kvs : List (Key × V), ps = kvs.map (fun kv => (kV kv.1, kv.2)) /\ kvs.length <= 15 /\ Q (.ref p) (upd H2 p (.dK (zaz [] kvs))) := rfl
theorem zcs {σ : St} {H : Hp} {Q : List (V × V) -> Hp -> Prop} : oo [] σ H Q = Q [] H := rfl
theorem zd4 {tk tv : TE} {r : List (TE × TE)} {σ : St} {H : Hp} {Q : List (V × V) -> Hp -> Prop} : oo ((tk, tv) :: r) σ H Q = tk σ H fun x H1 => tv σ H1 fun y H2 => oo r σ H2 fun ps H3 => Q ((x, y) :: ps) H3 := rfl
end L2
namespace L2
open PySem PySem.Spec PyProof.Rows
section
variable {X : Cx}
def rMinL (K : Fg) (xs : List V) (H : Hp) (Q : VK) : Prop := ∃ (p : Addr) (ns : List Int), xs = [.ref p] /\ SqL K H p (ns.map V.int) /\ 0 < ns.length /\ ∀ m, m ∈ ns -> (∀ a ∈ ns, m <= a) -> Q (.int m) H
def rMaxL (K : Fg) (xs : List V) (H : Hp) (Q : VK) : Prop := ∃ (p : Addr) (ns : List Int), xs = [.ref p] /\ SqL K H p (ns.map V.int) /\ 0 < ns.length /\ ∀ m, m ∈ ns -> (∀ a ∈ ns, a <= m) -> Q (.int m) H
theorem e_minL {K : Fg} {xs : List V} {H : Hp} {Q : VK} : rMinL K xs H Q = ∃ (p : Addr) (ns : List Int), xs = [.ref p] /\ SqL K H p (ns.map V.int) /\ 0 < ns.length /\ ∀ m, m ∈ ns -> (∀ a ∈ ns, m <= a) -> Q (.int m) H := rfl
theorem e_maxL {K : Fg} {xs : List V} {H : Hp} {Q : VK} : rMaxL K xs H Q = ∃ (p : Addr) (ns : List Int), xs = [.ref p] /\ SqL K H p (ns.map V.int) /\ 0 < ns.length /\ ∀ m, m ∈ ns -> (∀ a ∈ ns, a <= m) -> Q (.int m) H := rfl
theorem iy (hc : X.calm = true) : CallR X (.builtin "max") (rMaxL X.K) := by
  intro pins s σ H xs us Q I r h;obtain ⟨p, ns, rfl, hq, hne, q⟩ := h;obtain ⟨u, rfl, rx⟩ := Vals.one r;cases rx;obtain ⟨its, rv, pl, hz⟩ := I.list hq;have hi : IntsAre its ns := ao rv;obtain ⟨zs, hx⟩ := hi.allInts.items;have hl' : s.heap.IsList p (intItems zs) := hx ▸ pl.isList
  have hns : ns = zs.toList.map (·.1) := by
    rw [<- nums_intItems, <- hx];exact (show numsOf its.toArray.toList = ns from hi.numsOf).symm
  have hsz : 0 < zs.size := by
    have h3 := hne; rw [hns, Za, ZZ] at h3; exact h3
  refine max_intList (I.ok.hd hc) hl' hsz fun v h' tk hv hk => ?_
  obtain ⟨t, rfl⟩ := intItems_at hv;obtain ⟨h1, h2⟩ := argBest_gt (numAt zs) (zs.size - 1);refine ⟨V.int _, H, I.kept hk, ⟨_, rfl⟩, q _ ?_ fun a ha => ?_⟩
  . rw [hns, numAt_eq]; exact getD_mem (by rw [Za, ZZ]; omega)
  . rw [hns] at ha
    obtain ⟨j, hj, rfl⟩ := mem_getD ha;rw [Za, ZZ] at hj;rw [<- numAt_eq]; exact h2 j (by omega)
end
end L2
namespace L2
open PySem PySem.Spec PyProof.Rows
section
variable {prog : Program} {w : World} {A : Around} {E : Value -> Shared -> Prop} {s : Shared}
end
section
variable {X : Cx}
def zdb (K : Fg) (t : TA) : TE := fun σ H Q => t σ H fun vs H1 => ∃ p xs, vs = [.ref p] /\ SqL K H1 p xs /\ ∀ l, H1 l = none -> Q (.ref l) (upd H1 l (.lst xs.reverse))
theorem zci {K : Fg} {t : TA} {σ : St} {H : Hp} {Q : VK} : zdb K t σ H Q = t σ H fun vs H1 => ∃ p xs, vs = [.ref p] /\ SqL K H1 p xs /\ ∀ l, H1 l = none -> Q (.ref l) (upd H1 l (.lst xs.reverse)) := rfl
def zdi (t : TA) : TE := fun σ H Q => t σ H fun vs H1 => ∃ j : Nat, vs = [.int j] /\ j <= 1000 /\ ∀ l, H1 l = none -> Q (.ref l) (upd H1 l (.lst (((List.range j).map fun i : Nat => ((i : Nat) : Int)).map V.int)))
theorem zbq {t : TA} {σ : St} {H : Hp} {Q : VK} : zdi t σ H Q = t σ H fun vs H1 => ∃ j : Nat, vs = [.int j] /\ j <= 1000 /\ ∀ l, H1 l = none -> Q (.ref l) (upd H1 l (.lst (((List.range j).map fun i : Nat => ((i : Nat) : Int)).map V.int))) := rfl
end
end L2
namespace L2
open PySem PySem.Spec PyProof.Rows
def seen (val : Nat -> Str) : Nat -> List Str
  | 0 => []
  | i + 1 => if val i ∈ seen val i then seen val i else seen val i ++ [val i]
theorem eg (val : Nat -> Str) : ∀ i, (seen val i).length <= i
  | 0 => Zm _
  | i + 1 => by
    have := eg val i;unfold seen
    split
    . omega
    . rw [Zo, Yh]; omega
theorem zc6 (val : Nat -> Str) (i : Nat) (k : Str) : (decide (k ∈ seen val i) || decide (k = val i)) = decide (k ∈ seen val (i + 1)) := by
  conv => rhs; unfold seen
  split
  . rename_i h
    by_cases e : k = val i
    . subst e; simp [h]
    . simp [e]
  . simp
theorem zao (val : Nat -> Str) (i : Nat) : (if decide (val i ∈ seen val i) = true then (seen val i).length else (seen val i).length + 1) = (seen val (i + 1)).length := by
  conv => rhs; unfold seen
  by_cases h : val i ∈ seen val i
  . simp [h]
  . simp [h]
section
variable {prog : Program} {w : World} {A : Around} {R : Result -> Shared -> Prop} {I : Addr} {fp wr : List Addr} {G : Array GenState -> Array GenState -> Prop} {n : Nat} {P : Nat -> Value -> Prop} {St : Nat -> Shared -> Prop}
theorem cf (W : WalksS prog w A.in1 I fp wr G n P St) (T : Addr) (hT : T ∉ fp) (val : Nat -> Str) (hval : ∀ i v, P i v -> ∃ t, v = .str (val i) t) (hb : n + 1 < scanBound) :
    ∀ (k i : Nat) (s : Shared), n - i = k -> i <= n -> St i s -> s.heap.SetOf (PySem.strKind prog w) T (fun k' => decide (k' ∈ seen val i)) (seen val i).length ->
      (∀ s', Moved (T :: wr) G s s' -> s'.heap.SetOf (PySem.strKind prog w) T (fun k' => decide (k' ∈ seen val n)) (seen val n).length -> R (.ok (.ret .none)) s') ->
      codeAny (model prog w) A (.builtin "set.update.loop" ⟨[.ref T, .ref I], []⟩) R s := by
  have hTw : T ∉ wr := fun h => hT (W.sub _ h)
  have sub : ∀ b ∈ wr, b ∈ T :: wr := fun b h => Zv _ h
  intro k
  induction k with
  | zero =>
    intro i s hk hi hst hS hR;obtain rfl : i = n := by omega
    refine codeAny_builtin PyProof.Rows.F.entry_set_update_loop ?_;rw [Around.under_plainId PyProof.Rows.F.plain_set_update_loop _]
    show wpAny _ A.in1 (pyNext (.ref I) >>= _) _ _ s
    refine wpAny_bind (W.done s _ _ hst fun s' hm => ?_);refine wpAny_pure (hR s' (hm.mono sub) ?_);obtain ⟨o, es, ep, t, ho, r⟩ := hS;exact ⟨o, es, ep, t, hm.heap T _ hTw ho, r⟩
  | succ k ih =>
    intro i s hk hi hst hS hR;have hlt : i < n := by omega
    refine codeAny_builtin PyProof.Rows.F.entry_set_update_loop ?_;rw [Around.under_plainId PyProof.Rows.F.plain_set_update_loop _]
    show wpAny _ A.in1 (pyNext (.ref I) >>= _) _ _ s
    refine wpAny_bind (W.item i s _ _ hlt hst fun v s' hP hst' hm => ?_);obtain ⟨t, rfl⟩ := hval i v hP
    have hS' : s'.heap.SetOf (PySem.strKind prog w) T (fun k' => decide (k' ∈ seen val i)) (seen val i).length := by
      obtain ⟨o, es, ep, tb, ho, r⟩ := hS;exact ⟨o, es, ep, tb, hm.heap T _ hTw ho, r⟩
    show wpAny _ A.in1 (holding [Value.str (val i) t] (setAdd T (.str (val i) t)) >>= _) _ _ s'
    refine wpAny_bind (wpAny_holding ?_);unfold setAdd;refine wpAny_holding (wpAny_bind ((PySem.strKind prog w).pyHash (k := val i) (strKind_is _ _ _ _) ?_));have room : (seen val i).length + 1 < scanBound := by have := eg val i; omega
    refine wpAny_setAddHashed_of (knd := PySem.strKind prog w) (s := { s' with toks := s'.toks + 1 }) (strKind_is _ _ _ _) rfl hS' room fun h' hsb hS2 => ?_
    have hSi : h'.SetOf (PySem.strKind prog w) T (fun k' => decide (k' ∈ seen val (i + 1))) (seen val (i + 1)).length := by
      have e1 := zao val i;have e2 : (fun k' => decide (k' ∈ seen val (i + 1))) = fun k' => (decide (k' ∈ seen val i) || decide (k' = val i)) := funext fun k' => (zc6 val i k').symm
      rw [<- e1, e2];exact hS2
    refine wpAny_pure ⟨plainId_quiet PyProof.Rows.F.plain_set_update_loop _, ih (i + 1) _ (by omega) hlt (W.frame _ s' _ _ hst' (YA _) fun b hb o e => ?_) hSi fun s2 hm2 hS2' => ?_⟩
    . rw [hsb.2 b (fun z : b = T => hT (z ▸ hb))]; exact e
    . refine hR s2 (Moved.trans W.gtrans ((hm.mono sub).then_heap (YA _) fun b o hb e => ?_) hm2) hS2'
      rw [hsb.2 b (fun z : b = T => hb (z ▸ ZA))]; exact e
end
abbrev setO (led : Bool) : Obj := { cls := .type "set", dict := none, data := .set #[] 0 (.fresh 0 0 led) }
section
variable {prog : Program} {w : World} {A : Around} {E : Value -> Shared -> Prop} {s : Shared}
def bv (prog : Program) (w : World) (s : Shared) (val : Nat -> Str) (n : Nat) (h' : Heap) : Prop :=
  h'.SetOf (PySem.strKind prog w) s.heap.objs.size (fun k' => decide (k' ∈ seen val n)) (seen val n).length /\ ∀ b o, b < s.heap.objs.size -> s.heap.get? b = some o -> h'.get? b = some o
set_option maxHeartbeats 3200000 in
theorem gi {l : Addr} {items : Array Value} {val : Nat -> Str} {Q : Value -> Shared -> Prop} (hh : A.handled = none) (hl : s.heap.IsList l items) (hv : ∀ (i : Nat) v, items[i]? = some v -> ∃ t, v = .str (val i) t) (hb : items.size + 1 < scanBound)
    (h : ∀ (h' : Heap) (tk : Nat), bv prog w s val items.size h' -> Q (.ref s.heap.objs.size) { s with heap := h', toks := tk }) : wpAny (model prog w) A (call (.type "set") [.ref l]) Q E s := by
  obtain ⟨c, tl, hmro⟩ := F.called_set.mro;have hmade := F.called_set.made;have hsub := F.called_set.sub;refine wpAny_call (codeAny_of_tree ?_)
  show wpAny _ _ (callAny (.type "set") _) _ _ _
  refine wpAny_pure ⟨Code.quiet_builtin _ (by decide +kernel), codeAny_builtin F.entry_type_call ?_⟩;rw [Around.under_plain (weight_type_call_type "set" [.ref l] []) rfl];have h1 := F.called_set.notType;have h2 := F.called_set.canCreate;have hct := F.typeCall_set_1 (.ref l)
  repeat (any_goals (first | assumption | wp_step))
  refine codeAny_mono (code_set_new_1 (.ref l) (E := E) (Q₁ := fun obj s₁ => ∃ led : Bool, obj = .ref s.heap.objs.size /\ s₁ = { s with heap := s.heap.push (setO led) }) fun led => ⟨led, rfl, rfl⟩) fun r s₁ hr => ?_
  match r, hr with
  | .error e, hr => exact hr
  | .ok .next, hr => exact hr.elim
  | .ok .brk, hr => exact hr.elim
  | .ok .cont, hr => exact hr.elim
  | .ok (.ret obj), hr =>
    obtain ⟨led, rfl, rfl⟩ := hr;have hS : (s.heap.push (setO led)).get? s.heap.objs.size = some (setO led) := Heap.get?_push_size _ rfl;have hT : Shared.TypeIs { s with heap := s.heap.push (setO led) } (.ref s.heap.objs.size) "set" := ⟨_, hS, rfl⟩;have hli := F.called_set.init.lookup;have hbi := F.called_set.init.bind (.ref s.heap.objs.size)
    repeat (any_goals (first | assumption | wp_step))
    refine codeAny_mono (codeAny_call_builtin (R := wants (fun r s₂ => r = .none /\ ∃ h' tk, s₂ = { s with heap := h', toks := tk } /\ bv prog w s val items.size h') E) F.called_set.init.plain F.entry_set_init (check_set_init_1 hT ?_)) fun r₂ s₂ hr₂ => ?_
    . obtain ⟨ol, hol, hcl, nl, hdl⟩ := id hl
      have hl1 : (s.heap.push (setO led)).IsList l items := hl.push _;obtain ⟨ocls, odict, odata, oslots⟩ := ol;simp only at hcl hdl;subst hcl; subst hdl;have hol' : (s.heap.push (setO led)).get? l = some { cls := .type "list", dict := odict, data := .seq items nl, slots := oslots } := Heap.get?_push_of_some _ hol;have hsls := F.sub_list_set;have hslf := F.sub_list_frozenset;have hne : (Value.type "list" == Value.type "dict") = false := by decide
      unfold Builtin.«set.__init__» noKeywords Builtin.Frozenset.updateFrom;generalize hPI : pyIter = PI
      wp_walk
      subst hPI;refine wpAny_pyIter_list hl1 ?_;refine wpAny_bind (wpAny_runValue ?_);have hlS : l < s.heap.objs.size := Heap.lt_size hol;have hsz : (s.heap.push (setO led)).objs.size = s.heap.objs.size + 1 := size_push' ..;have hneI : l ≠ (s.heap.push (setO led)).objs.size := by rw [hsz]; exact Zs (Ym hlS)
      have hSf : s.heap.objs.size ∉ [(s.heap.push (setO led)).objs.size, l] := by
        rw [hsz];simp only [ZK, Zx, or_false, not_or];exact ⟨Zs (Yp _), ZT hlS⟩
      refine cf ((Walks.list (by simp [hh]) _ l hneI items).toS) s.heap.objs.size hSf val hv hb (items.size - 0) 0 _ (by omega) (ZE _) ⟨⟨_, Heap.get?_push_size _ rfl, rfl, rfl⟩, hl1.push _⟩ ?_ ?_
      . have hget : ((s.heap.push (setO led)).push { cls := .type "list_iterator", data := .fields #[.ref l, .int 0 0] }).get? s.heap.objs.size = some (setO led) := Heap.get?_push_of_some _ hS
        exact (PyProof.Rows.setObjOf_fresh (knd := PySem.strKind prog w) led).setOf hget (by unfold scanBound; omega)
      . intro s' hm hS'
        rw [Moved.eq_with hm];refine wpAny_pure ?_;refine wpAny_pure ⟨rfl, s'.heap, s'.toks, rfl, hS', fun b o hb e => hm.heap b o ?_ (Heap.get?_push_of_some _ (Heap.get?_push_of_some _ e))⟩;rw [hsz];simp only [ZK, Zx, or_false, not_or];exact ⟨Zs hb, Zs (Ym hb)⟩
    . match r₂, hr₂ with
      | .error e, hr₂ => exact hr₂
      | .ok .next, hr₂ => exact hr₂.elim
      | .ok .brk, hr₂ => exact hr₂.elim
      | .ok .cont, hr₂ => exact hr₂.elim
      | .ok (.ret r), hr₂ =>
        obtain ⟨rfl, h', tk, rfl, hd⟩ := hr₂
        repeat (any_goals (first | assumption | wp_step))
        exact h _ _ hd
end
end L2
namespace L2
open PySem PySem.Spec PyProof.Rows
theorem zdl {zs : List Str} {us : List Value} (r : Vals (zs.map V.str) us) (i : Nat) (v : Value) (h : us[i]? = some v) : ∃ t, v = .str (zs.getD i ⟨#[]⟩) t := by
  have hl := r.length;rw [Za] at hl;have hi : i < zs.length := by rw [hl]; exact (Zc.mp h).1
  obtain ⟨u, hu, ru⟩ := r.get (i := i) (x := V.str zs[i]) (by simp [hi]);rw [h] at hu;cases hu;obtain ⟨t, rfl⟩ := ru;exact ⟨t, by simp [Zk, hi]⟩
section
variable {X : Cx}
def bq (K : Fg) (t : TA) : TE := fun σ H Q => t σ H fun vs H1 => ∃ (p : Addr) (zs : List Str), vs = [.ref p] /\ SqL K H1 p (zs.map V.str) /\ zs.length <= 1000 /\ Q (.int (seen (fun i => zs.getD i ⟨#[]⟩) zs.length).length) H1
theorem zcz {K : Fg} {t : TA} {σ : St} {H : Hp} {Q : VK} : bq K t σ H Q = t σ H fun vs H1 => ∃ (p : Addr) (zs : List Str), vs = [.ref p] /\ SqL K H1 p (zs.map V.str) /\ zs.length <= 1000 /\ Q (.int (seen (fun i => zs.getD i ⟨#[]⟩) zs.length).length) H1 := rfl
theorem zbj {e : Expr} {t : TA} {p1 p2 q1 q2 : Pos} (hc : X.calm = true) (hgL : Gl X "len") (hmL : X.mg "len" = none) (hgR : Gl X "set") (hmR : X.mg "set" = none) (ha : PA X [e] t)
    (he : starEach [e] X.env = (false, eval e X.env) :: starEach [] X.env := by rfl) (he2 : starEach [.Call (.Name "set" p2) [e] [] q2] X.env = (false, eval (.Call (.Name "set" p2) [e] [] q2) X.env) :: starEach [] X.env := by rfl) :
    PE X (.Call (.Name "len" p1) [.Call (.Name "set" p2) [e] [] q2] [] q1) (bq X.K t) := by
  intro pins s σ H Q I h;refine wpAny_Call_Name_kw (ss I hgL hmL xm ?_);refine PyProof.Rows.callWith_builtin1 ?_ he2 rfl;rw [he2]
  show wpAny _ _ (spliced ((false, eval (.Call (.Name "set" p2) [e] [] q2) X.env) :: backTo q1 (starEach [] X.env))) _ _ s
  refine Calls.spliced_cons ?_;refine wpAny_Call_Name_kw (ss I hgR hmR bt_set ?_);refine PyProof.Rows.callWith_type1 (thn (ha q2 pins s σ H _ I h) fun us s1 ⟨vs, H1, I1, r1, q⟩ => ?_) he rfl;obtain ⟨p, zs, rfl, hq, hz, q⟩ := q;obtain ⟨u, rfl, rx⟩ := Vals.one r1;cases rx;obtain ⟨its, rv, pl, _⟩ := I1.list hq;have hlen : its.length = zs.length := by have := rv.length; rw [Za] at this; exact this.symm
  refine gi (val := fun i => zs.getD i ⟨#[]⟩) (I1.ok.hd hc) pl.isList (fun i v hv => zdl rv i v (by simpa using hv)) (by rw [Zr, hlen]; exact Yk (Yi hz) (by decide)) fun h' tk hd => ?_
  refine Calls.spliced_nil ?_;obtain ⟨hS, kp⟩ := hd;rw [show its.toArray.size = zs.length by rw [Zr, hlen]] at hS;have I2 : Inv X pins σ H1 { s1 with heap := h', toks := tk } := I1.kept fun b o e => kp b o (Heap.lt_size e) e
  obtain ⟨o, es, ep, t, ho, ex, hd, _, _, hz2, hf, hn⟩ := hS;have h3 : ((es.size : Nat) : Int) < 2 ^ 63 := by unfold scanBound at hz2; omega
  refine call_len_set ho ex hd hf h3 ⟨.int es.size, H1, I2.tok _, ⟨_, rfl⟩, ?_⟩;rw [hn];exact q
def rLeS (x y : V) (H : Hp) (Q : VK) : Prop := ∃ i j, x = .str i /\ y = .str j /\ Q (.bl (!decide (j.cps.toList < i.cps.toList))) H
theorem e_leS {x y : V} {H : Hp} {Q : VK} : rLeS x y H Q = ∃ i j, x = .str i /\ y = .str j /\ Q (.bl (!decide (j.cps.toList < i.cps.toList))) H := rfl
theorem zbd : OpR X (compareOp .LtE) rLeS := by
  intro pins s σ H x y v u Q I rx ry h;obtain ⟨i, j, rfl, rfl, q⟩ := h;obtain ⟨t, rfl⟩ := rx;obtain ⟨t', rfl⟩ := ry;exact PySem.P.le_str (yc I q rfl)
end
section
variable {σ : St} {k : Nat} {g : TG} {tt : TT} {te : TE} {H1 : Hp} {Fin : List V -> Hp -> Prop}
theorem zdf {z : Str} (Pv : Nat -> List V -> Hp -> Prop) (h0 : Pv 0 [] H1) (hz : ∀ i ys H, i <= z.cps.size -> Pv i ys H -> ys.length <= sizeLine)
    (hs : ∀ i c ys H, z.cps[i]? = some c -> Pv i ys H -> g (.str (chr1 c)) (List.replicate k none ++ σ) H fun σ2 H2 => σ2.drop k = σ /\ tt σ2 H2 fun b H3 => if b = true then te σ2 H3 fun v H4 => Pv (i + 1) (ys ++ [v]) H4 else Pv (i + 1) ys H3)
    (hd : ∀ ys H, Pv z.cps.size ys H -> Fin ys H) : sm (Itw z) σ k g tt te H1 Fin := by
  refine ⟨fun i m ys H => m = z.cps.size - i /\ i <= z.cps.size /\ Pv i ys H, ⟨z.cps.size, by simp, ZE _, h0⟩, ?_⟩
  rintro i m ys H ⟨rfl, hi, p⟩
  refine ⟨hz i ys H hi p, ?_⟩
  by_cases hlt : i < z.cps.size
  . refine .inr ⟨hlt, Pv (i + 1), fun ys' H' p' => ⟨z.cps.size - (i + 1), by omega, rfl, hlt, p'⟩, fun x H' y => ?_⟩
    obtain ⟨e, c, e2, y⟩ := y;subst e y;exact hs i c ys _ e2 p
  . have e : i = z.cps.size := by omega
    subst e;exact .inl ⟨Zm _, hd ys H p⟩
end
def my : List Int -> List V
  | [] => []
  | i :: is => .int i :: my is
theorem e_vI0 : my [] = [] := rfl
theorem e_vI {i : Int} {is : List Int} : my (i :: is) = .int i :: my is := rfl
def tInts (ns : List Int) : TA := fun _ H Q => Q (my ns) H
theorem e_ints {ns : List Int} {σ : St} {H : Hp} {Q : List V -> Hp -> Prop} : tInts ns σ H Q = Q (my ns) H := rfl
end L2
namespace L2
open PySem PySem.Spec PyProof.Rows
section
variable {X : Cx}
def rIsB (x y : V) (H : Hp) (Q : VK) : Prop := ∃ b c, x = .bl b /\ y = .bl c /\ Q (.bl (b == c)) H
theorem e_isB {x y : V} {H : Hp} {Q : VK} : rIsB x y H Q = ∃ b c, x = .bl b /\ y = .bl c /\ Q (.bl (b == c)) H := rfl
end
end L2
namespace L2
open PySem PySem.Spec PyProof.Rows
theorem bz {α : Type} {l : List α} {k : Nat} {x : α} (h : l[k]? = some x) : l.drop k = x :: l.drop (k + 1) := by
  obtain ⟨hk, e⟩ := Zc.mp h;rw [List.drop_eq_getElem_cons hk, e]
theorem nu {X : Cx} {body : List Stmt} {k : Nat} {st : Stmt} {t ts : TS} (hs : PS X st t) (h : body[k]? = some st) (hr : PSs X (body.drop (k + 1)) ts) : PSs X (body.drop k) (tSeq t ts) := by
  rw [bz h];exact zj hs hr
theorem zd0 {X : Cx} {body : List Stmt} {k : Nat} {st : Stmt} {t : TS} (hs : PS X st t) (h : body[k]? = some st) (hl : body[k + 1]? = none) : PSs X (body.drop k) t := by
  rw [bz h, List.drop_eq_nil_of_le (List.getElem?_eq_none_iff.mp hl)];exact zc hs
theorem zd9 {X : Cx} {body : List Stmt} {t : TS} (h : PSs X (body.drop 0) t) : PSs X body t := h
end L2
namespace L2
open PySem PySem.Spec PyProof.Rows
section
variable {prog : Program} {w : World} {A : Around} {E : Value -> Shared -> Prop} {s : Shared}
theorem zcr {t b : Addr} {vs ws : List Value} {Q : Value -> Shared -> Prop} (ht : IsTup s.heap t vs.toArray) (hb : IsTup s.heap b ws.toArray) (hv : vs = []) (h0 : Q (.ref b) s) :
    wpAny (model prog w) A (binaryOp .Add (.ref t) (.ref b)) Q E s := by
  obtain ⟨⟨cls, dd, data, sl⟩, ho, hc, n, hd⟩ := id ht;obtain ⟨⟨cls2, dd2, data2, sl2⟩, ho2, hc2, n2, hd2⟩ := id hb;simp only at hc hd hc2 hd2;subst hc hd hc2 hd2
  exact concat_meets ⟨_, ho, rfl⟩ ⟨_, ho2, rfl⟩ noFill_tuple_add seq_tuple_add PySem.F.slot_tuple_add PySem.F.entry_tuple_add (PySem.F.args_tuple_add_2 _ _)
    (tuple_addW0 t b vs.toArray ws.toArray n n2 dd dd2 sl sl2 (by simp [hv])) ⟨ho, ho2, h0⟩
end
theorem zcv {H : Hp} {a : Addr} {o : HO} (n : H a = none) : Same H (upd H a o) := fun b u e => by
  rw [zp (fun z => by rw [z, n] at e; cases e)]; exact e
section
variable {X : Cx}
def rCatH : R2 := fun x y H Q => ∃ a b xs ys, x = .ref a /\ y = .ref b /\ H a = some (.tup xs) /\ H b = some (.tup ys) /\ xs.length + ys.length <= sizeLine /\ ∀ H' p, Same H H' -> H' p = some (.tup (xs ++ ys)) -> Q (.ref p) H'
theorem e_catH {x y : V} {H : Hp} {Q : VK} : rCatH x y H Q = ∃ a b xs ys, x = .ref a /\ y = .ref b /\ H a = some (.tup xs) /\ H b = some (.tup ys) /\ xs.length + ys.length <= sizeLine /\ ∀ H' p, Same H H' -> H' p = some (.tup (xs ++ ys)) -> Q (.ref p) H' := rfl
theorem ai : OpR X (binaryOp .Add) rCatH := by
  intro pins s σ H x y v u Q I rx ry h;obtain ⟨a, b, xs, ys, rfl, rfl, ha, hb, hz, q⟩ := h
  by_cases e1 : xs = []
  . subst e1
    cases rx;cases ry;obtain ⟨its, r1, p1, _⟩ := I.tuple (SqT.of ha);obtain ⟨its2, r2, p2, _⟩ := I.tuple (SqT.of hb);exact zcr p1 p2 (r1.nil_iff.mpr rfl) ⟨.ref b, H, I, rfl, q H b (Same.refl _) hb⟩
  . refine zeb pins s σ H (.ref a) (.ref b) v u Q I rx ry ⟨a, b, xs, ys, rfl, rfl, .of ha, .of hb, e1, hz, fun e2 => ?_, fun e2 p hp => ?_⟩
    . subst e2
      exact q H a (Same.refl _) (by rw [ha, ZU])
    . exact q _ p (zcv hp) zf
theorem zdh {x : V} {vs : List V} {H : Hp} {Q : VK} : bw x vs H Q = ∃ l b xs zs, x = .ref l /\ vs = [.ref b] /\ H l = some (.lst xs) /\ H b = some (.lst zs) /\ xs.length + zs.length <= sizeLine /\ Q .non (upd H l (.lst (xs ++ zs))) := rfl
end
def iRngD (ta : TA) : TI := fun σ H R => ta σ H fun vs H1 => ∃ i j : Int, vs = [.int i, .int j, .int (-1)] /\ (-(2 ^ 61) <= i /\ i < 2 ^ 61 /\ -(2 ^ 61) <= j /\ j < 2 ^ 61) /\ R (Its i (-1) (i - j).toNat) H1
theorem e_rngD {ta : TA} {σ : St} {H : Hp} {R : It -> Hp -> Prop} : iRngD ta σ H R = ta σ H fun vs H1 => ∃ i j : Int, vs = [.int i, .int j, .int (-1)] /\ (-(2 ^ 61) <= i /\ i < 2 ^ 61 /\ -(2 ^ 61) <= j /\ j < 2 ^ 61) /\ R (Its i (-1) (i - j).toNat) H1 := rfl
section
open HT
variable {prog : Program} {w : World} {A : Around} {E : Value -> Shared -> Prop} {s : Shared}
end
section
variable {X : Cx}
def rSlH : V -> Option Int -> Option Int -> Hp -> VK -> Prop := fun x lo hi H Q => ∃ a xs, x = .ref a /\ H a = some (.tup xs) /\ ∀ H' p, Same H H' -> H' p = some (.tup (cutV xs lo hi)) -> Q (.ref p) H'
theorem e_slH {x : V} {lo hi : Option Int} {H : Hp} {Q : VK} : rSlH x lo hi H Q = ∃ a xs, x = .ref a /\ H a = some (.tup xs) /\ ∀ H' p, Same H H' -> H' p = some (.tup (cutV xs lo hi)) -> Q (.ref p) H' := rfl
theorem e_slT {K : Fg} {x : V} {lo hi : Option Int} {H : Hp} {Q : VK} : rSlT K x lo hi H Q = ∃ a xs, x = .ref a /\ SqT K H a xs /\ ¬ (HT.sIx xs.length 0 lo = 0 /\ HT.sIx xs.length xs.length hi = xs.length) /\ ∀ p, H p = none -> Q (.ref p) (upd H p (.tup (cutV xs lo hi))) := rfl
end
end L2
namespace L2
open PySem PySem.Spec PyProof.Rows
section
variable {σ : St} {k : Nat} {g : TG} {tt : TT} {te : TE} {H1 : Hp} {Fin : List V -> Hp -> Prop}
end
end L2
namespace L2
open PySem PySem.Spec PyProof.Rows
theorem gr (l : Addr) (items : Array Value) (n : Nat) (dd : Option Addr) (sl : Array (Option Value)) (x : Value) (e : Value -> Bool) (j : Nat) (hj : j < items.size)
    (hit : e items[j] = true) (hno : ∀ m (hm : m < items.size), m < j -> e items[m] = false) :
    Meets (Builtin.«tuple.index» ⟨[.ref l, x], []⟩)
      (fun A R s => s.heap.get? l = some { cls := .type "tuple", dict := dd, data := .seq items n, slots := sl } /\ (∀ y, y ∈ items -> SeqAt.EqAt A.in1 s y x (e y)) /\ R (.ok (.ret (.int j s.toks))) { s with toks := s.toks + 1 }) :=
  .of_wp fun prog w A R s h => by
    obtain ⟨hp, g, d, tk, os⟩ := s; obtain ⟨hl, he, h⟩ := h
    wp_walk using AutoSeq1.wpAny_loadPart' hl
    show wpAny (model prog w) A.in1 (forIn [:min items.size items.size] ((none, ()) : Option PySem.Fin × Unit) fun (i : Nat) _ => (match items[i]? with
      | some y => do
        let __do_lift <- eqBool y x
        if __do_lift = true then do
            let __do_lift <- retInt (i : Int)
            pure (ForInStep.done (some __do_lift, ()))
          else pure (ForInStep.yield (none, ()))
      | _ => pure (ForInStep.yield (none, ())) : Sem (ForInStep (Option PySem.Fin × Unit)))) _ _ _
    rw [Std.Legacy.Range.forIn_eq_forIn_range'];refine wpAny_forIn_list _ (fun rest b s' => b = (none, ()) /\ s' = (⟨hp, g, d, tk, os⟩ : Shared) /\ ∃ i, i <= j /\ rest = List.range' i (items.size - i)) _ ?turn ?fin _ _ ⟨rfl, rfl, 0, ZE _, by simp [Std.Legacy.Range.size]⟩
    case turn =>
      rintro k rest b s' ⟨rfl, rfl, i, hi, er⟩
      have hlt : i < items.size := by omega
      rw [show items.size - i = (items.size - (i + 1)) + 1 by omega, List.range'_succ] at er
      injection er with e1 e2
      subst e1;have ei : items[k]? = some items[k] := by simp [hlt]
      rw [ei];refine wpAny_bind (he _ (Array.getElem_mem hlt) prog w _ _ ?_)
      by_cases hk : k = j
      . subst hk
        rw [hit, if_pos rfl];refine wpAny_bind ?_;unfold retInt
        wp_walk
        exact ⟨_, rfl, h⟩
      . rw [hno k hlt (by omega)]
        wp_walk
        exact ⟨rfl, rfl, k + 1, by omega, e2⟩
    case fin =>
      rintro b s' ⟨rfl, rfl, i, hi, er⟩
      have : (List.range' i (items.size - i)).length = 0 := by rw [<- er]; rfl
      rw [List.length_range'] at this;omega
section
variable {X : Cx}
structure FirstAt (xs : List V) (y : V) (j : Nat) : Prop where
  flat : yx y = true
  flats : xs.all yx = true
  hit : ∃ z, xs[j]? = some z /\ eqV z y = true
  no : ∀ (m : Nat) (z : V), m < j -> xs[m]? = some z -> eqV z y = false
theorem FirstAt.lt {xs : List V} {y : V} {j : Nat} (h : FirstAt xs y j) : j < xs.length := by
  obtain ⟨z, e, _⟩ := h.hit;exact (Zc.mp e).1
theorem jf {xs : List V} {us : List Value} {y z : V} {m : Nat} (r : Vals xs us) (fs : xs.all yx = true) (e : xs[m]? = some z) (hm : m < us.toArray.size) : eqU y us.toArray[m] = eqV z y := by
  obtain ⟨w, hw, rw'⟩ := r.get e
  have : us.toArray[m] = w := by
    have h2 := (Zc.mp hw).2
    simpa using h2
  rw [this];exact zcg rw' (ZL.mp fs _ (Zi e))
def bd (K : Fg) : V -> List V -> Hp -> VK -> Prop := fun x vs H Q => ∃ p xs y j, x = .ref p /\ vs = [y] /\ SqT K H p xs /\ FirstAt xs y j /\ Q (.int (j : Nat)) H
def ac (K : Fg) : V -> List V -> Hp -> VK -> Prop := fun x vs H Q => ∃ p xs y j, x = .ref p /\ vs = [y] /\ SqL K H p xs /\ FirstAt xs y j /\ Q (.int (j : Nat)) H
theorem zcm {K : Fg} {x : V} {vs : List V} {H : Hp} {Q : VK} : bd K x vs H Q = ∃ p xs y j, x = .ref p /\ vs = [y] /\ SqT K H p xs /\ FirstAt xs y j /\ Q (.int (j : Nat)) H := rfl
theorem zc1 {K : Fg} {x : V} {vs : List V} {H : Hp} {Q : VK} : ac K x vs H Q = ∃ p xs y j, x = .ref p /\ vs = [y] /\ SqL K H p xs /\ FirstAt xs y j /\ Q (.int (j : Nat)) H := rfl
theorem zby : MtR X "tuple.index" (bd X.K) := by
  intro pins s σ H x vs v us Q I rx rvs h;obtain ⟨p, xs, y, j, rfl, rfl, hq, hF, q⟩ := h;cases rx;obtain ⟨u, rfl, ru⟩ := pz rvs;obtain ⟨its, r, pl, hz⟩ := I.tuple hq;obtain ⟨⟨cls, dd, data, sl⟩, ho, hc, n, hd⟩ := id pl;simp only at hc hd;subst hc hd;have hl := r.length;have hjl : j < its.toArray.size := by rw [Zr, <- hl]; exact hF.lt
  obtain ⟨z, e, hit⟩ := hF.hit;refine call_meets PySem.F.slot_tuple_index ⟨_, ho, rfl⟩ PySem.F.entry_tuple_index (PySem.F.args_tuple_index_2 _ _) (gr p its.toArray n dd sl u (eqU y) j hjl ?_ ?_) ⟨ho, fun w hw => k7 ru hF.flat r hF.flats w (by simpa using hw), ⟨.int j, H, I.tok _, ⟨_, rfl⟩, q⟩⟩
  . rw [jf r hF.flats e]; exact hit
  . intro m hm hmj
    have hml : m < xs.length := by rw [hl]; simpa using hm
    rw [jf r hF.flats (Zb hml)];exact hF.no m _ hmj (Zb hml)
theorem zbo : MtR X "list.index" (ac X.K) := by
  intro pins s σ H x vs v us Q I rx rvs h;obtain ⟨p, xs, y, j, rfl, rfl, hq, hF, q⟩ := h;cases rx;obtain ⟨u, rfl, ru⟩ := pz rvs;obtain ⟨its, r, pl, hz⟩ := I.list hq;obtain ⟨⟨cls, dd, data, sl⟩, ho, hc, n, hd⟩ := id pl.isList;simp only at hc hd;subst hc hd;have hl := r.length;have hjl : j < its.toArray.size := by rw [Zr, <- hl]; exact hF.lt
  have hn := qx;obtain ⟨z, e, hit⟩ := hF.hit;refine call_meets PySem.F.slot_list_index ⟨_, ho, rfl⟩ PySem.F.entry_list_index (PySem.F.args_list_index_2 _ _) (SeqAt.list_indexAt p its.toArray n dd sl u (eqU y) j hjl (by have := hF.lt; omega) ?_ ?_) ⟨ho, fun w hw => k7 ru hF.flat r hF.flats w (by simpa using hw), ⟨.int j, H, I.tok _, ⟨_, rfl⟩, q⟩⟩
  . rw [jf r hF.flats e]; exact hit
  . intro m hm hmj
    have hml : m < xs.length := by rw [hl]; simpa using hm
    rw [jf r hF.flats (Zb hml)];exact hF.no m _ hmj (Zb hml)
end
section
variable {X : Cx}
def rInK (neg : Bool) : R2 := fun y x H Q => ∃ a o, x = .ref a /\ DGet H a y o /\ Q (.bl (neg ^^ o.isSome)) H
theorem e_inK {neg : Bool} {y x : V} {H : Hp} {Q : VK} : rInK neg y x H Q = ∃ a o, x = .ref a /\ DGet H a y o /\ Q (.bl (neg ^^ o.isSome)) H := rfl
def rSetD : TSet := fun o i v H Q => ∃ a H', o = .ref a /\ DPut H a i v H' /\ Q H'
theorem e_setD {o i v : V} {H : Hp} {Q : Hp -> Prop} : rSetD o i v H Q = ∃ a H', o = .ref a /\ DPut H a i v H' /\ Q H' := rfl
theorem zez {σ : St} {H : Hp} {Q : VK} : tDNewT σ H Q = ∀ p, H p = none -> Q (.ref p) (upd H p (.dT [])) := rfl
theorem e_dget {td ty : TE} {σ : St} {H : Hp} {Q : VK} : tDGet td ty σ H Q = td σ H fun x H1 => ty σ H1 fun y H2 => ∃ a v, x = .ref a /\ DGet H2 a y (some v) /\ Q v H2 := rfl
end
end L2
namespace L2
open PySem PySem.Spec PyProof.Rows
section
variable {X : Cx}
def tBMT (r : V -> List V -> Hp -> VK -> Prop) (to : TE) (t : TA) : TE := fun σ H Q => to σ H fun x H1 => (∃ p xs, x = .ref p /\ Rd H1 p (.tup xs)) /\ t σ H1 fun xs H2 => r x xs H2 Q
theorem e_BMT {r : V -> List V -> Hp -> VK -> Prop} {to : TE} {t : TA} {σ : St} {H : Hp} {Q : VK} : tBMT r to t σ H Q = to σ H fun x H1 => (∃ p xs, x = .ref p /\ Rd H1 p (.tup xs)) /\ t σ H1 fun xs H2 => r x xs H2 Q := rfl
theorem pe_bmT {o e : Expr} {es : List Expr} {to : TE} {t : TA} {name : Str} {apos cpos : Pos} {id : String} {r : V -> List V -> Hp -> VK -> Prop} (pa : PlainAttrs "tuple") (slot : Slot "tuple" name id) (hty : typeOf (.builtin id) = pure (.type "method_descriptor")) (hm : MtR X id r) (ho : PE X o to) (ha : PA X (e :: es) t)
    (hbase : attributeBase o name X.env (eval o X.env) = eval o X.env := by rfl)
    (hfew : ((backTo cpos (starEach (e :: es) X.env)).all (fun x => !x.1) && (backToKw cpos (keywordEach [] X.env)).all (fun x => x.1.isSome)
      && decide ((e :: es).length + ([] : List Keyword).length + (if ([] : List Keyword).isEmpty then 0 else 1) < 30)) = true := by rfl)
    (hline : (apos.endLine == cpos.line) = true := by rfl) (hs : starEach (e :: es) X.env = (false, eval e X.env) :: starEach es X.env := by rfl) (hplain : (backTo cpos (starEach es X.env)).any (·.1) = false := by rfl) :
    PE X (.Call (.Attribute o name apos) (e :: es) [] cpos) (tBMT r to t) := by
  intro pins s σ H Q I h;refine wpAny_Call_method_late hbase hfew hline rfl (thn (ho pins s σ H _ I h) fun v s1 ⟨x, H1, I1, r1, ⟨p, ys, ex, hp⟩, q1⟩ => ?_);subst ex;obtain rfl : v = Value.ref p := r1;obtain ⟨z, its, rr, ob, e1, c1, n1, d1, f1⟩ := (show ObjOk X.prog X.w H1 s1.heap p (.tup ys) from hp.ok I1.hok);have h1 : s1.TypeIs (.ref p) "tuple" := ⟨ob, e1, c1⟩
  have h2 : ∀ a, Value.ref p = .ref a -> ∃ ob, s1.heap.get? a = some ob /\ ob.dict = none := fun a e => by
    cases e;exact ⟨ob, e1, f1⟩
  refine ⟨"tuple", id, pa, slot, hty, h1, h2, ?_⟩;have hA := ha cpos pins s1 σ H1 _ I1 q1;rw [hs] at hA ⊢;refine Calls.callWith_builtin (by show (false || (backTo cpos (starEach es X.env)).any (·.1)) = false; rw [hplain] <;> rfl) (Calls.evalArgs_plain ?_);exact thn hA fun us s2 ⟨vs, H2, I2, r2, q2⟩ => hm pins s2 σ H2 (.ref p) vs (.ref p) us Q I2 rfl r2 q2
end
end L2
namespace L2
open PySem PySem.Spec PyProof.Rows
theorem bj {i : Int} {n : Nat} (h1 : -(2 ^ n) < i) (h2 : i < 2 ^ n) : Builtin.Int.intBits i <= n := by
  unfold Builtin.Int.intBits
  split
  . exact ZE _
  . rename_i h
    have h0 : i ≠ 0 := fun e => h (by rw [e]; rfl)
    have hn : i.natAbs < 2 ^ n := by
      have e : ((2 ^ n : Nat) : Int) = (2 : Int) ^ n := by rw [Int.natCast_pow]; rfl
      have : (i.natAbs : Int) < ((2 ^ n : Nat) : Int) := by rw [e]; omega
      exact_mod_cast this
    exact (Nat.log2_lt (by omega)).mpr hn
def CMulB (i j : Int) : Prop := (-(10 ^ 60) <= i /\ i <= 10 ^ 60) /\ -(10 ^ 60) <= j /\ j <= 10 ^ 60
theorem CMulB.ok {i j : Int} (h : CMulB i j) : IntMulOk i j := by
  have e : (10 : Int) ^ 60 < 2 ^ 200 := by decide
  obtain ⟨⟨a, b⟩, c, d⟩ := h;exact .of_bits (Zd (bj (n := 200) (by omega) (by omega)) (by decide)) (Zd (bj (n := 200) (by omega) (by omega)) (by decide))
theorem zeu {X : Cx} : OpR X (binaryOp .Mult) (rI CMulB fun i j => .int (i * j)) := opI fun _ _ _ _ _ _ _ hc q => mul_int q hc.ok
end L2
namespace L2
open PySem
def SeqH (h : Heap) (l : Addr) (xs : Array Value) : Prop := ∃ o n, h.get? l = some o /\ o.data = .seq xs n
section
variable {prog : Program} {w : World} {A : Around} {E : Value -> Shared -> Prop} {s : Shared}
theorem m8 {it t : Addr} {i : Nat} {items : Array Value} {x : Value} {Q : Value -> Shared -> Prop} (hit : s.heap.IsTupleIter it t i)
    (ht : SeqH s.heap t items) (hx : items[i]? = some x) (hQ : ∀ h', h'.IsTupleIter it t (i + 1) -> Heap.SameBut it s.heap h' -> Q x { s with heap := h' }) :
    wpAny (model prog w) A (Builtin.SmallTypes.nextOf (.ref it)) Q E s := by
  obtain ⟨o, ho, hc, hd⟩ := id hit;obtain ⟨ol, nl, hol, hdl⟩ := ht;unfold Builtin.SmallTypes.nextOf
  refine wpAny_bind (wpAny_callSpecial?_slot (name := Str.ofString "__next__") hit.typeIs F.slot_tuple_iterator_next
    (wpAny_call_entry F.slot_tuple_iterator_next hit.typeIs F.entry_tuple_iterator_next ?_ (F.args_tuple_iterator_next_1 _)))
  show wpAny _ _ (field (.ref it) 0 >>= _) _ _ s
  refine wpAny_bind (wpAny_field ho hd (x := .ref t) rfl ?_)
  show wpAny _ _ (if (Value.ref t == Value.none) = true then _ else _) _ _ s
  rw [if_neg (show ¬ ((Value.ref t == Value.none) = true) from Bool.false_ne_true)]
  show wpAny _ _ (field (.ref it) 1 >>= _) _ _ s
  refine wpAny_bind (wpAny_field ho hd (x := .int i 0) rfl ?_)
  show wpAny _ _ (seqItems? (.ref t) >>= _) _ _ s
  refine wpAny_bind (wpAny_seqItems hol hdl ?_);simp only [Zw, hx];refine wpAny_bind (wpAny_setField ho hd (by simp) (wpAny_pure ⟨x, rfl, wpAny_pure (hQ _ ?_ (Heap.SameBut.update ..))⟩))
  exact ⟨_, Heap.get?_update_self _ ho (Obj.isFreed_of_fields (Obj.data_mapFields hd _)), (Obj.cls_mapFields ..).trans hc, by
    rw [Obj.data_mapFields hd]; simp [rawInt]⟩
theorem ky {it t : Addr} {i : Nat} {items : Array Value} {Q : Value -> Shared -> Prop} (hh : A.handled = none)
    (hit : s.heap.IsTupleIter it t i) (ht : SeqH s.heap t items) (hx : items[i]? = none)
    (hE : ∀ h' e, Heap.ExtBut it s.heap h' -> (∃ o, h'.get? e = some o /\ o.cls = .type "StopIteration") -> E (.ref e) { s with heap := h' }) :
    wpAny (model prog w) A (Builtin.SmallTypes.nextOf (.ref it)) Q E s := by
  obtain ⟨o, ho, hc, hd⟩ := id hit;obtain ⟨ol, nl, hol, hdl⟩ := ht;unfold Builtin.SmallTypes.nextOf
  refine wpAny_bind (wpAny_callSpecial?_slot (name := Str.ofString "__next__") hit.typeIs F.slot_tuple_iterator_next
    (wpAny_call_entry F.slot_tuple_iterator_next hit.typeIs F.entry_tuple_iterator_next ?_ (F.args_tuple_iterator_next_1 _)))
  show wpAny _ _ (field (.ref it) 0 >>= _) _ _ s
  refine wpAny_bind (wpAny_field ho hd (x := .ref t) rfl ?_)
  show wpAny _ _ (if (Value.ref t == Value.none) = true then _ else _) _ _ s
  rw [if_neg (show ¬ ((Value.ref t == Value.none) = true) from Bool.false_ne_true)]
  show wpAny _ _ (field (.ref it) 1 >>= _) _ _ s
  refine wpAny_bind (wpAny_field ho hd (x := .int i 0) rfl ?_)
  show wpAny _ _ (seqItems? (.ref t) >>= _) _ _ s
  refine wpAny_bind (wpAny_seqItems hol hdl ?_);simp only [Zw, hx];refine wpAny_bind (wpAny_rule (wpAny_bind (wpAny_setField ho hd (by simp) ?_)))
  show wpAny _ _ (newExc (.type "StopIteration") [] >>= _) _ _ _
  refine wpAny_bind ?_;simp only [newExc, newTuple];refine wpAny_bind (wpAny_newObj_type ?_ (by size_fits));refine wpAny_bind (m := firstArgMember _ _) (wpAny_of_eq (a := Value.none) (by first | rfl | (simp only [firstArgMember]; rfl)) ?_);refine wpAny_newObj_type ?_ (by size_fits);simp only [raiseNew];refine wpAny_bind (wpAny_handled ?_)
  first | rw [show A.in1.handled = none from hh] | rw [hh]
  refine wpAny_bind (wpAny_pure (wpAny_throw ?_));exact hE _ _ (((Heap.SameBut.update ..).extBut.push _).push _) ⟨_, Heap.get?_push_size _ rfl, rfl⟩
theorem m7 {it t : Addr} {i : Nat} {items : Array Value} {x : Value} {Q : Value -> Shared -> Prop} (hit : s.heap.IsListIter it t i)
    (ht : SeqH s.heap t items) (hx : items[i]? = some x) (hQ : ∀ h', h'.IsListIter it t (i + 1) -> Heap.SameBut it s.heap h' -> Q x { s with heap := h' }) :
    wpAny (model prog w) A (Builtin.SmallTypes.nextOf (.ref it)) Q E s := by
  obtain ⟨o, ho, hc, hd⟩ := id hit;obtain ⟨ol, nl, hol, hdl⟩ := ht;unfold Builtin.SmallTypes.nextOf
  refine wpAny_bind (wpAny_callSpecial?_slot (name := Str.ofString "__next__") hit.typeIs slot_listiter_next
    (wpAny_call_entry slot_listiter_next hit.typeIs entry_listiter_next ?_ (args_listiter_next _)))
  show wpAny _ _ (field (.ref it) 0 >>= _) _ _ s
  refine wpAny_bind (wpAny_field ho hd (x := .ref t) rfl ?_)
  show wpAny _ _ (if (Value.ref t == Value.none) = true then _ else _) _ _ s
  rw [if_neg (show ¬ ((Value.ref t == Value.none) = true) from Bool.false_ne_true)]
  show wpAny _ _ (field (.ref it) 1 >>= _) _ _ s
  refine wpAny_bind (wpAny_field ho hd (x := .int i 0) rfl ?_)
  show wpAny _ _ (seqItems? (.ref t) >>= _) _ _ s
  refine wpAny_bind (wpAny_seqItems hol hdl ?_);simp only [Zw, hx];refine wpAny_bind (wpAny_setField ho hd (by simp) (wpAny_pure ⟨x, rfl, wpAny_pure (hQ _ ?_ (Heap.SameBut.update ..))⟩))
  exact ⟨_, Heap.get?_update_self _ ho (Obj.isFreed_of_fields (Obj.data_mapFields hd _)), (Obj.cls_mapFields ..).trans hc, by
    rw [Obj.data_mapFields hd]; simp [rawInt]⟩
theorem kd {it t : Addr} {i : Nat} {items : Array Value} {Q : Value -> Shared -> Prop} (hh : A.handled = none)
    (hit : s.heap.IsListIter it t i) (ht : SeqH s.heap t items) (hx : items[i]? = none)
    (hE : ∀ h' e, Heap.ExtBut it s.heap h' -> (∃ o, h'.get? e = some o /\ o.cls = .type "StopIteration") -> E (.ref e) { s with heap := h' }) :
    wpAny (model prog w) A (Builtin.SmallTypes.nextOf (.ref it)) Q E s := by
  obtain ⟨o, ho, hc, hd⟩ := id hit;obtain ⟨ol, nl, hol, hdl⟩ := ht;unfold Builtin.SmallTypes.nextOf
  refine wpAny_bind (wpAny_callSpecial?_slot (name := Str.ofString "__next__") hit.typeIs slot_listiter_next
    (wpAny_call_entry slot_listiter_next hit.typeIs entry_listiter_next ?_ (args_listiter_next _)))
  show wpAny _ _ (field (.ref it) 0 >>= _) _ _ s
  refine wpAny_bind (wpAny_field ho hd (x := .ref t) rfl ?_)
  show wpAny _ _ (if (Value.ref t == Value.none) = true then _ else _) _ _ s
  rw [if_neg (show ¬ ((Value.ref t == Value.none) = true) from Bool.false_ne_true)]
  show wpAny _ _ (field (.ref it) 1 >>= _) _ _ s
  refine wpAny_bind (wpAny_field ho hd (x := .int i 0) rfl ?_)
  show wpAny _ _ (seqItems? (.ref t) >>= _) _ _ s
  refine wpAny_bind (wpAny_seqItems hol hdl ?_);simp only [Zw, hx];refine wpAny_bind (wpAny_rule (wpAny_bind (wpAny_setField ho hd (by simp) ?_)))
  show wpAny _ _ (newExc (.type "StopIteration") [] >>= _) _ _ _
  refine wpAny_bind ?_;simp only [newExc, newTuple];refine wpAny_bind (wpAny_newObj_type ?_ (by size_fits));refine wpAny_bind (m := firstArgMember _ _) (wpAny_of_eq (a := Value.none) (by first | rfl | (simp only [firstArgMember]; rfl)) ?_);refine wpAny_newObj_type ?_ (by size_fits);simp only [raiseNew];refine wpAny_bind (wpAny_handled ?_)
  first | rw [show A.in1.handled = none from hh] | rw [hh]
  refine wpAny_bind (wpAny_pure (wpAny_throw ?_));exact hE _ _ (((Heap.SameBut.update ..).extBut.push _).push _) ⟨_, Heap.get?_push_size _ rfl, rfl⟩
end
structure Drw where
  it : Addr
  l : Addr
  xs : Array Value
def DrAt (h : Heap) (d : Drw) (k : Nat) : Prop := (h.IsListIter d.it d.l k \/ h.IsTupleIter d.it d.l k) /\ SeqH h d.l d.xs
theorem DrAt.ext {h h' : Heap} {d : Drw} {k : Nat} (q : DrAt h d k) (h1 : ∀ o, h.get? d.it = some o -> h'.get? d.it = some o) (h2 : ∀ o, h.get? d.l = some o -> h'.get? d.l = some o) : DrAt h' d k := by
  obtain ⟨a, o', n, e', r'⟩ := q;refine ⟨?_, o', n, h2 o' e', r'⟩
  rcases a with ⟨o, e, r⟩ | ⟨o, e, r⟩
  . exact .inl ⟨o, h1 o e, r⟩
  . exact .inr ⟨o, h1 o e, r⟩
theorem DrAt.itAt {h : Heap} {d : Drw} {k : Nat} (q : DrAt h d k) : ∃ o, h.get? d.it = some o /\ o.data = .fields #[.ref d.l, .int k 0] := by
  rcases q.1 with ⟨o, e, c, r⟩ | ⟨o, e, c, r⟩ <;> exact ⟨o, e, r⟩
theorem DrAt.ne {h : Heap} {d : Drw} {k : Nat} (q : DrAt h d k) : d.l ≠ d.it := fun e => by
  obtain ⟨o, e1, r1⟩ := q.itAt;obtain ⟨o', n, e2, r2⟩ := q.2;rw [e, e1] at e2;cases e2;rw [r1] at r2;cases r2
section
variable {prog : Program} {w : World} {A : Around} {E : Value -> Shared -> Prop} {s : Shared}
theorem iw {d : Drw} {k : Nat} {x : Value} {Q : Value -> Shared -> Prop} (q : DrAt s.heap d k) (hx : d.xs[k]? = some x) (hQ : ∀ h', DrAt h' d (k + 1) -> Heap.SameBut d.it s.heap h' -> Q x { s with heap := h' }) :
    wpAny (model prog w) A (Builtin.SmallTypes.nextOf (.ref d.it)) Q E s := by
  have hne := q.ne;obtain ⟨a, b⟩ := q
  have keep : ∀ h', Heap.SameBut d.it s.heap h' -> SeqH h' d.l d.xs := fun h' hs => by
    obtain ⟨o', n, e', r'⟩ := b;exact ⟨o', n, hs.extBut _ _ hne e', r'⟩
  rcases a with a | a
  . exact m7 a b hx fun h' a' hs => hQ h' ⟨.inl a', keep h' hs⟩ hs
  . exact m8 a b hx fun h' a' hs => hQ h' ⟨.inr a', keep h' hs⟩ hs
theorem zcy {d : Drw} {k : Nat} {Q : Value -> Shared -> Prop} (hh : A.handled = none) (q : DrAt s.heap d k) (hx : d.xs[k]? = none)
    (hE : ∀ h' e, Heap.ExtBut d.it s.heap h' -> (∃ o, h'.get? e = some o /\ o.cls = .type "StopIteration") -> E (.ref e) { s with heap := h' }) :
    wpAny (model prog w) A (Builtin.SmallTypes.nextOf (.ref d.it)) Q E s := by
  obtain ⟨a, b⟩ := q
  rcases a with a | a
  . exact kd hh a b hx hE
  . exact ky hh a b hx hE
abbrev yt (h : Heap) (T : Addr) (xs : List Value) : Prop := h.get? T = some { cls := .type "tuple", data := .seq xs.toArray }
structure mh (z TI TO : Addr) (ds : List Drw) : Prop where
  TIz : TI ≠ z
  TOz : TO ≠ z
  TITO : TI ≠ TO
  iz : ∀ d ∈ ds, d.it ≠ z /\ d.it ≠ TI /\ d.it ≠ TO
  lz : ∀ d ∈ ds, d.l ≠ z /\ d.l ≠ TO
  ii : ∀ (i j : Nat) (d e : Drw), ds[i]? = some d -> ds[j]? = some e -> i ≠ j -> d.it ≠ e.it
  li : ∀ (d e : Drw), d ∈ ds -> e ∈ ds -> d.l ≠ e.it
structure ZSt (h0 h : Heap) (z TI TO : Addr) (ds : List Drw) (vs old : List Value) (k j : Nat) : Prop where
  zip : IsZip h z TI TO .ellipsis
  to : yt h TO (vs.take j ++ old.drop j)
  done : ∀ (i : Nat) (d : Drw), ds[i]? = some d -> i < j -> DrAt h d (k + 1)
  todo : ∀ (i : Nat) (d : Drw), ds[i]? = some d -> j <= i -> DrAt h d k
  keep : ∀ c o, c ≠ z -> c ≠ TO -> (∀ d ∈ ds, c ≠ d.it) -> h0.get? c = some o -> h.get? c = some o
  size : h.objs.size = h0.objs.size
theorem d8 {T : Addr} {xs : List Value} {x : Value} {k : Nat} {Q : Unit -> Shared -> Prop} (hT : yt s.heap T xs) (h8 : xs.length <= 8)
    (h : ∀ h', yt h' T (xs.set k x) -> Heap.SameBut T s.heap h' -> Q () { s with heap := h' }) : wpAny (model prog w) A (updateSeq T (·.setIfInBounds k x)) Q E s := by
  have z1 : xs.toArray.size <= sizeLine := by rw [Zr]; exact Zd h8 (by decide)
  have z2 : (xs.toArray.setIfInBounds k x).size <= sizeLine + 1 := by rw [Array.size_setIfInBounds]; omega
  refine wpAny_updateSeq (hz := z1) (_hz' := z2) hT rfl (h _ ?_ (Heap.SameBut.update ..))
  show (s.heap.update T _).get? T = _
  rw [Heap.get?_update_self _ hT rfl];simp [Obj.mapSeq]
theorem lj {α : Type} {l : List α} {j i : Nat} {v : α} {rest : List (α × Nat)} (er : (v, i) :: rest = l.zipIdx.drop j) : l[j]? = some v /\ i = j /\ rest = l.zipIdx.drop (j + 1) := by
  have h0 : l.zipIdx[j]? = some (v, i) := by
    have : (l.zipIdx.drop j)[0]? = some (v, i) := by rw [<- er]; rfl
    rwa [YB, Nat.add_zero] at this
  rw [List.getElem?_zipIdx] at h0;have ht : rest = (l.zipIdx.drop j).tail := by rw [<- er]; rfl
  cases e : l[j]? with
  | none => rw [e] at h0; cases h0
  | some u =>
    rw [e] at h0;simp at h0;exact ⟨by rw [h0.1], h0.2.symm, by rw [ht, List.tail_drop]⟩
theorem zc9 {z TI TO : Addr} {ds : List Drw} {vs old : List Value} {k : Nat} {Q : Value -> Shared -> Prop} (D : mh z TI TO ds) (hn : ds ≠ []) (hz : IsZip s.heap z TI TO .none) (hTI : yt s.heap TI (ds.map fun d => .ref d.it)) (hTO : yt s.heap TO old)
    (lv : vs.length = ds.length) (lo : old.length = ds.length) (h8 : ds.length <= 8) (hd : ∀ d ∈ ds, DrAt s.heap d k) (hv : ∀ (i : Nat) (d : Drw), ds[i]? = some d -> d.xs[k]? = vs[i]?)
    (hQ : ∀ h', IsZip h' z TI TO (rawInt s.heap.objs.size) -> yt h' TO vs -> (∀ d ∈ ds, DrAt h' d (k + 1)) -> yt h' s.heap.objs.size vs -> h'.objs.size = s.heap.objs.size + 1 ->
      (∀ c o, c ≠ z -> c ≠ TO -> (∀ d ∈ ds, c ≠ d.it) -> s.heap.get? c = some o -> h'.get? c = some o) -> Q (.ref s.heap.objs.size) { s with heap := h' }) :
    wpAny (model prog w) A (Builtin.«zip.__next__» ⟨[.ref z], []⟩) (fun fin s' => ∃ v, fin = .done (.ret v) /\ Q v s') E s := by
  show wpAny _ _ (field (.ref z) 2 >>= _) _ _ _
  refine wpAny_bind (wpAny_field hz rfl (x := .bool false) rfl ?_)
  show wpAny _ _ (field (.ref z) 3 >>= _) _ _ _
  refine wpAny_bind (wpAny_field hz rfl (x := .ref TI) rfl ?_);refine wpAny_bind (wpAny_seqItems hTI rfl ?_)
  have hne : ¬ (((ds.map fun d => Value.ref d.it).toArray).isEmpty = true) := by
    simp;exact hn
  show wpAny _ _ (if ((ds.map fun d => Value.ref d.it).toArray.isEmpty = true) then _ else _) _ _ _
  rw [if_neg hne]
  show wpAny _ _ (Builtin.SmallTypes.ownedTupleIsFree (.ref z) >>= _) _ _ _
  refine wpAny_bind ?_;unfold Builtin.SmallTypes.ownedTupleIsFree;refine wpAny_bind (wpAny_field hz rfl (x := .none) rfl (wpAny_pure ?_));simp only [if_true];refine wpAny_bind (wpAny_rule ?_);refine wpAny_bind (wpAny_field hz rfl (x := .ref TO) rfl ?_);refine wpAny_bind (wpAny_setField_rec hz (by simp) fun h₁ hz₁ hs₁ => ?_)
  replace hz₁ : IsZip h₁ z TI TO .ellipsis := hz₁
  refine wpAny_bind ?_
  have st0 : ZSt s.heap h₁ z TI TO ds vs old k 0 := ⟨hz₁, by
    rw [List.take_zero, List.nil_append, List.drop_zero]
    exact hs₁.extBut _ _ D.TOz hTO, fun i d _ h => absurd h (Nat.not_lt_zero _), fun i d e _ => (hd d (Zi e)).ext (fun o q => hs₁.extBut _ _ (D.iz d (Zi e)).1 q) (fun o q => hs₁.extBut _ _ (D.lz d (Zi e)).1 q), fun c o c1 _ _ q => hs₁.extBut _ _ c1 q, hs₁.1⟩
  refine wpAny_forIn_list _ (fun rest b s' => b = (none, ()) /\ ∃ j h, s' = { s with heap := h } /\ j <= ds.length /\ rest = ((ds.map fun d => Value.ref d.it).zipIdx).drop j /\ ZSt s.heap h z TI TO ds vs old k j) _ ?turn ?fin _ _ ⟨rfl, 0, h₁, rfl, ZE _, rfl, st0⟩
  case turn =>
    rintro ⟨v, i⟩ rest b s' ⟨rfl, j, h, rfl, hj, er, st⟩
    obtain ⟨ev, rfl, er2⟩ := lj er;rw [Ze] at ev
    cases ed : ds[i]? with
    | none => rw [ed] at ev; cases ev
    | some d =>
    rw [ed] at ev;cases ev;have hil := (Zc.mp ed).1;have hm := Zi ed;have ex := hv i d ed;obtain ⟨x, evx⟩ : ∃ x, vs[i]? = some x := ⟨vs[i]'(by omega), Zb _⟩;rw [evx] at ex;refine wpAny_bind (wpAny_onRaise ?_)
    show wpAny _ _ (Builtin.SmallTypes.nextOf (.ref d.it) >>= _) _ _ _
    refine wpAny_bind (iw (s := { s with heap := h }) (st.todo i d ed (Zm _)) ex fun h₂ hd₂ hs₂ => wpAny_pure ?_)
    replace hs₂ : Heap.SameBut d.it h h₂ := hs₂
    have hTO₂ : yt h₂ TO (vs.take i ++ old.drop i) := hs₂.extBut _ _ (Ne.symm (D.iz d hm).2.2) st.to;refine wpAny_bind (wpAny_seqItems (s := { s with heap := h₂ }) hTO₂ rfl ?_);refine wpAny_bind (d8 (s := { s with heap := h₂ }) hTO₂ (by rw [Zo, Zj, YI]; omega) fun h₃ hTO₃ hs₃ => ?_)
    replace hs₃ : Heap.SameBut TO h₂ h₃ := hs₃
    refine wpAny_bind (wpAny_letGo (wpAny_pure ?_));have up : ∀ c o, c ≠ d.it -> c ≠ TO -> h.get? c = some o -> h₃.get? c = some o := fun c o c1 c2 e => hs₃.extBut _ _ c2 (hs₂.extBut _ _ c1 e)
    refine ⟨rfl, i + 1, h₃, rfl, hil, er2, ⟨up _ _ (Ne.symm (D.iz d hm).1) (Ne.symm D.TOz) st.zip, ?_, fun m e em hmi => ?_, fun m e em hmi => ?_, fun c o c1 c2 c3 e => up c o (c3 d hm) c2 (st.keep c o c1 c2 c3 e), ?_⟩⟩
    . have : (vs.take i ++ old.drop i).set i x = vs.take (i + 1) ++ old.drop (i + 1) := by
        have lt : (vs.take i).length = i := by rw [Zj]; omega
        have eo : old.drop i = old[i]'(by omega) :: old.drop (i + 1) := List.drop_eq_getElem_cons (by omega);rw [eo, List.set_append_right _ _ (by omega), lt, Nat.sub_self, List.set_cons_zero, Zq, evx];simp
      rw [this] at hTO₃;exact hTO₃
    . have hme := Zi em
      by_cases hmi' : m = i
      . subst hmi'
        rw [ed] at em;cases em;exact hd₂.ext (fun o q => hs₃.extBut _ _ (D.iz d hm).2.2 q) (fun o q => hs₃.extBut _ _ (D.lz d hm).2 q)
      . exact (st.done m e em (by omega)).ext (fun o q => up _ _ (D.ii m i e d em ed hmi') (D.iz e hme).2.2 q) (fun o q => up _ _ (D.li e d hme hm) (D.lz e hme).2 q)
    . have hme := Zi em
      exact (st.todo m e em (by omega)).ext (fun o q => up _ _ (D.ii m i e d em ed (by omega)) (D.iz e hme).2.2 q) (fun o q => up _ _ (D.li e d hme hm) (D.lz e hme).2 q)
    . rw [hs₃.1, hs₂.1, st.size]
  case fin =>
    rintro b s' ⟨rfl, j, h, rfl, hj, er, st⟩
    have hjl : j = ds.length := by
      have := congrArg List.length er;rw [YI, List.length_zipIdx, Za, Yu] at this;omega
    subst hjl
    have hTO₅ : yt h TO vs := by
      have := st.to
      rwa [<- lv, Zt, List.drop_of_length_le (by omega), ZU] at this
    refine wpAny_bind (wpAny_seqItems (s := { s with heap := h }) hTO₅ rfl ?_);have hzl : vs.length <= sizeLine := Zd (show vs.length <= 8 by omega) (by decide);refine wpAny_bind (wpAny_newTuple (s := { s with heap := h }) ?_ (by simpa using hzl));have hsz := st.size;have hzlt : z < h.objs.size := Heap.lt_size st.zip
    show wpAny _ _ (Builtin.SmallTypes.ownedTupleHandOut (.ref z) (.ref h.objs.size) >>= _) _ _ _
    refine wpAny_bind ?_;unfold Builtin.SmallTypes.ownedTupleHandOut;have hz₆ : IsZip (h.push { cls := .type "tuple", data := .seq vs.toArray }) z TI TO .ellipsis := Heap.get?_push_of_some _ st.zip;refine wpAny_bind (wpAny_setField_rec (s := { s with heap := h.push { cls := .type "tuple", data := .seq vs.toArray } }) hz₆ (by simp) fun h₇ hz₇ hs₇ => ?_)
    replace hz₇ : IsZip h₇ z TI TO (rawInt h.objs.size) := hz₇
    replace hs₇ : Heap.SameBut z (h.push { cls := .type "tuple", data := .seq vs.toArray }) h₇ := hs₇
    refine wpAny_setField_rec (s := { s with heap := h₇ }) hz₇ (by simp) fun h₈ hz₈ hs₈ => ?_
    replace hz₈ : IsZip h₈ z TI TO (rawInt h.objs.size) := hz₈
    replace hs₈ : Heap.SameBut z h₇ h₈ := hs₈
    have up : ∀ c o, c ≠ z -> h.get? c = some o -> h₈.get? c = some o := fun c o c1 e => hs₈.extBut _ _ c1 (hs₇.extBut _ _ c1 (Heap.get?_push_of_some _ e))
    have hT₈ : yt h₈ h.objs.size vs := hs₈.extBut _ _ (ZT hzlt) (hs₇.extBut _ _ (ZT hzlt) (Heap.get?_push_size _ rfl));have hz8 : h₈.objs.size = h.objs.size + 1 := by rw [hs₈.1, hs₇.1, Heap.size_push]
    rw [hsz] at hz₈ hT₈ hz8;refine wpAny_pure ⟨_, rfl, ?_⟩
    show Q (.ref h.objs.size) _
    rw [hsz];refine hQ h₈ hz₈ (up _ _ D.TOz hTO₅) (fun d hm => ?_) hT₈ hz8 fun c o c1 c2 c3 e => up c o c1 (st.keep c o c1 c2 c3 e)
    obtain ⟨m, hml, em⟩ := Zy hm;have em' : ds[m]? = some d := by rw [<- em]; exact Zb hml
    exact (st.done m d em' hml).ext (fun o q => up _ _ (D.iz d hm).1 q) (fun o q => up _ _ (D.lz d hm).1 q)
structure ZSe (h0 h : Heap) (z TI TO : Addr) (ds : List Drw) (k j : Nat) : Prop where
  zip : IsZip h z TI TO .ellipsis
  to : ∃ ts, yt h TO ts /\ ts.length = ds.length
  more : ∀ (i : Nat) (d : Drw), ds[i]? = some d -> i < j -> d.xs[k]? ≠ none
  todo : ∀ (i : Nat) (d : Drw), ds[i]? = some d -> j <= i -> DrAt h d k
  keep : ∀ c o, c ≠ z -> c ≠ TO -> (∀ d ∈ ds, c ≠ d.it) -> h0.get? c = some o -> h.get? c = some o
theorem zep {z TI TO : Addr} {ds : List Drw} {old : List Value} {k : Nat} {Q : Fin -> Shared -> Prop} (hh : A.handled = none) (D : mh z TI TO ds) (hn : ds ≠ []) (hz : IsZip s.heap z TI TO .none) (hTI : yt s.heap TI (ds.map fun d => .ref d.it)) (hTO : yt s.heap TO old)
    (lo : old.length = ds.length) (h8 : ds.length <= 8) (hd : ∀ d ∈ ds, DrAt s.heap d k) (hend : ∃ d ∈ ds, d.xs[k]? = none)
    (hE : ∀ h' e, (∀ c o, c ≠ z -> c ≠ TO -> (∀ d ∈ ds, c ≠ d.it) -> s.heap.get? c = some o -> h'.get? c = some o) -> (∃ o, h'.get? e = some o /\ o.cls = .type "StopIteration") -> E (.ref e) { s with heap := h' }) :
    wpAny (model prog w) A (Builtin.«zip.__next__» ⟨[.ref z], []⟩) Q E s := by
  show wpAny _ _ (field (.ref z) 2 >>= _) _ _ _
  refine wpAny_bind (wpAny_field hz rfl (x := .bool false) rfl ?_)
  show wpAny _ _ (field (.ref z) 3 >>= _) _ _ _
  refine wpAny_bind (wpAny_field hz rfl (x := .ref TI) rfl ?_);refine wpAny_bind (wpAny_seqItems hTI rfl ?_)
  have hne : ¬ (((ds.map fun d => Value.ref d.it).toArray).isEmpty = true) := by
    simp;exact hn
  show wpAny _ _ (if ((ds.map fun d => Value.ref d.it).toArray.isEmpty = true) then _ else _) _ _ _
  rw [if_neg hne]
  show wpAny _ _ (Builtin.SmallTypes.ownedTupleIsFree (.ref z) >>= _) _ _ _
  refine wpAny_bind ?_;unfold Builtin.SmallTypes.ownedTupleIsFree;refine wpAny_bind (wpAny_field hz rfl (x := .none) rfl (wpAny_pure ?_));simp only [if_true];refine wpAny_bind (wpAny_rule ?_);refine wpAny_bind (wpAny_field hz rfl (x := .ref TO) rfl ?_);refine wpAny_bind (wpAny_setField_rec hz (by simp) fun h₁ hz₁ hs₁ => ?_)
  replace hz₁ : IsZip h₁ z TI TO .ellipsis := hz₁
  refine wpAny_bind ?_;have st0 : ZSe s.heap h₁ z TI TO ds k 0 := ⟨hz₁, ⟨old, hs₁.extBut _ _ D.TOz hTO, lo⟩, fun i d _ h => absurd h (Nat.not_lt_zero _), fun i d e _ => (hd d (Zi e)).ext (fun o q => hs₁.extBut _ _ (D.iz d (Zi e)).1 q) (fun o q => hs₁.extBut _ _ (D.lz d (Zi e)).1 q), fun c o c1 _ _ q => hs₁.extBut _ _ c1 q⟩;refine wpAny_forIn_list _ (fun rest b s' => b = (none, ()) /\ ∃ j h, s' = { s with heap := h } /\ j <= ds.length /\ rest = ((ds.map fun d => Value.ref d.it).zipIdx).drop j /\ ZSe s.heap h z TI TO ds k j) _ ?turn ?fin _ _ ⟨rfl, 0, h₁, rfl, ZE _, rfl, st0⟩
  case turn =>
    rintro ⟨v, i⟩ rest b s' ⟨rfl, j, h, rfl, hj, er, st⟩
    obtain ⟨ev, rfl, er2⟩ := lj er;rw [Ze] at ev
    cases ed : ds[i]? with
    | none => rw [ed] at ev; cases ev
    | some d =>
    rw [ed] at ev;cases ev;have hil := (Zc.mp ed).1;have hm := Zi ed;refine wpAny_bind (wpAny_onRaise ?_)
    show wpAny _ _ (Builtin.SmallTypes.nextOf (.ref d.it) >>= _) _ _ _
    cases ex : d.xs[k]? with
    | none =>
      refine wpAny_bind (zcy (s := { s with heap := h }) hh (st.todo i d ed (Zm _)) ex fun h₂ e hs₂ he => ?_);obtain ⟨oe, hoe, hce⟩ := he;have hz₂ : IsZip h₂ z TI TO .ellipsis := hs₂ _ _ (Ne.symm (D.iz d hm).1) st.zip;have hez : e ≠ z := fun x => by subst x; rw [hz₂] at hoe; cases hoe; simp at hce
      exact wpAny_setField_rec (s := { s with heap := h₂ }) hz₂ (by simp) fun h₃ _ hs₃ => hE h₃ e (fun c o c1 c2 c3 x => hs₃.extBut _ _ c1 (hs₂ _ _ (c3 d hm) (st.keep c o c1 c2 c3 x))) ⟨oe, hs₃.extBut _ _ hez hoe, hce⟩
    | some x =>
      refine wpAny_bind (iw (s := { s with heap := h }) (st.todo i d ed (Zm _)) ex fun h₂ hd₂ hs₂ => wpAny_pure ?_)
      replace hs₂ : Heap.SameBut d.it h h₂ := hs₂
      obtain ⟨ts, hts, lts⟩ := st.to;have hTO₂ : yt h₂ TO ts := hs₂.extBut _ _ (Ne.symm (D.iz d hm).2.2) hts;refine wpAny_bind (wpAny_seqItems (s := { s with heap := h₂ }) hTO₂ rfl ?_);refine wpAny_bind (d8 (s := { s with heap := h₂ }) hTO₂ (by omega) fun h₃ hTO₃ hs₃ => ?_)
      replace hs₃ : Heap.SameBut TO h₂ h₃ := hs₃
      refine wpAny_bind (wpAny_letGo (wpAny_pure ?_));have up : ∀ c o, c ≠ d.it -> c ≠ TO -> h.get? c = some o -> h₃.get? c = some o := fun c o c1 c2 e => hs₃.extBut _ _ c2 (hs₂.extBut _ _ c1 e)
      refine ⟨rfl, i + 1, h₃, rfl, hil, er2, ⟨up _ _ (Ne.symm (D.iz d hm).1) (Ne.symm D.TOz) st.zip, ⟨_, hTO₃, by rw [Yd]; exact lts⟩, fun m e em hmi => ?_, fun m e em hmi => ?_, fun c o c1 c2 c3 e => up c o (c3 d hm) c2 (st.keep c o c1 c2 c3 e)⟩⟩
      . by_cases hmi' : m = i
        . subst hmi'
          rw [ed] at em;cases em;rw [ex];simp
        . exact st.more m e em (by omega)
      . have hme := Zi em
        exact (st.todo m e em (by omega)).ext (fun o q => up _ _ (D.ii m i e d em ed (by omega)) (D.iz e hme).2.2 q) (fun o q => up _ _ (D.li e d hme hm) (D.lz e hme).2 q)
  case fin =>
    rintro b s' ⟨rfl, j, h, rfl, hj, er, st⟩
    exfalso
    have hjl : j = ds.length := by
      have := congrArg List.length er;rw [YI, List.length_zipIdx, Za, Yu] at this;omega
    subst hjl;obtain ⟨d, hm, e⟩ := hend;obtain ⟨m, hml, em⟩ := Zy hm;exact st.more m d (by rw [<- em]; exact Zb hml) hml e
theorem ki {z TI TO : Addr} {ds : List Drw} {vs old : List Value} {k : Nat} {Q : Option Value -> Shared -> Prop} (D : mh z TI TO ds) (hn : ds ≠ []) (hz : IsZip s.heap z TI TO .none) (hTI : yt s.heap TI (ds.map fun d => .ref d.it)) (hTO : yt s.heap TO old)
    (lv : vs.length = ds.length) (lo : old.length = ds.length) (h8 : ds.length <= 8) (hd : ∀ d ∈ ds, DrAt s.heap d k) (hv : ∀ (i : Nat) (d : Drw), ds[i]? = some d -> d.xs[k]? = vs[i]?)
    (hQ : ∀ h', IsZip h' z TI TO (rawInt s.heap.objs.size) -> yt h' TO vs -> (∀ d ∈ ds, DrAt h' d (k + 1)) -> yt h' s.heap.objs.size vs -> h'.objs.size = s.heap.objs.size + 1 ->
      (∀ c o, c ≠ z -> c ≠ TO -> (∀ d ∈ ds, c ≠ d.it) -> s.heap.get? c = some o -> h'.get? c = some o) -> Q (some (.ref s.heap.objs.size)) { s with heap := h' }) :
    wpAny (model prog w) A (pyNext (.ref z)) Q E s := by
  have hT : s.TypeIs (.ref z) "zip" := ⟨_, hz, rfl⟩;unfold pyNext
  exact wpAny_bind (wpAny_attempt (wpAny_callSpecial?_slot (name := Str.ofString "__next__") hT F.slot_zip_next
    (wpAny_call_entry F.slot_zip_next hT F.entry_zip_next
      (zc9 D hn hz hTI hTO lv lo h8 hd hv fun h' a1 a2 a3 a4 a5 a6 => wpAny_pure (hQ h' a1 a2 a3 a4 a5 a6)) (F.args_zip_next_1 _))))
theorem jq {z TI TO : Addr} {ds : List Drw} {old : List Value} {k : Nat} {Q : Option Value -> Shared -> Prop} (hh : A.handled = none) (D : mh z TI TO ds) (hn : ds ≠ []) (hz : IsZip s.heap z TI TO .none) (hTI : yt s.heap TI (ds.map fun d => .ref d.it)) (hTO : yt s.heap TO old)
    (lo : old.length = ds.length) (h8 : ds.length <= 8) (hd : ∀ d ∈ ds, DrAt s.heap d k) (hend : ∃ d ∈ ds, d.xs[k]? = none)
    (hQ : ∀ h', (∀ c o, c ≠ z -> c ≠ TO -> (∀ d ∈ ds, c ≠ d.it) -> s.heap.get? c = some o -> h'.get? c = some o) -> Q none { s with heap := h' }) : wpAny (model prog w) A (pyNext (.ref z)) Q E s := by
  have hT : s.TypeIs (.ref z) "zip" := ⟨_, hz, rfl⟩;unfold pyNext
  refine wpAny_bind (wpAny_attempt (wpAny_callSpecial?_slot (name := Str.ofString "__next__") hT F.slot_zip_next
    (wpAny_call_entry F.slot_zip_next hT F.entry_zip_next (zep hh D hn hz hTI hTO lo h8 hd hend fun h' e hk he => ?_) (F.args_zip_next_1 _))))
  obtain ⟨o, ho, hc⟩ := he;refine wpAny_bind (wpAny_isInstance (T := "StopIteration") (b := true) ⟨o, ho, hc⟩ isSubtype_stop ?_);exact wpAny_pure (hQ _ hk)
end
def SrcAt (h : Heap) (b : Bool) (l : Addr) (xs : Array Value) : Prop := if b = true then h.IsList l xs else h.IsTuple l xs
def y8 (b : Bool) (l : Addr) : Obj := { cls := .type (if b = true then "list_iterator" else "tuple_iterator"), data := .fields #[.ref l, .int 0 0] }
theorem SrcAt.push {h : Heap} {b : Bool} {l : Addr} {xs : Array Value} (q : SrcAt h b l xs) (o : Obj) : SrcAt (h.push o) b l xs := by
  cases b
  . obtain ⟨p, e, r⟩ := (show h.IsTuple l xs from q)
    exact ⟨p, Heap.get?_push_of_some _ e, r⟩
  . obtain ⟨p, e, r⟩ := (show h.IsList l xs from q)
    exact ⟨p, Heap.get?_push_of_some _ e, r⟩
theorem ox {prog : Program} {w : World} {A : Around} {E : Value -> Shared -> Prop} {s : Shared} {b : Bool} {l : Addr} {xs : Array Value} {Q : Value -> Shared -> Prop} (q : SrcAt s.heap b l xs) (hQ : Q (.ref s.heap.objs.size) { s with heap := s.heap.push (y8 b l) }) :
    wpAny (model prog w) A (pyIter (.ref l)) Q E s := by
  cases b
  . exact wpAny_pyIter_tuple (show s.heap.IsTuple l xs from q) hQ
  . exact wpAny_pyIter_list (show s.heap.IsList l xs from q) hQ
theorem zaf (b1 b2 b3 : Bool) (l1 l2 l3 : Addr) (x1 x2 x3 : Array Value) :
    Meets (Builtin.«zip.__new__» ⟨[.type "zip", .ref l1, .ref l2, .ref l3], []⟩) (fun _ R s => SrcAt s.heap b1 l1 x1 /\ SrcAt s.heap b2 l2 x2 /\ SrcAt s.heap b3 l3 x3 /\
      ∀ h', h' = (((((s.heap.push (y8 b1 l1)).push (y8 b2 l2)).push (y8 b3 l3)).push { cls := .type "tuple", data := .seq #[.ref s.heap.objs.size, .ref (s.heap.push (y8 b1 l1)).objs.size, .ref ((s.heap.push (y8 b1 l1)).push (y8 b2 l2)).objs.size] }).push { cls := .type "tuple", data := .seq #[.none, .none, .none] }) ->
      R (.ok (.ret (.ref h'.objs.size))) { s with heap := h'.push { cls := .type "zip", data := .fields #[.none, .bool false, .bool false, .ref (((s.heap.push (y8 b1 l1)).push (y8 b2 l2)).push (y8 b3 l3)).objs.size, .ref ((((s.heap.push (y8 b1 l1)).push (y8 b2 l2)).push (y8 b3 l3)).push { cls := .type "tuple", data := .seq #[.ref s.heap.objs.size, .ref (s.heap.push (y8 b1 l1)).objs.size, .ref ((s.heap.push (y8 b1 l1)).push (y8 b2 l2)).objs.size] }).objs.size] } }) :=
  .of_wp fun prog w A R s h => by
    obtain ⟨hp, g, d, tk, os⟩ := s; obtain ⟨hl1, hl2, hl3, h⟩ := h;have hsub := sub_zip;have hL1 : SrcAt (Shared.heap ⟨hp, g, d, tk, os⟩) b1 l1 x1 := hl1;have hL2 : SrcAt (Shared.heap ⟨hp.push (y8 b1 l1), g, d, tk, os⟩) b2 l2 x2 := SrcAt.push hl2 _;have hL3 : SrcAt (Shared.heap ⟨(hp.push (y8 b1 l1)).push (y8 b2 l2), g, d, tk, os⟩) b3 l3 x3 := SrcAt.push (SrcAt.push hl3 _) _
    wp_walk using ox hL1, ox hL2, ox hL3
    exact ⟨_, rfl, h _ rfl⟩
theorem ic (a b c : Value) : checkTypeCall "zip" ⟨[a, b, c], []⟩ = pure () := by kernel_rfl
theorem gu (a b c : Value) : checkBuiltinCall "zip.__new__" ⟨[.type "zip", a, b, c], []⟩ = pure () := by kernel_rfl
theorem mi (a b c d : Value) : argsOk "object.__init__" ⟨[a, b, c, d], []⟩ := by
  unfold argsOk; rw [signature?_of (id := "object.__init__") (n := ['_', '_', 't', 'i', 'n', 'i', '_', '_']) (o := ['t', 'c', 'e', 'j', 'b', 'o']) (by kernel_rfl) F.owner_object]; kernel_rfl
theorem DrAt.start {h : Heap} {b : Bool} {n l : Addr} {xs : Array Value} (e : h.get? n = some (y8 b l)) (q : SrcAt h b l xs) : DrAt h ⟨n, l, xs⟩ 0 := by
  cases b
  . obtain ⟨o, e', c, n, r⟩ := (show h.IsTuple l xs from q)
    exact ⟨.inr ⟨_, e, rfl, rfl⟩, o, n, e', r⟩
  . obtain ⟨o, e', c, n, r⟩ := (show h.IsList l xs from q)
    exact ⟨.inl ⟨_, e, rfl, rfl⟩, o, n, e', r⟩
theorem SrcAt.keeps {h h' : Heap} {b : Bool} {l : Addr} {xs : Array Value} (q : SrcAt h b l xs) (k : ∀ c o, h.get? c = some o -> h'.get? c = some o) : SrcAt h' b l xs := by
  cases b
  . obtain ⟨p, e, r⟩ := (show h.IsTuple l xs from q)
    exact ⟨p, k _ _ e, r⟩
  . obtain ⟨p, e, r⟩ := (show h.IsList l xs from q)
    exact ⟨p, k _ _ e, r⟩
section
variable {prog : Program} {w : World} {A : Around} {E : Value -> Shared -> Prop} {s : Shared}
theorem zbx {b1 b2 b3 : Bool} {l1 l2 l3 : Addr} {x1 x2 x3 : Array Value} {Q : Value -> Shared -> Prop} (hl1 : SrcAt s.heap b1 l1 x1) (hl2 : SrcAt s.heap b2 l2 x2) (hl3 : SrcAt s.heap b3 l3 x3)
    (h : ∀ h', IsZip h' (s.heap.objs.size + 5) (s.heap.objs.size + 3) (s.heap.objs.size + 4) .none -> yt h' (s.heap.objs.size + 3) [.ref s.heap.objs.size, .ref (s.heap.objs.size + 1), .ref (s.heap.objs.size + 2)] ->
      yt h' (s.heap.objs.size + 4) [.none, .none, .none] -> DrAt h' ⟨s.heap.objs.size, l1, x1⟩ 0 -> DrAt h' ⟨s.heap.objs.size + 1, l2, x2⟩ 0 -> DrAt h' ⟨s.heap.objs.size + 2, l3, x3⟩ 0 ->
      (∀ c o, s.heap.get? c = some o -> h'.get? c = some o) -> Q (.ref (s.heap.objs.size + 5)) { s with heap := h' }) :
    wpAny (model prog w) A (call (.type "zip") [.ref l1, .ref l2, .ref l3]) Q E s := by
  refine callType_new F.called_zip (by decide) (ic _ _ _) (gu _ _ _) (fun obj => mi obj _ _ _) F.entry_zip_new
    (zaf b1 b2 b3 l1 l2 l3 x1 x2 x3) ⟨hl1, hl2, hl3, ?_⟩
  intro h0 e0;generalize e1 : s.heap.push (y8 b1 l1) = h1 at *;have z1 : h1.objs.size = s.heap.objs.size + 1 := by rw [<- e1]; exact Heap.size_push ..
  generalize e2 : h1.push (y8 b2 l2) = h2 at *;have z2 : h2.objs.size = s.heap.objs.size + 2 := by rw [<- e2, Heap.size_push, z1]
  generalize e3 : h2.push (y8 b3 l3) = h3 at *;have z3 : h3.objs.size = s.heap.objs.size + 3 := by rw [<- e3, Heap.size_push, z2]
  rw [z1, z2] at e0;rw [z1, z2, z3];generalize e4 : h3.push { cls := .type "tuple", data := .seq #[.ref s.heap.objs.size, .ref (s.heap.objs.size + 1), .ref (s.heap.objs.size + 2)] } = h4 at *;have z4 : h4.objs.size = s.heap.objs.size + 4 := by rw [<- e4, Heap.size_push, z3]
  have z5 : h0.objs.size = s.heap.objs.size + 5 := by rw [e0, Heap.size_push, z4]
  rw [z4, z5];have k1 : ∀ c o, s.heap.get? c = some o -> h1.get? c = some o := fun c o q => by rw [<- e1]; exact Heap.get?_push_of_some _ q
  have k2 : ∀ c o, h1.get? c = some o -> h2.get? c = some o := fun c o q => by rw [<- e2]; exact Heap.get?_push_of_some _ q
  have k3 : ∀ c o, h2.get? c = some o -> h3.get? c = some o := fun c o q => by rw [<- e3]; exact Heap.get?_push_of_some _ q
  have k4 : ∀ c o, h3.get? c = some o -> h4.get? c = some o := fun c o q => by rw [<- e4]; exact Heap.get?_push_of_some _ q
  have k5 : ∀ c o, h4.get? c = some o -> h0.get? c = some o := fun c o q => by rw [e0]; exact Heap.get?_push_of_some _ q
  have g1 : h1.get? s.heap.objs.size = some (y8 b1 l1) := by rw [<- e1]; exact Heap.get?_push_size _ rfl
  have g2 : h2.get? (s.heap.objs.size + 1) = some (y8 b2 l2) := by rw [<- e2, <- z1]; exact Heap.get?_push_size _ rfl
  have g3 : h3.get? (s.heap.objs.size + 2) = some (y8 b3 l3) := by rw [<- e3, <- z2]; exact Heap.get?_push_size _ rfl
  have g4 : h4.get? (s.heap.objs.size + 3) = some { cls := .type "tuple", data := .seq #[.ref s.heap.objs.size, .ref (s.heap.objs.size + 1), .ref (s.heap.objs.size + 2)] } := by rw [<- e4, <- z3]; exact Heap.get?_push_size _ rfl
  have g5 : h0.get? (s.heap.objs.size + 4) = some { cls := .type "tuple", data := .seq #[.none, .none, .none] } := by rw [e0, <- z4]; exact Heap.get?_push_size _ rfl
  generalize ezo : ({ cls := .type "zip", data := .fields #[.none, .bool false, .bool false, .ref (s.heap.objs.size + 3), .ref (s.heap.objs.size + 4)] } : Obj) = zo at *;have k6 : ∀ c o, h0.get? c = some o -> (h0.push zo).get? c = some o := fun c o q => Heap.get?_push_of_some _ q
  have g6 : (h0.push zo).get? (s.heap.objs.size + 5) = some zo := by rw [<- z5]; exact Heap.get?_push_size _ (by rw [<- ezo]; rfl)
  have kk : ∀ c o, s.heap.get? c = some o -> (h0.push zo).get? c = some o := fun c o q => k6 _ _ (k5 _ _ (k4 _ _ (k3 _ _ (k2 _ _ (k1 _ _ q)))))
  show _ /\ _
  have g7 : IsZip (h0.push zo) (s.heap.objs.size + 5) (s.heap.objs.size + 3) (s.heap.objs.size + 4) .none := by
    show (h0.push zo).get? _ = _
    rw [g6, <- ezo]
  refine ⟨⟨_, g7, rfl⟩, h _ g7 (k6 _ _ (k5 _ _ g4)) (k6 _ _ g5) ?_ ?_ ?_ kk⟩
  . exact DrAt.start (b := b1) (k6 _ _ (k5 _ _ (k4 _ _ (k3 _ _ (k2 _ _ g1))))) (hl1.keeps kk)
  . exact DrAt.start (b := b2) (k6 _ _ (k5 _ _ (k4 _ _ (k3 _ _ g2)))) (hl2.keeps kk)
  . exact DrAt.start (b := b3) (k6 _ _ (k5 _ _ (k4 _ _ g3))) (hl3.keeps kk)
end
end L2
namespace L2
open PySem PySem.Spec PyProof.Rows
def SqA (K : Fg) (H : Hp) (a : Addr) (xs : List V) : Prop := SqL K H a xs \/ SqT K H a xs
structure v5 (K : Fg) (H : Hp) (as : List Addr) (xss : List (List V)) : Prop where
  len : as.length = xss.length
  at' : ∀ (j : Nat) (a : Addr) (xs : List V), as[j]? = some a -> xss[j]? = some xs -> SqA K H a xs
def ItN (K : Fg) (as : List Addr) : It :=
  ⟨fun i H => ∃ xss, v5 K H as xss /\ ∀ xs ∈ xss, i < xs.length,
   fun i H v H' => ∃ T vs, v = .ref T /\ H T = none /\ H' = upd H T (.tup vs) /\ ∀ xss, v5 K H as xss -> vs.length = xss.length /\ ∀ (j : Nat) (xs : List V), xss[j]? = some xs -> xs[i]? = vs[j]?,
   fun i H => ∃ xss, v5 K H as xss /\ ∃ xs ∈ xss, xs.length <= i⟩
def za0 (z TI TO : Addr) (its ls : List Addr) (i : Nat) (h : Heap) : Prop :=
  IsZip h z TI TO .none /\ yt h TI (its.map fun a => .ref a) /\ (∃ old, yt h TO old /\ old.length = its.length) /\ ∀ (j : Nat) (it l : Addr), its[j]? = some it -> ls[j]? = some l -> h.IsListIter it l i \/ h.IsTupleIter it l i
structure db (z TI TO : Addr) (its : List Addr) : Prop where
  TIz : TI ≠ z
  TOz : TO ≠ z
  TITO : TI ≠ TO
  iz : ∀ it ∈ its, it ≠ z /\ it ≠ TI /\ it ≠ TO
  nd : its.Nodup
section
variable {X : Cx} {pins : List (Addr × Obj)} {σ : St} {H : Hp} {s : Shared}
theorem Inv.sqA (I : Inv X pins σ H s) {a : Addr} {xs : List V} (q : SqA X.K H a xs) : ∃ us : List Value, Vals xs us /\ SeqH s.heap a us.toArray := by
  rcases q with q | q
  . obtain ⟨us, r, pl, _⟩ := I.list q
    obtain ⟨o, e, c, n, d⟩ := pl.isList;exact ⟨us, r, o, n, e, d⟩
  . obtain ⟨us, r, ⟨o, e, c, n, d⟩, _⟩ := I.tuple q
    exact ⟨us, r, o, n, e, d⟩
theorem Inv.sqA_inj (I : Inv X pins σ H s) {a : Addr} {xs ys : List V} (q : SqA X.K H a xs) (q' : SqA X.K H a ys) : xs = ys := by
  obtain ⟨us, r, o, n, e, d⟩ := I.sqA q;obtain ⟨us', r', o', n', e', d'⟩ := I.sqA q';rw [e] at e';cases e';rw [d] at d'
  injection d' with d1 _
  have : us = us' := by simpa using congrArg Array.toList d1
  subst this;exact r.inj r'
theorem Inv.sqA_ne (I : Inv X pins σ H s) {a b : Addr} {xs : List V} (q : SqA X.K H a xs) (f : FpOk X pins H b) : a ≠ b := by
  rintro rfl
  have hk : ∀ o, X.K.lookup a = some o -> False := fun o hk => by
    have e : X.base.get? a = some o := I.ok.mod.kin a o hk
    rcases f.2.2.2.1 with z | z
    . exact I.ok.noex _ _ e z
    . exact absurd (Heap.lt_size (I.ok.bs a o e).1) (ZD.mpr z)
  rcases q with ((q | ⟨o, q⟩) | ⟨o, its, n, q, _⟩) | ((q | ⟨o, q⟩) | ⟨o, its, n, q, _⟩)
  . rw [f.1] at q; cases q
  . rw [f.1] at q; cases q
  . exact hk o q
  . rw [f.1] at q; cases q
  . rw [f.1] at q; cases q
  . exact hk o q
def mkDs : List Addr -> List Addr -> List (List Value) -> List Drw
  | it :: its, l :: ls, u :: us => ⟨it, l, u.toArray⟩ :: mkDs its ls us
  | _, _, _ => []
theorem w5 : ∀ {its ls : List Addr} {us : List (List Value)}, its.length = ls.length -> ls.length = us.length -> ∀ (j : Nat) (d : Drw), (mkDs its ls us)[j]? = some d ↔ ∃ it l u, its[j]? = some it /\ ls[j]? = some l /\ us[j]? = some u /\ d = ⟨it, l, u.toArray⟩
  | [], [], [], _, _, j, d => by simp [mkDs]
  | it :: its, l :: ls, u :: us, h1, h2, 0, d => by
    simp only [mkDs, List.getElem?_cons_zero, Option.some.injEq]
    constructor
    . intro e; exact ⟨it, l, u, rfl, rfl, rfl, e.symm⟩
    . rintro ⟨a, b, c, rfl, rfl, rfl, e⟩; exact e.symm
  | it :: its, l :: ls, u :: us, h1, h2, j + 1, d => by
    simp only [mkDs, List.getElem?_cons_succ];exact w5 (by simpa using h1) (by simpa using h2) j d
theorem kt : ∀ {its ls : List Addr} {us : List (List Value)}, its.length = ls.length -> ls.length = us.length -> (mkDs its ls us).length = its.length
  | [], [], [], _, _ => rfl
  | it :: its, l :: ls, u :: us, h1, h2 => by
    simp only [mkDs, ZQ];rw [kt (by simpa using h1) (by simpa using h2)]
theorem ku : ∀ {its ls : List Addr} {us : List (List Value)}, its.length = ls.length -> ls.length = us.length -> (mkDs its ls us).map (fun d => Value.ref d.it) = its.map fun a => Value.ref a
  | [], [], [], _, _ => rfl
  | it :: its, l :: ls, u :: us, h1, h2 => by
    simp only [mkDs, ZM];rw [ku (by simpa using h1) (by simpa using h2)]
theorem o6 (I : Inv X pins σ H s) : ∀ {as : List Addr} {xss : List (List V)}, v5 X.K H as xss -> ∃ uss : List (List Value), as.length = uss.length /\ ∀ (j : Nat) (a : Addr) (xs : List V) (us : List Value), as[j]? = some a -> xss[j]? = some xs -> uss[j]? = some us -> Vals xs us /\ SeqH s.heap a us.toArray
  | [], [], _ => ⟨[], rfl, fun j a xs us e => by simp at e⟩
  | a :: as, xs :: xss, q => by
    obtain ⟨us, r, sq⟩ := I.sqA (q.at' 0 a xs rfl rfl);obtain ⟨uss, l, f⟩ := o6 I (as := as) (xss := xss) ⟨by simpa using q.len, fun j b ys e1 e2 => q.at' (j + 1) b ys (by simpa using e1) (by simpa using e2)⟩;refine ⟨us :: uss, by simp [l], fun j b ys vs e1 e2 e3 => ?_⟩
    cases j with
    | zero =>
      simp at e1 e2 e3;subst e1 e2 e3;exact ⟨r, sq⟩
    | succ j => exact f j b ys vs (by simpa using e1) (by simpa using e2) (by simpa using e3)
  | [], xs :: xss, q => by simpa using q.len
  | a :: as, [], q => by simpa using q.len
theorem zcb (I : Inv X pins σ H s) {as : List Addr} {xss yss : List (List V)} (q : v5 X.K H as xss) (q' : v5 X.K H as yss) : xss = yss := by
  refine List.ext_getElem? fun j => ?_
  cases e1 : xss[j]? with
  | none =>
    have := List.getElem?_eq_none_iff.mp e1;exact (Yr (by rw [<- q'.len, q.len]; exact this)).symm
  | some xs =>
    have hj := (Zc.mp e1).1;have hj1 : j < as.length := by rw [q.len]; exact hj
    have hj2 : j < yss.length := by rw [<- q'.len]; exact hj1
    rw [Zb hj2, I.sqA_inj (q.at' j _ xs (Zb hj1) e1) (q'.at' j _ _ (Zb hj1) (Zb hj2))]
theorem ji (I : Inv X pins σ H s) {z TI TO : Addr} {its ls : List Addr} (D : db z TI TO its) (hl : its.length = ls.length) {i : Nat} (hf : ∀ b ∈ z :: TI :: TO :: its, FpOk X pins H b) (st : za0 z TI TO its ls i s.heap) {xss : List (List V)} (q : v5 X.K H ls xss)
    {uss : List (List Value)} (lu : ls.length = uss.length) (hu : ∀ (j : Nat) (a : Addr) (xs : List V) (us : List Value), ls[j]? = some a -> xss[j]? = some xs -> uss[j]? = some us -> Vals xs us /\ SeqH s.heap a us.toArray) :
    mh z TI TO (mkDs its ls uss) /\ ∀ d ∈ mkDs its ls uss, DrAt s.heap d i := by
  have get : ∀ d ∈ mkDs its ls uss, ∃ (j : Nat) (it l : Addr) (u : List Value) (xs : List V), its[j]? = some it /\ ls[j]? = some l /\ uss[j]? = some u /\ xss[j]? = some xs /\ d = ⟨it, l, u.toArray⟩ := fun d hd => by
    obtain ⟨j, hj, e⟩ := Zy hd;obtain ⟨it, l, u, e1, e2, e3, e4⟩ := (w5 hl lu j d).mp (by rw [<- e]; exact Zb hj);have hjx : j < xss.length := by rw [<- q.len]; exact (Zc.mp e2).1
    exact ⟨j, it, l, u, _, e1, e2, e3, Zb hjx, e4⟩
  have at0 : ∀ d ∈ mkDs its ls uss, DrAt s.heap d i := fun d hd => by
    obtain ⟨j, it, l, u, xs, e1, e2, e3, e4, rfl⟩ := get d hd;exact ⟨st.2.2.2 j it l e1 e2, (hu j l xs u e2 e4 e3).2⟩
  have sq : ∀ d ∈ mkDs its ls uss, ∃ xs, SqA X.K H d.l xs := fun d hd => by
    obtain ⟨j, it, l, u, xs, e1, e2, e3, e4, rfl⟩ := get d hd;exact ⟨xs, q.at' j l xs e2 e4⟩
  have itm : ∀ d ∈ mkDs its ls uss, d.it ∈ its := fun d hd => by
    obtain ⟨j, it, l, u, xs, e1, e2, e3, e4, rfl⟩ := get d hd;exact Zi e1
  refine ⟨⟨D.TIz, D.TOz, D.TITO, fun d hd => D.iz _ (itm d hd), fun d hd => ?_, fun j k d e ej ek hjk => ?_, fun d e hd he => ?_⟩, at0⟩
  . obtain ⟨xs, q1⟩ := sq d hd
    exact ⟨I.sqA_ne q1 (hf z (by simp)), I.sqA_ne q1 (hf TO (by simp))⟩
  . obtain ⟨it, l, u, a1, _, _, rfl⟩ := (w5 hl lu j d).mp ej
    obtain ⟨it', l', u', a1', _, _, rfl⟩ := (w5 hl lu k e).mp ek;intro heq;have heq' : it = it' := heq;subst heq';obtain ⟨h1, g1⟩ := Zc.mp a1;obtain ⟨h2, g2⟩ := Zc.mp a1';exact hjk ((Yo D.nd).mp (g1.trans g2.symm))
  . obtain ⟨xs, q1⟩ := sq d hd
    exact I.sqA_ne q1 (hf e.it (by simp [itm e he]))
end
theorem za9 {P : Program} {w : World} {K : Fg} {elts : List Expr} {x1 : Nat} {pos : Pos} (z TI TO : Addr) (its ls : List Addr) (D : db z TI TO its) (hl : its.length = ls.length) (hn : its ≠ []) (h8 : its.length <= 8) :
    Turn P w K (.Tuple elts x1 pos) (ItN K ls) (z :: TI :: TO :: its) z (za0 z TI TO its ls) where
  mem := by simp
  obj := fun i h st b hb => by
    obtain ⟨hz, hTI, ⟨old, hTO, _⟩, hi⟩ := st;simp only [ZK] at hb
    rcases hb with rfl | rfl | rfl | hb
    . exact ⟨_, hz, fun v q => by cases q⟩
    . exact ⟨_, hTI, fun v q => by cases q⟩
    . exact ⟨_, hTO, fun v q => by cases q⟩
    . obtain ⟨j, hj, e⟩ := Zy hb
      have hj2 : j < ls.length := by rw [<- hl]; exact hj
      rcases hi j b _ (by rw [<- e]; exact Zb hj) (Zb hj2) with ⟨o, e1, _, d1⟩ | ⟨o, e1, _, d1⟩
      . exact ⟨o, e1, fun v q => by rw [d1] at q; cases q⟩
      . exact ⟨o, e1, fun v q => by rw [d1] at q; cases q⟩
  keep := fun i h h' st k => by
    obtain ⟨hz, hTI, ⟨old, hTO, lo⟩, hi⟩ := st;refine ⟨k z (by simp) _ hz, k TI (by simp) _ hTI, ⟨old, k TO (by simp) _ hTO, lo⟩, fun j it l e1 e2 => ?_⟩;have hm : it ∈ z :: TI :: TO :: its := by simp [Zi e1]
    rcases hi j it l e1 e2 with ⟨o, a, r⟩ | ⟨o, a, r⟩
    . exact .inl ⟨o, k it hm o a, r⟩
    . exact .inr ⟨o, k it hm o a, r⟩
  item := by
    intro X hP hw hK hc i pins s σ H E I hf st hg;subst hP hw hK;obtain ⟨xss, q, hlen⟩ := hg;obtain ⟨uss, lu, hu⟩ := o6 I q;obtain ⟨A, at0⟩ := ji I D hl hf st q lu hu;obtain ⟨hz, hTI, ⟨old, hTO, lo⟩, hi⟩ := id st;have dl := kt hl lu
    -- the values of this turn
    have hvs : ∃ (vs : List V) (ws : List Value), Vals vs ws /\ vs.length = xss.length /\ ws.length = xss.length /\ (∀ (j : Nat) (xs : List V), xss[j]? = some xs -> xs[i]? = vs[j]?) /\ ∀ (j : Nat) (us : List Value), uss[j]? = some us -> us[i]? = ws[j]? := by
      have go : ∀ (ys : List (List V)) (us : List (List Value)), ys.length = us.length -> (∀ xs ∈ ys, i < xs.length) -> (∀ (j : Nat) (xs : List V) (u : List Value), ys[j]? = some xs -> us[j]? = some u -> Vals xs u) ->
          ∃ (vs : List V) (ws : List Value), Vals vs ws /\ vs.length = ys.length /\ ws.length = ys.length /\ (∀ (j : Nat) (xs : List V), ys[j]? = some xs -> xs[i]? = vs[j]?) /\ ∀ (j : Nat) (u : List Value), us[j]? = some u -> u[i]? = ws[j]? := by
        intro ys
        induction ys with
        | nil =>
          intro us hl _ _
          cases us with
          | nil => exact ⟨[], [], .nil, rfl, rfl, fun j xs e => by simp at e, fun j xs e => by simp at e⟩
          | cons _ _ => simp at hl
        | cons y ys ih =>
          intro us hl h1 h2
          cases us with
          | nil => simp at hl
          | cons u us =>
            obtain ⟨vs, ws, r, l1, l2, g1, g2⟩ := ih us (by simpa using hl) (fun xs hx => h1 xs (Zv _ hx)) fun j xs v e1 e2 => h2 (j + 1) xs v (by simpa using e1) (by simpa using e2)
            have hy : i < y.length := h1 y ZA;have r0 := h2 0 y u rfl rfl;obtain ⟨x, hx, rx⟩ := r0.get (Zb hy);refine ⟨y[i] :: vs, x :: ws, .cons rx r, by simp [l1], by simp [l2], fun j xs e => ?_, fun j v e => ?_⟩
            . cases j with
              | zero =>
                simp at e;subst e;simp [hy]
              | succ j => simpa using g1 j xs (by simpa using e)
            . cases j with
              | zero =>
                simp at e;subst e
                simpa using hx
              | succ j => simpa using g2 j v (by simpa using e)
      refine go xss uss (by rw [<- q.len, lu]) hlen fun j xs u e1 e2 => ?_
      have hj : j < ls.length := by rw [lu]; exact (Zc.mp e2).1
      exact (hu j _ xs u (Zb hj) e1 e2).1
    obtain ⟨vs, ws, rvs, lv, lw, gv, gw⟩ := hvs;refine ki (vs := ws) (old := old) A (fun e => hn (by have := congrArg List.length e; rw [dl] at this; exact Yc.mp this)) hz (by rw [ku hl lu]; exact hTI) hTO (by rw [lw, dl, hl, q.len]) (by rw [lo, dl]) (by rw [dl]; exact h8) at0 (fun j d ed => ?_) fun h' a1 a2 a3 a4 a5 hk => ?_
    . obtain ⟨it, l, u, e1, e2, e3, rfl⟩ := (w5 hl lu j d).mp ed
      show u.toArray[i]? = _
      rw [List.getElem?_toArray];exact gw j u e3
    have ltT : ∀ {c o}, s.heap.get? c = some o -> c ≠ s.heap.objs.size := fun e => Zs (Heap.lt_size e)
    refine ⟨_, rfl, wpAny_letOwnedTupleGo_zip (s := { s with heap := h' }) a1 fun h'' b1 sb => ?_⟩;have hTz : s.heap.objs.size ≠ z := Ne.symm (ltT hz)
    have itz : ∀ d ∈ mkDs its ls uss, d.it ∈ its := fun d hd => by
      obtain ⟨j, hj, e⟩ := Zy hd;obtain ⟨it, l, u, e1, _, _, e4⟩ := (w5 hl lu j d).mp (by rw [<- e]; exact Zb hj);rw [e4];exact Zi e1
    have kk : ∀ c o, c ∉ z :: TO :: its -> s.heap.get? c = some o -> h''.get? c = some o := fun c o hc e => by
      simp only [ZK, not_or] at hc;exact sb.extBut c o hc.1 (hk c o hc.1 hc.2.1 (fun d hd z => hc.2.2 (z ▸ itz d hd)) e)
    have hf4 : ∀ b ∈ z :: TO :: its, FpOk X pins H b := fun b hb => hf b (by
      simp only [ZK] at hb ⊢
      rcases hb with h | h | h
      . exact .inl h
      . exact .inr (.inr (.inl h))
      . exact .inr (.inr (.inr h)))
    have hvl : vs.length <= sizeLine := Zd (show vs.length <= 8 by rw [lv, <- q.len, <- hl]; exact h8) (by decide)
    have I1 : Inv X pins σ (upd H s.heap.objs.size (.tup vs)) { s with heap := h'', toks := s.toks } := I.turnedLaid (ch := z :: TO :: its) hf4 (fun b o hb e => kk b o hb e) (Zm _) ⟨hvl, ws, rvs, by
        have e := sb.extBut _ _ hTz a4
        exact ⟨_, e, rfl, _, rfl, rfl⟩⟩
    refine ⟨.ref s.heap.objs.size, _, I1, rfl, ⟨s.heap.objs.size, vs, rfl, I.hok.fresh (Zm _), rfl, fun yss q' => ?_⟩, ?_, fun b hb => ?_⟩
    . rw [zcb I q' q]
      exact ⟨lv, gv⟩
    . refine ⟨b1, sb.extBut _ _ D.TIz (hk _ _ D.TIz D.TITO (fun d hd => Ne.symm (A.iz d hd).2.1) hTI), ⟨ws, sb.extBut _ _ D.TOz a2, by rw [lw, <- q.len, hl]⟩, fun j it l e1 e2 => ?_⟩
      have hj3 : j < uss.length := by rw [<- lu]; exact (Zc.mp e2).1
      have hm : (⟨it, l, (uss[j]).toArray⟩ : Drw) ∈ mkDs its ls uss := Zi ((w5 hl lu j _).mpr ⟨it, l, _, e1, e2, Zb hj3, rfl⟩);have hne : it ≠ z := (A.iz _ hm).1
      rcases (a3 _ hm).1 with ⟨o, a, r⟩ | ⟨o, a, r⟩
      . exact .inl ⟨o, sb.extBut _ _ hne a, r⟩
      . exact .inr ⟨o, sb.extBut _ _ hne a, r⟩
    . have hb' := (hf b hb).1
      rw [zp ?_]
      . exact hb'
      . simp only [ZK] at hb
        rcases hb with rfl | rfl | rfl | hb
        . exact ltT hz
        . exact ltT hTI
        . exact ltT hTO
        . obtain ⟨j, hj, e⟩ := Zy hb
          have hj2 : j < ls.length := by rw [<- hl]; exact hj
          rcases hi j b _ (by rw [<- e]; exact Zb hj) (Zb hj2) with ⟨o, e1, _⟩ | ⟨o, e1, _⟩ <;> exact ltT e1
  done := by
    intro X hP hw hK hc i pins s σ H E I hf st hg;subst hP hw hK;obtain ⟨xss, q, xs, hxm, hle⟩ := hg;obtain ⟨uss, lu, hu⟩ := o6 I q;obtain ⟨A, at0⟩ := ji I D hl hf st q lu hu;obtain ⟨hz, hTI, ⟨old, hTO, lo⟩, hi⟩ := id st;have dl := kt hl lu
    have itz : ∀ d ∈ mkDs its ls uss, d.it ∈ its := fun d hd => by
      obtain ⟨j, hj, e⟩ := Zy hd;obtain ⟨it, l, u, e1, _, _, e4⟩ := (w5 hl lu j d).mp (by rw [<- e]; exact Zb hj);rw [e4];exact Zi e1
    refine jq (old := old) (I.ok.hd hc) A (fun e => hn (by have := congrArg List.length e; rw [dl] at this; exact Yc.mp this)) hz (by rw [ku hl lu]; exact hTI) hTO (by rw [lo, dl]) (by rw [dl]; exact h8) at0 ?_ fun h' hk => ⟨rfl, ?_⟩
    . obtain ⟨j, hj, e⟩ := Zy hxm
      have ex : xss[j]? = some xs := by rw [<- e]; exact Zb hj
      have hj1 : j < ls.length := by rw [q.len]; exact hj
      have hj2 : j < its.length := by rw [hl]; exact hj1
      have hj3 : j < uss.length := by rw [<- lu]; exact hj1
      refine ⟨⟨its[j], ls[j], (uss[j]).toArray⟩, Zi ((w5 hl lu j _).mpr ⟨_, _, _, Zb hj2, Zb hj1, Zb hj3, rfl⟩), ?_⟩;have r := (hu j _ xs _ (Zb hj1) ex (Zb hj3)).1;have rl := r.length
      show (uss[j]).toArray[i]? = none
      rw [List.getElem?_toArray];exact Yr (by omega)
    have nch : ∀ b u, H b = some u -> b ∉ z :: TO :: its := fun b u e q => by
      have := (hf b (by
        simp only [ZK] at q ⊢
        rcases q with h | h | h
        . exact .inl h
        . exact .inr (.inr (.inl h))
        . exact .inr (.inr (.inr h)))).1
      rw [this] at e; cases e
    have k : ∀ b o, b ∉ z :: TO :: its -> s.heap.get? b = some o -> h'.get? b = some o := fun b o hb e => by
      simp only [ZK, not_or] at hb;exact hk b o hb.1 hb.2.1 (fun d hd z => hb.2.2 (z ▸ itz d hd)) e
    have hf4 : ∀ b ∈ z :: TO :: its, FpOk X pins H b := fun b hb => hf b (by
      simp only [ZK] at hb ⊢
      rcases hb with h | h | h
      . exact .inl h
      . exact .inr (.inr (.inl h))
      . exact .inr (.inr (.inr h)))
    exact I.step (g' := s.gens) (d' := s.drawn) (t' := s.toks) (ch := z :: TO :: its) (fun b hb => by
        obtain ⟨f0, f1, f2, f3, f4, f5⟩ := hf4 b hb
        exact ⟨f3, f1, f4, f5⟩) (fun b o _ _ hc e _ => k b o hc e) (fun b o _ _ hc e _ => ⟨o.slots, k b o hc e⟩) (fun b o _ e n => n)
      (fun b o hc e => ⟨o, k b o hc e⟩) (fun b xs e => e) (fun b ob u e => e) (fun b ps e => ⟨#[], by rw [e]; simp⟩) (fun m hm => by
        obtain ⟨ob, es, ep, ho, r⟩ := hm
        exact ⟨ob, es, ep, k _ ob (fun q => (hf4 _ q).2.1 rfl) ho, r⟩) (fun b u e => (I.hok b u e).stay (fun c v hc q => k c v (by
          rcases hc with r | r
          . rw [r]; exact nch b u e
          . exact nch c _ r) q) (fun _ q => q) fun _ _ q => q) I.bare
  self := fun _ _ _ _ _ st h => wpAny_pyIter_zip st.1 h
theorem Inv.src {X : Cx} {pins : List (Addr × Obj)} {σ : St} {H : Hp} {s : Shared} (I : Inv X pins σ H s) {a : Addr} {xs : List V} (q : SqA X.K H a xs) : ∃ b us, SrcAt s.heap b a us := by
  rcases q with q | q
  . obtain ⟨us, r, pl, _⟩ := I.list q
    exact ⟨true, _, pl.isList⟩
  . obtain ⟨us, r, pl, _⟩ := I.tuple q
    exact ⟨false, _, pl⟩
def iZip3 (K : Fg) (ta : TA) : TI := fun σ H R => ta σ H fun vs H1 => ∃ a b c, vs = [.ref a, .ref b, .ref c] /\ (∃ xss, v5 K H1 [a, b, c] xss) /\ R (ItN K [a, b, c]) H1
def iZip2 (K : Fg) (ta : TA) : TI := fun σ H R => ta σ H fun vs H1 => ∃ a b, vs = [.ref a, .ref b] /\ (∃ xss, v5 K H1 [a, b] xss) /\ R (ItN K [a, b]) H1
theorem e_zip3 {K : Fg} {ta : TA} {σ : St} {H : Hp} {R : It -> Hp -> Prop} : iZip3 K ta σ H R = ta σ H fun vs H1 => ∃ a b c, vs = [.ref a, .ref b, .ref c] /\ (∃ xss, v5 K H1 [a, b, c] xss) /\ R (ItN K [a, b, c]) H1 := rfl
theorem e_zip2 {K : Fg} {ta : TA} {σ : St} {H : Hp} {R : It -> Hp -> Prop} : iZip2 K ta σ H R = ta σ H fun vs H1 => ∃ a b, vs = [.ref a, .ref b] /\ (∃ xss, v5 K H1 [a, b] xss) /\ R (ItN K [a, b]) H1 := rfl
theorem Vals.three {x y z : V} {us : List Value} (r : Vals [x, y, z] us) : ∃ u v w, us = [u, v, w] /\ RelV x u /\ RelV y v /\ RelV z w := by
  cases r with
  | cons r1 r => cases r with
    | cons r2 r => cases r with
      | cons r3 r =>
        cases r;exact ⟨_, _, _, rfl, r1, r2, r3⟩
theorem zer {X : Cx} {a b c : Expr} {ta : TA} {p pos tpos : Pos} {elts : List Expr} {x1 : Nat} (hg : Gl X "zip") (hm : X.mg "zip" = none) (ha : PA X [a, b, c] ta)
    (hs : starEach [a, b, c] X.env = (false, eval a X.env) :: starEach [b, c] X.env := by rfl) (hs2 : (backTo pos (starEach [b, c] X.env)).any (·.1) = false := by rfl) :
    PI X (.Tuple elts x1 tpos) (.Call (.Name "zip" p) [a, b, c] [] pos) (iZip3 X.K ta) := by
  intro pins s σ H R I h;refine Call_ (ss I hg hm zar (PyProof.Rows.callWith_type1 (thn (ha pos pins s σ H _ I h) fun us s1 ⟨vs, H1, I1, r1, q1⟩ => ?_) hs hs2));obtain ⟨a, b, c, e, ⟨xss, qa⟩, q⟩ := q1;subst e;obtain ⟨u, v, y, rfl, ru, rv, ry⟩ := Vals.three r1;cases ru; cases rv; cases ry
  match xss, qa with
  | [xa, xb, xc], qa =>
  obtain ⟨k1, y1, s1'⟩ := I1.src (qa.at' 0 a xa rfl rfl);obtain ⟨k2, y2, s2'⟩ := I1.src (qa.at' 1 b xb rfl rfl);obtain ⟨k3, y3, s3'⟩ := I1.src (qa.at' 2 c xc rfl rfl);refine zbx s1' s2' s3' fun h' z1 z2 z3 z4 z5 z6 kp => ?_
  refine wpAny_pyIter_zip (s := { s1 with heap := h' }) z1 ?_;have I2 : Inv X pins σ H1 { s1 with heap := h' } := I1.kept (t' := s1.toks) kp
  have D : db (s1.heap.objs.size + 5) (s1.heap.objs.size + 3) (s1.heap.objs.size + 4) [s1.heap.objs.size, s1.heap.objs.size + 1, s1.heap.objs.size + 2] := by
    refine ⟨(by show (_ : Nat) ≠ _; omega), (by show (_ : Nat) ≠ _; omega), (by show (_ : Nat) ≠ _; omega), fun it hi => ?_, ?_⟩
    . simp only [ZK, Zx, or_false] at hi
      rcases hi with rfl | rfl | rfl <;> refine ⟨?_, ?_, ?_⟩ <;> (show (_ : Nat) ≠ _; omega)
    . simp
  refine ⟨s1.heap.objs.size + 5, (s1.heap.objs.size + 5) :: (s1.heap.objs.size + 3) :: (s1.heap.objs.size + 4) :: [s1.heap.objs.size, s1.heap.objs.size + 1, s1.heap.objs.size + 2], _, _, H1, rfl, I2, za9 _ _ _ [s1.heap.objs.size, s1.heap.objs.size + 1, s1.heap.objs.size + 2] [a, b, c] D rfl (by simp) (by simp), ⟨z1, z2, ⟨_, z3, rfl⟩, fun j it l e1 e2 => ?_⟩, fun e he => ?_, q⟩
  . match j with
    | 0 => simp at e1 e2; subst e1 e2; exact z4.1
    | 1 => simp at e1 e2; subst e1 e2; exact z5.1
    | 2 => simp at e1 e2; subst e1 e2; exact z6.1
    | j + 3 => simp at e1
  have hle : s1.heap.objs.size <= e := by
    simp only [ZK, Zx, or_false] at he
    rcases he with h | h | h | h | h | h <;> (rw [h]; omega)
  exact I1.fpOk hle (I1.hok.fresh hle)
section
variable {σ : St} {k : Nat} {g : TG} {tt : TT} {te : TE} {H1 : Hp} {Fin : List V -> Hp -> Prop}
theorem zax {K : Fg} {as : List Addr} {xss : List (List V)} {n : Nat} (Pv : Nat -> List V -> Hp -> Prop) (h0 : Pv 0 [] H1) (hn : ∀ xs ∈ xss, n <= xs.length) (he : ∃ xs ∈ xss, xs.length = n) (hz : ∀ i ys H, i <= n -> Pv i ys H -> ys.length <= sizeLine /\ v5 K H as xss)
    (hs : ∀ i vs ys H T, i < n -> vs.length = xss.length -> (∀ (j : Nat) (xs : List V), xss[j]? = some xs -> xs[i]? = vs[j]?) -> H T = none -> Pv i ys H -> g (.ref T) (List.replicate k none ++ σ) (upd H T (.tup vs)) fun σ2 H2 => σ2.drop k = σ /\ tt σ2 H2 fun b H3 => if b = true then te σ2 H3 fun v H4 => Pv (i + 1) (ys ++ [v]) H4 else Pv (i + 1) ys H3)
    (hd : ∀ ys H, Pv n ys H -> Fin ys H) : sm (ItN K as) σ k g tt te H1 Fin := by
  refine ⟨fun i m ys H => m = n - i /\ i <= n /\ Pv i ys H, ⟨n, by simp, ZE _, h0⟩, ?_⟩
  rintro i m ys H ⟨rfl, hi, p⟩
  obtain ⟨q0, qa⟩ := hz i ys H hi p;refine ⟨q0, ?_⟩
  by_cases hlt : i < n
  . refine .inr ⟨⟨xss, qa, fun xs hx => Zh hlt (hn xs hx)⟩, Pv (i + 1), fun ys' H' p' => ⟨n - (i + 1), by omega, rfl, hlt, p'⟩, fun x H' y => ?_⟩
    obtain ⟨T, vs, rfl, hT, rfl, hy⟩ := y;obtain ⟨l, f⟩ := hy xss qa;exact hs i vs ys _ T hlt l f hT p
  . have e : i = n := by omega
    subst e;obtain ⟨xs, hx, el⟩ := he;exact .inl ⟨⟨xss, qa, xs, hx, by omega⟩, hd ys H p⟩
end
end L2
namespace L2
open PySem PySem.Spec PyProof.Rows
theorem ir : entryFor table "dict.update.loop" = some Builtin.«dict.update.loop» := entryFor_of_tree (by kernel_rfl)
theorem px : plainId "dict.update.loop" = true := by decide +kernel
theorem ib : typeLookup (.type "list") "keys" = pure none := by rw [typeLookup_type, builtinLookup_eq_fast]; kernel_rfl
theorem nz {prog : Program} {w : World} {A : Around} {E : Value -> Shared -> Prop} {s : Shared} {a : Addr} {o : Obj} {xs : Array Value} {k : Nat} {Q : Option Value -> Shared -> Prop}
    (hx : s.heap.get? a = some o) (hc : o.cls = .type "list") (hdat : o.data = .seq xs k) (hd : o.dict = none) (hA : A.handled = none)
    (h : ∀ h' tk, (∀ b o, s.heap.get? b = some o -> h'.get? b = some o) -> Q none { s with heap := h', toks := tk }) :
    wpAny (model prog w) A (getAttr? (.ref a) "keys") Q E s := by
  obtain ⟨c, dct, dat, sl⟩ := o;simp only at hc hdat hd;subst hc hdat hd;obtain ⟨hp, g, d, tk, os⟩ := s;have hT : ∀ tk', (⟨hp, g, d, tk', os⟩ : Shared).TypeIs (.ref a) "list" := fun _ => ⟨_, hx, rfl⟩
  have f1 := sub_AttributeError;have f3 := F.slot_list_getattribute.lookup;have f4 := F.slot_list_getattribute.bind (.ref a);have f5 := am_list_getattr_none;unfold getAttr? getAttrBy? getAttrBy
  repeat (any_goals (first | assumption | exact hT _ | ((with_reducible show wpAny _ _ (call (Value.builtin "list.__getattribute__") _ _) _ _ _); refine call_meets F.slot_list_getattribute (hT _) am_entry_list_getattribute (F.args_list_getattribute_2 _ _) (meets_getattribute_miss_list a xs k sl "keys" _ ib (by decide) (by decide)) ⟨hx, hA, fun h' tk' e hx' => ?_⟩) | wp_step))
  obtain ⟨t', u', he⟩ := hx'.there
  show wpAny _ _ (getattributeRaised _ _ _ _ _ _ _) _ _ _
  unfold getattributeRaised
  repeat (any_goals (first | assumption | wp_step))
  exact h _ _ hx'.keeps
section
variable {prog : Program} {w : World} {K : Type} [DecidableEq K] {knd : KeyKind prog w K}
def accH (ps : List (List K × Addr × Value)) (i : Nat) : List (List K × Addr × Value) := (ps.take i).foldl (fun xs p => storedH xs p.1 p.2.1 p.2.2) []
theorem ck {G : List K -> Addr -> Prop} {xs : List (List K × Addr × Value)} {k : List K} {b : Addr} {v : Value} (h : ∀ x ∈ xs, G x.1 x.2.1) (hk : G k b) : ∀ x ∈ storedH xs k b v, G x.1 x.2.1 := by
  unfold storedH
  split
  . intro x hx
    obtain ⟨y, hy, rfl⟩ := Zp.mp hx;unfold putAt
    split
    . exact h y hy
    . exact h y hy
  . intro x hx
    rcases ZH.mp hx with hx | hx
    . exact h x hx
    . rw [ZC.mp hx]; exact hk
theorem md {ps : List (List K × Addr × Value)} {i : Nat} {p : List K × Addr × Value} (h : ps[i]? = some p) : accH ps (i + 1) = storedH (accH ps i) p.1 p.2.1 p.2.2 := by
  unfold accH;rw [Zq, h];simp
theorem c4 (xs : List (List K × Addr × Value)) (k : List K) (b : Addr) (v : Value) : (storedH xs k b v).length <= xs.length + 1 := by
  unfold storedH
  split
  . rw [Za]; omega
  . rw [Zo]; simp
theorem ce (ps : List (List K × Addr × Value)) : ∀ i, i <= ps.length -> (accH ps i).length <= i
  | 0, _ => Zm _
  | i + 1, h => by
    have e : ps[i]? = some ps[i] := Zb h;rw [md e];exact Zd (c4 _ _ _ _) (Yi (ce ps i (by omega)))
structure j5 (knd : KeyKind prog w K) (h : Heap) (items : Array Value) (ps : List (List K × Addr × Value)) : Prop where
  len : items.size = ps.length
  at' : ∀ (i : Nat) (p : List K × Addr × Value), ps[i]? = some p -> ∃ T, items[i]? = some (.ref T) /\ h.IsTuple T #[.ref p.2.1, p.2.2] /\ (tupleKind knd).is h p.1 p.2.1
theorem isK {h h' : Heap} {ks : List K} {a : Addr} (q : (tupleKind knd).is h ks a) (k : ∀ o, h.get? a = some o -> h'.get? a = some o) : (tupleKind knd).is h' ks a := by
  obtain ⟨o, its, n, e, r⟩ := q;exact ⟨o, its, n, k o e, r⟩
theorem nh {h h' : Heap} {d : Addr} {xs : List (List K × Addr × Value)} (q : h.DictOfH (tupleKind knd) d xs) (hd : ∀ o, h.get? d = some o -> h'.get? d = some o) (hx : ∀ x ∈ xs, (tupleKind knd).is h' x.1 x.2.1) : h'.DictOfH (tupleKind knd) d xs := by
  obtain ⟨o, es, ep, ho, hc, hdat, he, _, hn⟩ := q;exact ⟨o, es, ep, hd o ho, hc, hdat, he, hx, hn⟩
theorem zbs {A : Around} {hB : Heap} {g : Array GenState} {dr : Drawn} {os : OsState} {d it l : Addr} {items : Array Value} {ps : List (List K × Addr × Value)} {R : Result -> Shared -> Prop} (hA : A.handled = none) (hu : (tupleKind knd).room A.in1) (hl : hB.IsList l items) (hP : j5 knd hB items ps) (hd : hB.objs.size <= d) (hi : hB.objs.size <= it) (hdi : d ≠ it) (hz : ps.length <= sizeLine)
    (hR : ∀ h' tk, (∀ c o, hB.get? c = some o -> h'.get? c = some o) -> h'.DictOfH (tupleKind knd) d (accH ps ps.length) -> R (.ok (.ret .none)) ⟨h', g, dr, tk, os⟩) :
    ∀ (k i : Nat) (h : Heap) (tk : Nat), ps.length - i = k -> i <= ps.length -> (∀ c o, hB.get? c = some o -> h.get? c = some o) -> h.IsListIter it l i -> h.DictOfH (tupleKind knd) d (accH ps i) -> (∀ x ∈ accH ps i, (tupleKind knd).is hB x.1 x.2.1) ->
      codeAny (model prog w) A (.builtin "dict.update.loop" ⟨[.ref d, .ref it, rawInt i, .none], []⟩) R ⟨h, g, dr, tk, os⟩ := by
  have ltB : ∀ {c o}, hB.get? c = some o -> c < hB.objs.size := fun e => Heap.lt_size e
  intro k
  induction k with
  | zero =>
    intro i h tk hk hi' kp hit hD hG;have e : i = ps.length := by omega
    subst e;refine codeAny_builtin ir ?_;rw [Around.under_plainId px _];have hl' : h.IsList l items := hl.at fun o e => kp _ o e
    show wpAny _ A.in1 (pyNext (.ref it) >>= _) _ _ _
    refine wpAny_bind (wpAny_pyNext_list_end (s := ⟨h, g, dr, tk, os⟩) hA hit hl' (by rw [Array.getElem?_eq_none]; rw [hP.len]; exact Zm _) fun h' ext => ?_)
    replace ext : Heap.ExtBut it h h' := ext
    have kp' : ∀ c o, hB.get? c = some o -> h'.get? c = some o := fun c o e => ext c o (Zs (Zh (ltB e) hi)) (kp c o e)
    show wpAny _ _ (Builtin.Dict.addKeywords d [] >>= _) _ _ _
    exact wpAny_bind (wpAny_pure (wpAny_pure (hR h' tk kp' (nh hD (fun o e => ext d o hdi e) fun x hx => isK (hG x hx) fun o e => kp' _ o e))))
  | succ k ih =>
    intro i h tk hk hi' kp hit hD hG;have hlt : i < ps.length := by omega
    have ep : ps[i]? = some ps[i] := Zb hlt;obtain ⟨T, eT, hT, hK⟩ := hP.at' i _ ep;refine codeAny_builtin ir ?_;rw [Around.under_plainId px _];have hl' : h.IsList l items := hl.at fun o e => kp _ o e
    show wpAny _ A.in1 (pyNext (.ref it) >>= _) _ _ _
    refine wpAny_bind (wpAny_pyNext_list_item (s := ⟨h, g, dr, tk, os⟩) hit hl' eT fun h1 hit1 sb => ?_)
    replace sb : Heap.SameBut it h h1 := sb
    have kp1 : ∀ c o, hB.get? c = some o -> h1.get? c = some o := fun c o e => sb.extBut c o (Zs (Zh (ltB e) hi)) (kp c o e)
    have hD1 : h1.DictOfH (tupleKind knd) d (accH ps i) := nh hD (fun o e => sb.extBut d o hdi e) fun x hx => isK (hG x hx) fun o e => kp1 _ o e
    obtain ⟨oT, eoT, cT, nT, dT⟩ := hT;have hTs : (⟨h1, g, dr, tk, os⟩ : Shared).TypeIs (.ref T) "tuple" := ⟨oT, kp1 _ _ eoT, cT⟩
    show wpAny _ A.in1 (holding [Value.ref T] _ >>= _) _ _ _
    refine wpAny_bind (wpAny_holding ?_);refine wpAny_bind (wpAny_tryCatch ?_);unfold Builtin.Dict.pairItems;refine wpAny_bind (wpAny_typeOf hTs ?_);rw [if_pos (by decide)];refine wpAny_bind (wpAny_seqItems (s := ⟨h1, g, dr, tk, os⟩) (kp1 _ _ eoT) dT ?_);refine wpAny_pure ?_
    show wpAny _ A.in1 (holding [Value.ref ps[i].2.1, ps[i].2.2] (dictSet d (Value.ref ps[i].2.1) ps[i].2.2)) _ _ _
    refine wpAny_holding ?_;refine wpAny_dictSet_heap (s := ⟨h1, g, dr, tk, os⟩) hu (isK hK fun o e => kp1 _ o e) hD1 (fun h2 hD2 sb2 => ?_) (Zd (ce ps i hi') (by omega))
    replace sb2 : Heap.SameBut d h1 h2 := sb2
    have kp2 : ∀ c o, hB.get? c = some o -> h2.get? c = some o := fun c o e => sb2.extBut c o (Zs (Zh (ltB e) hd)) (kp1 c o e)
    rw [<- md ep] at hD2;refine wpAny_pure ⟨plainId_quiet px _, ?_⟩
    have := ih (i + 1) h2 (tk + (tupleKind knd).draws ps[i].1) (by omega) hlt kp2 (hit1.extBut sb2.extBut (Ne.symm hdi)) hD2 (by
      rw [md ep]
      exact ck (G := fun k b => (tupleKind knd).is hB k b) hG hK)
    exact this
theorem jr {A : Around} {E : Value -> Shared -> Prop} {s : Shared} {l : Addr} {o : Obj} {items : Array Value} {n : Nat} {ps : List (List K × Addr × Value)} {Q : Value -> Shared -> Prop} (hA : A.handled = none) (hu : A.units + 8 < cLine) (ho : s.heap.get? l = some o) (hc : o.cls = .type "list") (hdat : o.data = .seq items n) (hdn : o.dict = none) (hP : j5 knd s.heap items ps) (hz : ps.length <= sizeLine)
    (h : ∀ h' tk, (∀ c o, s.heap.get? c = some o -> h'.get? c = some o) -> h'.DictOfH (tupleKind knd) s.heap.objs.size (accH ps ps.length) -> Q (.ref s.heap.objs.size) { s with heap := h', toks := tk }) :
    wpAny (model prog w) A (call (.type "dict") [.ref l]) Q E s := by
  refine callType_codes (Q₁ := fun obj s₁ => obj = .ref s.heap.objs.size /\ s₁ = { s with heap := s.heap.push { cls := .type "dict", data := .dict #[] } }) F.kt_called_dict (F.kt_typeCall_dict_1 _) F.entry_dict_init (kt_code_dict_new _ ⟨rfl, rfl⟩) ?_
  rintro obj s₁ ⟨rfl, rfl⟩
  have hnew : (s.heap.push { cls := .type "dict", data := .dict #[] }).DictOfH (tupleKind knd) s.heap.objs.size [] := Heap.DictOfH.new s.heap;have ho' : (s.heap.push { cls := .type "dict", data := .dict #[] }).get? l = some o := Heap.get?_push_of_some _ ho;refine ⟨⟨_, Heap.get?_push_size _ rfl, rfl⟩, F.args_dict_init_2 _ _, ?_⟩;unfold Builtin.«dict.__init__»;refine wpAny_bind ?_;unfold Builtin.Dict.selfAndRest;refine wpAny_bind (wpAny_notOrdered_dict ⟨_, Heap.get?_push_size _ rfl, rfl⟩ ?_)
  show wpAny _ _ (pure (s.heap.objs.size, [Value.ref l])) _ _ _
  refine wpAny_pure ?_
  show wpAny _ _ (Builtin.Dict.updateFrom "dict.__init__" s.heap.objs.size (.ref l) [] .none) _ _ _
  unfold Builtin.Dict.updateFrom;refine wpAny_bind (wpAny_typeOf ⟨_, ho', hc⟩ ?_);rw [if_pos (by decide)];refine wpAny_bind (nz ho' hc hdat hdn hA fun h1 tk1 k1 => ?_);rw [if_pos (by decide)];refine wpAny_bind (wpAny_rule ?_);have hl1 : h1.IsList l items := ⟨o, k1 _ _ ho', hc, n, hdat⟩;have hd1 : h1.get? s.heap.objs.size = some { cls := .type "dict", data := .dict #[] } := k1 _ _ (Heap.get?_push_size _ rfl);have hlt : s.heap.objs.size < h1.objs.size := Heap.lt_size hd1;refine wpAny_bind (wpAny_pyIter_list (s := ⟨h1, s.gens, s.drawn, tk1, s.os⟩) hl1 (wpAny_pure ⟨plainId_quiet px _, ?_⟩));have kp : ∀ c o, s.heap.get? c = some o -> (h1.push { cls := .type "list_iterator", data := .fields #[.ref l, .int 0 0] }).get? c = some o := fun c o e => Heap.get?_push_of_some _ (k1 _ _ (Heap.get?_push_of_some _ e))
  refine zbs (knd := knd) (A := A.in1) (hB := s.heap) (g := s.gens) (dr := s.drawn) (os := s.os) (l := l) (items := items) (ps := ps) hA (tupleKind_room_in1 (A := A.in1) (by show A.units + 1 + 1 < cLine; omega)) ⟨o, ho, hc, n, hdat⟩ hP (Zm _) (YF hlt) (Zs hlt) hz
    (fun h' tk kp' hD => ⟨rfl, h h' tk kp' hD⟩) ps.length 0 _ tk1 (by omega) (ZE _) kp ⟨_, Heap.get?_push_size _ rfl, rfl, rfl⟩ (nh hnew (fun o e => Heap.get?_push_of_some _ (k1 _ _ e)) fun x hx => by cases hx) (fun x hx => by cases hx)
end
end L2
namespace L2
open PySem PySem.Spec PyProof.Rows
def q8 (kvs : List (List Key × V)) : List (List Key × V) := kvs.foldl (fun acc kv => putK acc kv.1 kv.2) []
structure ur (H : Hp) (Ts : List Addr) (kvs : List (List Key × V)) : Prop where
  len : Ts.length = kvs.length
  at' : ∀ (i : Nat) (T : Addr) (kv : List Key × V), Ts[i]? = some T -> kvs[i]? = some kv -> ∃ b, H T = some (.tup [.ref b, kv.2]) /\ H b = some (.tup (kv.1.map kV))
def zb0 (xs : List V) (H : Hp) (Q : VK) : Prop := ∃ (l : Addr) (Ts : List Addr) (kvs : List (List Key × V)), xs = [.ref l] /\ H l = some (.lst (Ts.map V.ref)) /\ ur H Ts kvs /\ ∀ p, H p = none -> Q (.ref p) (upd H p (.dT (q8 kvs)))
theorem ze4 {xs : List V} {H : Hp} {Q : VK} : zb0 xs H Q = ∃ (l : Addr) (Ts : List Addr) (kvs : List (List Key × V)), xs = [.ref l] /\ H l = some (.lst (Ts.map V.ref)) /\ ur H Ts kvs /\ ∀ p, H p = none -> Q (.ref p) (upd H p (.dT (q8 kvs))) := rfl
section
variable {X : Cx} {pins : List (Addr × Obj)} {σ : St} {H : Hp} {s : Shared}
theorem d3 (I : Inv X pins σ H s) : ∀ {Ts : List Addr} {kvs : List (List Key × V)} {us : List Value}, ur H Ts kvs -> Vals (Ts.map V.ref) us -> ∃ ps : List (List Key × Addr × Value), j5 (ua X.prog X.w) s.heap us.toArray ps /\ KT H kvs ps
  | [], [], us, q, r => by
    cases r;exact ⟨[], ⟨rfl, fun i p e => by simp at e⟩, .nil⟩
  | T :: Ts, kv :: kvs, us, q, r => by
    rw [ZM] at r
    cases r with
    | @cons _ u _ us r0 r1 =>
      obtain ⟨ps, P, k⟩ := d3 I (Ts := Ts) (kvs := kvs) ⟨by simpa using q.len, fun i T kv e1 e2 => q.at' (i + 1) T kv (by simpa using e1) (by simpa using e2)⟩ r1;obtain ⟨b, hT, hb⟩ := q.at' 0 T kv rfl rfl;obtain ⟨z, its, rr, hI⟩ := (show ObjOk X.prog X.w H s.heap T (.tup [.ref b, kv.2]) from I.hok T _ hT);obtain ⟨u1, u2, rfl, ru1, ru2⟩ := Vals.two rr;obtain rfl : u1 = Value.ref b := ru1;obtain rfl : u = Value.ref T := r0;refine ⟨(kv.1, b, u2) :: ps, ⟨by simp [<- P.len], fun i p e => ?_⟩, .cons ⟨rfl, hb, ru2⟩ k⟩
      cases i with
      | zero =>
        simp at e;subst e;obtain ⟨o, e1, c1, n1, d1, _⟩ := hI;exact ⟨T, by simp, ⟨o, e1, c1, n1, d1⟩, key_of I.hok hb⟩
      | succ i =>
        obtain ⟨T', a1, a2, a3⟩ := P.at' i p (by simpa using e);exact ⟨T', by simpa using a1, a2, a3⟩
  | [], kv :: kvs, us, q, r => by simpa using q.len
  | T :: Ts, [], us, q, r => by simpa using q.len
theorem kt_acc {kvs : List (List Key × V)} {ps : List (List Key × Addr × Value)} (k : KT H kvs ps) : KT H (q8 kvs) (accH ps ps.length) := by
  have go : ∀ (l : List (List Key × V)) (m : List (List Key × Addr × Value)) (a : List (List Key × V)) (b : List (List Key × Addr × Value)), KT H l m -> KT H a b -> KT H (l.foldl (fun acc kv => putK acc kv.1 kv.2) a) (m.foldl (fun xs p => storedH xs p.1 p.2.1 p.2.2) b) := by
    intro l m a b q
    induction q generalizing a b with
    | nil => intro z; exact z
    | @cons p q ps qs h t ih =>
      intro z;obtain ⟨h1, h2, h3⟩ := h;refine ih _ _ ?_
      show KT H (putK a p.1 p.2) (storedH b q.1 q.2.1 q.2.2)
      rw [<- h1];exact z.put p.1 h2 h3
  unfold accH;rw [Zt];exact go _ _ _ _ k .nil
theorem aw (kvs : List (List Key × V)) : (q8 kvs).length <= kvs.length := by
  have go : ∀ (l a : List (List Key × V)), (l.foldl (fun acc kv => putK acc kv.1 kv.2) a).length <= a.length + l.length := by
    intro l
    induction l with
    | nil => intro a; exact Zm _
    | cons p l ih =>
      intro a;have h1 := ih (putK a p.1 p.2);have h2 := cj a p.1 p.2;simp only [YL, ZQ];omega
  have := go kvs []
  simpa [q8] using this
theorem zcd {kvs : List (List Key × V)} (h : (kvs.map (·.1)).Nodup) : q8 kvs = kvs := by
  have go : ∀ (l a : List (List Key × V)), ((a ++ l).map (·.1)).Nodup -> l.foldl (fun acc kv => putK acc kv.1 kv.2) a = a ++ l := by
    intro l
    induction l with
    | nil => intro a _; simp
    | cons p l ih =>
      intro a hn
      have hno : valV a p.1 = none := by
        cases e : valV a p.1 with
        | none => rfl
        | some v =>
          exfalso
          have hm := zd3 e;rw [Zn, Yn] at hn;exact hn.2.2 _ hm _ (by simp) rfl
      rw [YL, zc4 _ hno, ih _ (by simpa using hn)];simp
  exact go kvs [] (by simpa using h)
theorem jx (hc : X.calm = true) (hu : X.A.units + 8 < cLine) : CallR X (.type "dict") zb0 := by
  intro pins s σ H xs us Q I r h;obtain ⟨l, Ts, kvs, rfl, hl, hP, q⟩ := h;obtain ⟨u, rfl, ru⟩ := pz r;obtain rfl : u = Value.ref l := ru;obtain ⟨its, rv, pl, hz⟩ := I.list (SqL.of hl);obtain ⟨ps, P, k⟩ := d3 I hP rv;obtain ⟨o, n, e, c, d, dat⟩ := id pl;have hps : ps.length = kvs.length := (Paired.length k).symm;have hkl : kvs.length <= sizeLine := by rw [Za, hP.len] at hz; exact hz
  refine jr (knd := ua X.prog X.w) (I.ok.hd hc) hu e c dat d P (by omega) fun h' tk kp hD => ?_
  have hn : H s.heap.objs.size = none := I.hok.fresh (Zm _);refine ⟨.ref s.heap.objs.size, upd H s.heap.objs.size (.dT (q8 kvs)), I.laid (t' := tk) (fun b u e => kp b u e) (Zm _) ?_, rfl, q _ hn⟩;obtain ⟨ob, es, ep, g1, g2, g3, g4, _, g6⟩ := hD;have hb := I.big;refine ⟨Zd (aw kvs) hkl, ?_, accH ps ps.length, (kt_acc k).keeps fun b ys e => ?_, ob, es, ep, g1, g2, g3, g4, g6⟩
  . exact beq_eq_false_iff_ne.mpr (ZT hb)
  . rw [zp (fun z => by rw [z, hn] at e; cases e)]
    exact e
end
end L2
namespace L2
open PySem
theorem hu11 {A : Around} {k : Nat} (hr : Room k A) : A.units + 8 < cLine := by have := hu9 hr; omega
end L2
namespace L2
open PySem PySem.Spec PyProof.Rows
section
variable {X : Cx} {pins : List (Addr × Obj)} {σ : St} {H : Hp} {k : Nat} {f : Addr} {fd : FuncData} {ps : List Str} {sp : Sp}
def tMaxK (K : Fg) (sp : Sp) (ta : TA) : TE := fun σ H Q => ta σ H fun vs H1 => ∃ (l : Addr) (xs : List V) (kf : Nat -> Int), vs = [.ref l] /\ SqL K H1 l xs /\ 0 < xs.length /\
  (∀ i x, xs[i]? = some x -> sp [x] H1 (fun v H' => v = .int (kf i) /\ H' = H1) E0) /\ ∀ i x, xs[i]? = some x -> (∀ j, j < xs.length -> kf j <= kf i /\ (j < i -> kf j < kf i)) -> Q x H1
theorem e_maxK {K : Fg} {ta : TA} {Q : VK} : tMaxK K sp ta σ H Q = ta σ H fun vs H1 => ∃ (l : Addr) (xs : List V) (kf : Nat -> Int), vs = [.ref l] /\ SqL K H1 l xs /\ 0 < xs.length /\
  (∀ i x, xs[i]? = some x -> sp [x] H1 (fun v H' => v = .int (kf i) /\ H' = H1) E0) /\ ∀ i x, xs[i]? = some x -> (∀ j, j < xs.length -> kf j <= kf i /\ (j < i -> kf j < kf i)) -> Q x H1 := rfl
end
end L2
namespace L2
open PySem PySem.Spec PyProof.Rows
section
variable {X : Cx}
def rDictK (xs : List V) (H : Hp) (Q : VK) : Prop := ∃ (a : Addr) (kvs : List (Key × V)), xs = [.ref a] /\ H a = some (.dK kvs) /\ ∀ p, H p = none -> Q (.ref p) (upd H p (.dK kvs))
theorem zes {xs : List V} {H : Hp} {Q : VK} : rDictK xs H Q = ∃ (a : Addr) (kvs : List (Key × V)), xs = [.ref a] /\ H a = some (.dK kvs) /\ ∀ p, H p = none -> Q (.ref p) (upd H p (.dK kvs)) := rfl
def rEqK (x y : V) (H : Hp) (Q : VK) : Prop := ∃ (a b : Addr) (kvs : List (Key × V)), x = .ref a /\ y = .ref b /\ H a = some (.dK kvs) /\ H b = some (.dK kvs) /\ (∀ kv ∈ kvs, yx kv.2 = true) /\ Q (.bl true) H
theorem e_eqK {x y : V} {H : Hp} {Q : VK} : rEqK x y H Q = ∃ (a b : Addr) (kvs : List (Key × V)), x = .ref a /\ y = .ref b /\ H a = some (.dK kvs) /\ H b = some (.dK kvs) /\ (∀ kv ∈ kvs, yx kv.2 = true) /\ Q (.bl true) H := rfl
end
end L2
namespace L2
open PySem PySem.Spec PyProof.Rows
section
variable {X : Cx}
def ze1 (K : Fg) : V -> List V -> Hp -> VK -> Prop := fun x vs H Q => ∃ p xs y, x = .ref p /\ vs = [y] /\ SqT K H p xs /\ yx y = true /\ xs.all yx = true /\ Q (.int ((xs.countP fun z => eqV z y : Nat) : Int)) H
theorem zcp {K : Fg} {x : V} {vs : List V} {H : Hp} {Q : VK} : ze1 K x vs H Q = ∃ p xs y, x = .ref p /\ vs = [y] /\ SqT K H p xs /\ yx y = true /\ xs.all yx = true /\ Q (.int ((xs.countP fun z => eqV z y : Nat) : Int)) H := rfl
end
end L2
namespace L2
open PySem PySem.Spec PyProof.Rows
section
variable {X : Cx} {pins : List (Addr × Obj)} {σ : St} {H2 : Hp} {s₂ : Shared} {scope : Scope} {ts N2 : List Str} {cl : List (Str × Addr)} {C D : Addr} {fp : List Addr}
end
end L2
namespace L2
open PySem PySem.Spec PyProof.Rows
theorem e_dg1 {td ty : TE} {σ : St} {H : Hp} {Q : VK} : tDGet1 td ty σ H Q = td σ H fun x H1 => ∃ a, x = .ref a /\ IsD H1 a /\ ty σ H1 fun y H2 => ∃ o, DGet H2 a y o /\ Q (o.getD .non) H2 := rfl
theorem e_dg2 {td ty tx : TE} {σ : St} {H : Hp} {Q : VK} : tDGet2 td ty tx σ H Q = td σ H fun x H1 => ∃ a, x = .ref a /\ IsD H1 a /\ ty σ H1 fun y H2 => tx σ H2 fun z H3 => ∃ o, DGet H3 a y o /\ Q (o.getD z) H3 := rfl
end L2
namespace L2
open PySem PySem.Spec PyProof.Rows
section
variable {X : Cx}
def rNeI (K : Fg) (x y : V) (H : Hp) (Q : VK) : Prop := ∃ a b xs, x = .ref a /\ y = .ref b /\ SqL K H a xs /\ SqL K H b xs /\ (∀ v ∈ xs, ∃ t, v = V.ref t) /\ Q (.bl false) H
theorem e_neI {K : Fg} {x y : V} {H : Hp} {Q : VK} : rNeI K x y H Q = ∃ a b xs, x = .ref a /\ y = .ref b /\ SqL K H a xs /\ SqL K H b xs /\ (∀ v ∈ xs, ∃ t, v = V.ref t) /\ Q (.bl false) H := rfl
end
end L2
namespace L2
open PySem PySem.Spec PyProof.Rows
section
variable {M : Model} {A : Around} {E : Value -> Shared -> Prop} {s : Shared}
theorem jw {x : Value} {e1 e2 : Env} (h : e1.frame = e2.frame) : noteFrame x e1 = noteFrame x e2 := by unfold noteFrame PySem.frameOf; rw [h]
theorem im {base : Heap} {l : List Env} {e : Addr} {cls a0 fl : Value} (fr : Option Addr) {Q : Unit -> Shared -> Prop}
    (hkb : base.StaysIn s.heap) (hl : s.heap.FunFrames base l) (ht : s.heap.TracedAtW base e cls a0 fl)
    (h : ∀ h', base.StaysIn h' -> h'.FunFrames base l -> h'.TracedAtW base e cls a0 (fr.elim Value.none fun f => rawInt f) -> (∀ b o, s.heap.get? b = some o -> (∀ vs, o.data ≠ .fields vs) -> h'.get? b = some o) -> Q () { s with heap := h' }) :
    wpAny M A (setFlight (.ref e) fr) Q E s := by
  obtain ⟨oe, vs, T, oT, ts, he, hcls, hd, h1, hnT, hTe, hT, hdT, h3⟩ := ht;have hsz3 : 3 < ts.size := (ZW.mp h3).1
  have other : ∀ b, b ≠ T -> (s.heap.update T (Obj.mapFields (·.setIfInBounds 3 (fr.elim Value.none fun f => rawInt f)))).get? b = s.heap.get? b :=
    fun b hb => Heap.get?_update_other _ _ (Ne.symm hb)
  have noRecord : ∀ b o, s.heap.get? b = some o -> (∀ vs, o.data ≠ .fields vs) -> b ≠ T := fun b o hb hnf q => by
    rw [q, hT] at hb; injection hb with hb; subst hb; exact hnf ts hdT
  unfold setFlight;refine wpAny_bind (wpAny_field he hd h1 ?_);rw [if_pos (show (Value.ref T != Value.none) = true from by simp)]
  refine wpAny_setField hT hdT hsz3 (h _ (fun b o hbo => (other b fun q => by rw [q, hnT] at hbo; cases hbo).trans (hkb b o hbo))
    (hl.of_keeps fun b o hb hnf => ⟨o, (other b (noRecord b o hb hnf)).trans hb, rfl⟩) ?_ fun b o hb hnf => (other b (noRecord b o hb hnf)).trans hb)
  exact ⟨oe, vs, T, _, _, (other e (Ne.symm hTe)).trans he, hcls, hd, h1, hnT, hTe, Heap.get?_update_self _ hT (Obj.isFreed_of_fields (Obj.data_mapFields hdT _)), Obj.data_mapFields hdT _, by simp [hsz3]⟩
theorem d7 {base : Heap} {env : Env} {outer : List Env} {L e : Addr} {cls a0 fl : Value} {Q : Unit -> Shared -> Prop}
    (hfr : A.frames = some (env :: outer)) (hf : env.frame = some L) (hkb : base.StaysIn s.heap) (hen : base.get? e = none) (hl : s.heap.FunFrames base (env :: outer)) (ht : s.heap.TracedAtW base e cls a0 fl)
    (hQ : ∀ h', Heap.FlyingW base outer e cls a0 h' -> s.heap.UpToSlots h' -> Q () { s with heap := h' }) : wpAny M A (leaving env (.ref e)) Q E s := by
  by_cases hfl : fl = rawInt L
  . subst hfl
    unfold leaving;refine wpAny_bind (wpAny_noteFrame_againW hf ht ?_);refine wpAny_landsW (l := env :: outer) ⟨hkb, hen, hl, ht⟩ fun h' hfl ups => ?_
    obtain ⟨k1, k2, ⟨_, _, k3⟩, k4⟩ := hfl;exact hQ h' ⟨k1, k2, k3, k4⟩ ups
  . obtain ⟨oe, vs, T, oT, ts, he, ⟨hcls, h0⟩, hd, h1, hnT, hTe, hT, hdT, h3⟩ := ht
    subst hcls;unfold leaving noteFrame;simp only [hf];refine wpAny_bind (wpAny_bind (wpAny_field he hd h1 ?_));rw [if_pos (show (Value.ref T != Value.none) = true from by simp)];refine wpAny_bind (wpAny_field hT hdT h3 ?_);rw [if_neg (show ¬ ((fl == rawInt L) = true) from fun z => hfl (eq_of_beq z))];refine wpAny_bind (wpAny_setField hT hdT (ZW.mp h3).1 ?_);have other : ∀ b, b ≠ T -> (s.heap.update T (Obj.mapFields (·.setIfInBounds 3 Value.none))).get? b = s.heap.get? b := fun b hb => Heap.get?_update_other _ _ (Ne.symm hb)
    have noRecord : ∀ b o, s.heap.get? b = some o -> (∀ vs, o.data ≠ .fields vs) -> b ≠ T := fun b o hb hnf q => by
      rw [q, hT] at hb; injection hb with hb; subst hb; exact hnf ts hdT
    refine wpAny_newEntryW hfr (hl.of_keeps fun b o hb hnf => ⟨o, (other b (noRecord b o hb hnf)).trans hb, rfl⟩) hf ((other e (Ne.symm hTe)).trans he)
      (fun b o hbo => (other b fun q => by rw [q, hnT] at hbo; cases hbo).trans (hkb b o hbo)) hen hd (ZW.mp h1).1 h0
      fun h' ⟨x1, ⟨_, _, x2⟩, x3, x4⟩ => hQ h' ⟨x1, hen, x2, x3⟩ fun b o hb hnf => x4 b o ((other b (noRecord b o hb hnf)).trans hb) hnf
end
theorem nq {B h h' : Heap} {C : Addr} {oC : Obj} (hB : B.get? C = some oC) (sb : Heap.SameBut C h h') : ∀ {l : List Env}, h.FunFrames B l -> h'.FunFrames B l
  | [], _ => trivial
  | _ :: _, ⟨hk, ⟨L, o, hf, hn, ho, hd⟩, hr⟩ => ⟨hk, ⟨L, o, hf, hn, (sb.2 L (fun z => by rw [z, hB] at hn; cases hn)).trans ho, hd⟩, nq hB sb hr⟩
theorem zbz {fs : List Addr} {H0 H1 : Hp} {h0 h1 h2 B : Heap} (u : Un fs [] H0 H1 h0 h1) (dom2 : ∀ b o, h0.get? b = some o -> b ∉ fs -> ∃ ob, B.get? b = some ob /\ (H0 b = none -> ob = o))
    (bh' : B.StaysIn h2) (sl : ∀ b ∈ fs, ∀ o, h1.get? b = some o -> (∀ vs, o.data ≠ .fields vs) -> ∃ sl, h2.get? b = some { o with slots := sl }) (hfr : ∀ b ∈ fs, ∀ o, h1.get? b = some o -> ∀ vs, o.data ≠ .fields vs) : Un fs [] H0 H1 h0 h2 where
  keep := fun b o e n hb _ => by
    obtain ⟨ob, e1, e2⟩ := dom2 b o e hb;rw [e2 n] at e1;exact bh' b o e1
  slot := fun b o e n hb hx => by
    obtain ⟨s1, e1⟩ := u.slot b o e n hb hx;obtain ⟨s2, e2⟩ := sl b hb _ e1 (hfr b hb _ e1);exact ⟨s2, e2⟩
  free := u.free
  there := fun b o e hx => by
    by_cases hb : b ∈ fs
    . obtain ⟨o1, e1⟩ := u.there b o e hx
      obtain ⟨s2, e2⟩ := sl b hb _ e1 (hfr b hb _ e1);exact ⟨_, e2⟩
    . obtain ⟨ob, e1, _⟩ := dom2 b o e hb
      exact ⟨ob, bh' b ob e1⟩
  tups := u.tups
  frzs := u.frzs
  tbls := u.tbls
section
variable {X : Cx} {pins : List (Addr × Obj)} {σ : St} {H : Hp} {s : Shared}
theorem stk_lt (I : Inv X pins σ H s) {b : Addr} (hb : b ∈ frs X.stack) : b < s.heap.objs.size := by
  obtain ⟨_, o, e, _⟩ := I.stack.mem hb;exact Heap.lt_size e
theorem passC {P : Program} {w : World} {K : Fg} {mg : Str -> Option Value} {base : Heap} {NN : List Str} {qual : Str} {scp : Scope} {f : Addr} {cd : Value} {A : Around} {outer : List Env} {s0 : Shared} {H0 : Hp} {E : XK} {use : Option (Value -> Sem Unit)} {Q : Value -> Shared -> Prop} {acc : Value} {scope : Scope} {cl : List (Str × Addr)} {C : Addr} {m : Str -> Option Value} {e : Value} {s' : Shared}
    (hX : X = cxOf (CX1 P w) P w K mg base NN qual scp f cd A outer s0 H0 E) (I : Inv X pins σ H s) (hn : s.heap.Ns C m) (hf : H C = none) (hC : X.s₀.heap.objs.size <= C) (hL : C ≠ X.env.locals) (hS : ∀ b ∈ frs X.stack, b ≠ C)
    (h : CX1 X.prog X.w X.stack H s (fun c _ H' => E c none H') e s') :
    notedBy (model X.prog X.w) X.A (compEnvC scope cl C X.env) (fun x s1 => compPost (model X.prog X.w) X.A X.xe use Q acc C (.error x) s1) e s' := by
  subst hX;obtain ⟨ea, Ce, a0, B, H', rfl, os, bare, un, hok, fl, hea, dom, dom2, hE1⟩ := h;obtain ⟨oC, esC, epC, hoC, rC⟩ := hn;obtain ⟨ob, hBC, hob⟩ := dom2 C oC hoC (fun z => hS C z rfl);rw [hob hf] at hBC;unfold notedBy;rw [jw (e1 := compEnvC scope cl C (cxOf (CX1 P w) P w K mg base NN qual scp f cd A outer s0 H0 E).env) (e2 := envOfC qual scp s0.heap.objs.size f cd) rfl];refine wpAny_looks_onW I.ok.frames rfl fl fun h1 held ups => ?_
  obtain ⟨g1, g2, g3, g4⟩ := held
  have hk : ∃ m, h1.Ns C m /\ ∀ h', Heap.SameBut C h1 h' -> ∀ cenv : Env, cenv.locals = C -> wpAny (model P w) (A.deeper (envOfC qual scp s0.heap.objs.size f cd)) (PySem.passOn "comprehension.variables-let-go" (.ref ea) cenv : Sem Value) (fun _ _ => False) (cxOf (CX1 P w) P w K mg base NN qual scp f cd A outer s0 H0 E).xe { s' with heap := h' } := by
    refine ⟨m, ⟨oC, esC, epC, g1 C oC hBC, rC⟩, fun h' sb cenv _ => ?_⟩;have kB : (PySem.W.hideAll B [C]).StaysIn B := fun b o q => PySem.W.of_hideAll _ q
    have neB : ∀ b o, (PySem.W.hideAll B [C]).get? b = some o -> b ≠ C := fun b o q z => by
      rw [z, PySem.W.hideAll_none [C] (by simp)] at q; cases q
    have inB : ∀ b o, B.get? b = some o -> b ≠ C -> (PySem.W.hideAll B [C]).get? b = some o := fun b o q n => PySem.W.hideAll_get [C] q (by simpa using n)
    have st' : (PySem.W.hideAll B [C]).StaysIn h' := fun b o q => (sb.2 b (neB b o q)).trans (g1 b o (kB b o q))
    have ff' : h'.FunFrames (PySem.W.hideAll B [C]) (envOfC qual scp s0.heap.objs.size f cd :: outer) := PySem.W.funFrames_base kB (nq hBC sb g3);have he' : (PySem.W.hideAll B [C]).get? ea = none := PySem.W.fresh_of_stays kB g2
    have tr' : h'.TracedAtW (PySem.W.hideAll B [C]) ea (.ref Ce) a0 (rawInt s0.heap.objs.size) := by
      obtain ⟨oe, vs, T, oT, ts, a1, a2, a3, a4, a5, a6, a7, a8, a9⟩ := g4;exact ⟨oe, vs, T, oT, ts, (sb.2 ea (fun z => by rw [z, hBC] at g2; cases g2)).trans a1, a2, a3, a4, PySem.W.fresh_of_stays kB a5, a6, (sb.2 T (fun z => by rw [z, hBC] at a5; cases a5)).trans a7, a8, a9⟩
    unfold PySem.passOn;have tr2 := tr';obtain ⟨oe, vs, T, oT, ts, a1, a2, a3, a4, a5, a6, a7, a8, a9⟩ := tr2;refine wpAny_bind (wpAny_field (s := { s' with heap := h' }) a1 a3 a4 ?_);rw [if_neg (show ¬ ((Value.ref T == Value.none) = true) from by simp)];refine wpAny_bind (im (s := { s' with heap := h' }) (l := envOfC qual scp s0.heap.objs.size f cd :: outer) cenv.frame st' ff' tr' fun h2 b1 b2 b3 b4 => ?_);refine wpAny_throw ?_
    show wpAny _ _ (leaving _ (.ref ea)) _ _ _
    refine d7 (s := { s' with heap := h2 }) I.ok.frames rfl b1 he' b2 b3 fun h3 x1 x2 => ?_
    have hst : s'.heap.FunFrames B (envOfC qual scp s0.heap.objs.size f cd :: outer) := fl.2.2.1;have un0 : Un (frs outer) [] H0 H s0.heap s.heap := I.base
    have sub : ∀ b ∈ frs outer, b ∈ frs (envOfC qual scp s0.heap.objs.size f cd :: outer) := fun b hb => by
      obtain ⟨env, he, hf⟩ := ZO.mp hb;exact ZO.mpr ⟨env, Zv _ he, hf⟩
    have notL : ∀ b o, s0.heap.get? b = some o -> b ∉ frs outer -> b ∉ frs (envOfC qual scp s0.heap.objs.size f cd :: outer) := fun b o q n z => by
      rcases ZK.mp (I.stkSub b z) with y | y
      . have h1 : s0.heap.objs.size <= b := by rw [y]; exact I.ok.above
        exact absurd (Zh (Heap.lt_size q) h1) (ZJ _)
      . exact n y
    have ut := (un0.mono sub (fun _ z => z)).trans un;have un1 : Un (frs outer) [] H0 H' s0.heap s'.heap := ⟨fun b o e n hb hx => ut.keep b o e n (notL b o e hb) hx, fun b o e n hb hx => ut.slot b o e n (sub b hb) hx, ut.free, ut.there, ut.tups, ut.frzs, ut.tbls⟩;have hf' : H' C = none := un.free C oC hoC hf (by simp)
    have dom' : ∀ b o, H' b = some o -> ∃ ob, (PySem.W.hideAll B [C]).get? b = some ob := fun b o q => by
      obtain ⟨ob, e1⟩ := dom b o q;exact ⟨ob, inB b ob e1 (fun z => by rw [z, hf'] at q; cases q)⟩
    have dom2' : ∀ b o, s0.heap.get? b = some o -> b ∉ frs outer -> ∃ ob, (PySem.W.hideAll B [C]).get? b = some ob /\ (H0 b = none -> ob = o) := fun b o q n => by
      obtain ⟨o1, e1⟩ := un0.there b o q (by simp);obtain ⟨ob, k1, k2⟩ := dom2 b o1 e1 (notL b o q n);refine ⟨ob, inB b ob k1 (fun z => ?_), fun z => ?_⟩
      . have h1 : s0.heap.objs.size <= b := by rw [z]; exact hC
        exact absurd (Zh (Heap.lt_size q) h1) (ZJ _)
      . have e2 := un0.keep b o q z n (by simp)
        rw [e1] at e2;cases e2;exact k2 (un0.free b _ q z (by simp))
    have hfr : ∀ b ∈ frs outer, ∀ o, s'.heap.get? b = some o -> ∀ vs, o.data ≠ .fields vs := fun b hb o q => by
      obtain ⟨_, o', e', n'⟩ := hst.mem (b := b) (sub b hb);rw [q] at e'; cases e';exact n'
    have sl : ∀ b ∈ frs outer, ∀ o, s'.heap.get? b = some o -> (∀ vs, o.data ≠ .fields vs) -> ∃ sl, h3.get? b = some { o with slots := sl } := fun b hb o q n => by
      obtain ⟨s1, e1⟩ := ups b o q n;have e2 := (sb.2 b (hS b (sub b hb))).trans e1;have e3 := b4 b _ e2 n;obtain ⟨s3, e4⟩ := x2 b _ e3 n;exact ⟨s3, e4⟩
    exact ⟨ea, Ce, a0, PySem.W.hideAll B [C], H', rfl, os.trans I.os, bare, zbz un1 dom2' x1.1 sl hfr, HOk.flown hok (fun b o q => fl.1 b o (kB b o q)) x1.1 dom', x1, hea, dom', dom2', hE1⟩
  cases use <;> exact hk
end
theorem de {prog : Program} {w : World} {A : Around} {R : Result -> Shared -> Prop} {s : Shared} {elt target iter : Expr} {ifs : List Expr} {scope : Scope} {pos : Pos} {it acc : Value} {env : Env} (I : Nat -> Shared -> Prop)
    (turn : ∀ n s, I n s -> wpAny (model prog w) A (pyNext it) (fun r s₁ => match r with
      | none => R (.ok .next) s₁
      | some v => wpAny (model prog w) A (letOwnedTupleGo target it v) (fun _ s₁' => wpAny (model prog w) A (assign target env v) (fun _ s₂ =>
          wpAny (model prog w) A (forIn ifs true fun c r => if r = true then do let ok <- isTrue c env (eval c env); pure (ForInStep.yield ok) else pure (ForInStep.yield r)) (fun ok s₃ =>
            if ok = true then wpAny (model prog w) A (eval elt env) (fun x s₄ =>
              wpAny (model prog w) A (call (.builtin "list.append") [acc, x]) (fun _ s₅ => ∃ m, m < n /\ I m s₅) (fun _ _ => False) s₄) (notedBy (model prog w) A env fun x s' => R (.error x) s') s₃
            else ∃ m, m < n /\ I m s₃) (fun _ _ => False) s₂) (fun _ _ => False) s₁') (fun _ _ => False) s₁) (fun _ _ => False) s)
    (n : Nat) (h : I n s) :
    codeAny (model prog w) A (.compLoop (.ListComp elt [⟨target, iter, ifs, 0⟩] scope pos) 0 it acc env) R s := by
  refine codeAny_loop rfl I (fun n s hI => ?_) n h
  show wpAny _ A ((compTurn (.ListComp elt [⟨target, iter, ifs, 0⟩] scope pos) 0 it acc env).onRaise (fun x => do noteFrame x env; theTreesLotGoes x)) _ _ s
  refine wpAny_noted ?_;rw [compTurn_list];refine wpAny_bind (wpAny_standAt (wpAny_bind (wpAny_mono (turn n s hI) (fun r s₁ h₁ => ?_) fun _ _ f => f.elim)))
  cases r with
  | none => exact wpAny_pure h₁
  | some v =>
    refine wpAny_bind (wpAny_mono h₁ (fun _ s₁' h₁' => ?_) fun _ _ f => f.elim);refine wpAny_bind (wpAny_mono h₁' (fun _ s₂ h₂ => wpAny_bind (wpAny_mono h₂ (fun ok s₃ h₃ => ?_) fun _ _ f => f.elim)) fun _ _ f => f.elim)
    cases ok with
    | false => exact wpAny_pure ⟨rfl, h₃⟩
    | true =>
      exact wpAny_bind (wpAny_bind (wpAny_mono h₃ (fun x s₄ h₄ => wpAny_bind (wpAny_mono h₄ (fun _ s₅ h₅ => wpAny_pure (wpAny_pure ⟨rfl, h₅⟩)) fun _ _ f => f.elim)) fun _ _ f => f))
section
variable {X : Cx} {pins : List (Addr × Obj)} {σ : St} {H2 : Hp} {s₂ : Shared} {scope : Scope} {ts N2 : List Str} {cl : List (Str × Addr)} {C D : Addr} {fp : List Addr}
theorem zdk (I2 : Inv X pins σ H2 s₂) (f2 : ∀ b ∈ fp, FpOk X pins H2 b) {σ' : St} {H' : Hp} {s' : Shared} {pl : List (Addr × Obj)}
    (J : Inv (zt X scope (ts ++ N2) ⟨cl, C, s₂, H2, fp⟩) pl σ' H' s') : Inv X pins σ H' s' :=
  I2.call' (ch := fp) J.os J.base J.hok J.bare fun b hb => by
    obtain ⟨f0, f1, f3, f4, f5, f6⟩ := f2 b hb;exact ⟨f4, f1, f5, f6⟩
theorem c0 {Ex : Value -> Hp -> Prop} {E : Value -> Shared -> Prop} {tg elt iter : Expr} {ifs : List Expr} {pos : Pos} {it : Addr} {tn : Nat -> Heap -> Prop} {J : It} {g : Dyn -> TG} {tt : Dyn -> TT} {te : Dyn -> TE} {RR : Value -> Addr -> Result -> Shared -> Prop} {Fin : List V -> Hp -> Prop}
    (I2 : Inv X pins σ H2 s₂) (hc : X.calm = true) (T : Turn X.prog X.w X.K tg J fp it tn) (st : tn 0 s₂.heap) (f2 : ∀ b ∈ fp, FpOk X pins H2 b) (hkind : scope.kind = .function) (hown : rz scope.names = true) (hfree : rg scope.names X.env = true) (hout : vg scope.names N2 X.N = true)
    (hcl1 : ∀ x c, cl.lookup x = some c -> X.env.cells.lookup x = some c) (hcl2 : ∀ y ∈ scope.names, y.2 = .free -> ∃ c, cl.lookup y.1 = some c)
    (hg : ∀ d, PG (zt X scope (ts ++ N2) d) tg (g d)) (ht : ∀ d, PTs (zt X scope (ts ++ N2) d) ifs (tt d)) (he : ∀ d pn, PE (oz (zt X scope (ts ++ N2) d) pn fun _ c H' => Ex c H') elt (te d))
    (hW : ∀ d, sm J σ ts.length (g d) (tt d) (te d) H2 Fin)
    (hRR : ∀ D C s' H' ys, s₂.heap.objs.size <= C -> C ≠ D -> Inv X pins σ (upd H' D (.lst ys)) s' -> H' D = none -> H' C = none -> (∃ m, s'.heap.Ns C m) -> ys.length <= sizeLine -> Fin ys H' -> RR (.ref D) C (.ok .next) s')
    (hRE : ∀ acc C H' s' e s'' m, s₂.heap.objs.size <= C -> Inv X pins σ H' s' -> s'.heap.Ns C m -> H' C = none -> CX1 X.prog X.w X.stack H' s' (fun c _ H'' => Ex c H'') e s'' -> notedBy (model X.prog X.w) X.A (compEnvC scope cl C X.env) (fun x s1 => RR acc C (.error x) s1) e s'') :
    wpAny (model X.prog X.w) X.A (newList []) (fun acc s₃ => wpAny (model X.prog X.w) X.A (newFunctionEnv scope X.env.globals cl [] X.env.qual none .none (some X.env)) (fun cenv s₄ =>
      codeAny (model X.prog X.w) X.A (.compStart (.ListComp elt [⟨tg, iter, ifs, 0⟩] scope pos) 0 (.ref it) acc { cenv with scope := relabel scope X.env }) (RR acc cenv.locals) s₄) E s₃) E s₂ := by
  refine wpAny_newObj_type (wpAny_newFunctionEnv (nj hown) (by intro y hy; simp at hy) (fun h₁ hns₁ hsb₁ => ?_) hkind);dsimp only at hns₁ hsb₁ ⊢;generalize hH2 : s₂.heap.push { cls := .type "list", dict := none, data := .seq ([] : List Value).toArray } = HP at hns₁ hsb₁ ⊢;have hC : HP.objs.size = s₂.heap.objs.size + 1 := by rw [<- hH2, Heap.size_push]
  have hDC : s₂.heap.objs.size ≠ HP.objs.size := by rw [hC]; exact Zs (Yp _)
  have hCle : s₂.heap.objs.size <= HP.objs.size := by rw [hC]; exact YA _
  have below : ∀ b, b < s₂.heap.objs.size -> b ≠ HP.objs.size /\ b ≠ s₂.heap.objs.size := fun b hb => ⟨by rw [hC]; exact Zs (Ym hb), Zs hb⟩
  have old : ∀ b o, s₂.heap.get? b = some o -> h₁.get? b = some o := fun b o e => hsb₁.extBut b o (below b (Heap.lt_size e)).1 (Heap.get?_push_of_some _ (hH2 ▸ Heap.get?_push_of_some _ e))
  have hacc : h₁.get? s₂.heap.objs.size = some (lobj []) := hsb₁.extBut _ _ hDC (Heap.get?_push_of_some _ (hH2 ▸ Heap.get?_push_size _ rfl))
  have flt : ∀ b ∈ fp, b < s₂.heap.objs.size := fun b hb => by
    obtain ⟨o, e, _⟩ := T.obj _ _ st b hb;exact Heap.lt_size e
  generalize hDD : s₂.heap.objs.size = D at *;generalize hCC : HP.objs.size = C at *;have hDle : s₂.heap.objs.size <= D := YG hDD;have I4 := fun (tk : Nat) => j3 (ts := ts) (D := D) (C := C) (tk := tk) I2 hc (fun b hb => ⟨f2 b hb, by rw [hDD]; exact flt b hb⟩) hkind hown hfree hout hcl1 hcl2 (by rw [hDD]; exact hCle) hDC hDle hns₁ old hacc
  generalize hd : (⟨cl, C, s₂, H2, fp⟩ : Dyn) = d at *;obtain ⟨W, ⟨m0, w0⟩, turn⟩ := hW d
  have Xs : ∀ {pl : List (Addr × Obj)} {H' : Hp}, (∀ b ∈ fp, H' b = none) -> (∀ p ∈ pl, p.1 = D) -> ∀ b ∈ fp, FpOk (zt X scope (ts ++ N2) d) pl H' b := fun {pl H'} hn hp b hb => by
    subst hd;obtain ⟨f0, f1, f3, f4, f5, f6⟩ := f2 b hb;refine ⟨hn b hb, (below b (flt b hb)).1, fun z => ?_, .inl hb, fun x c e => f5 x c (hcl1 x c e), fun p hp' => ?_⟩
    . rcases ZK.mp (I2.stkSub b z) with z | z
      . exact f1 z
      . exact f3 z
    . rw [hp p (by simpa using hp')]
      exact Ne.symm (below b (flt b hb)).2
  have loop : ∀ s₃ : Shared, s₃ = { s₂ with heap := h₁, toks := s₂.toks + ([] : List (Str × Value)).length } ->
      codeAny (model X.prog X.w) X.A (.compLoop (.ListComp elt [⟨tg, iter, ifs, 0⟩] scope pos) 0 (.ref it) (.ref D) (compEnvC scope cl C X.env)) (RR (.ref D) C) s₃ := by
    rintro s₃ rfl
    refine de (fun n s' => ∃ i ys H' its, Inv (zt X scope (ts ++ N2) d) [(D, lobj its)] (List.replicate ts.length none ++ σ) H' s' /\ tn i s'.heap /\ (∀ b ∈ fp, H' b = none) /\ Vals ys its /\ W i n ys H') ?_ m0
      ⟨0, [], H2, [], I4 _, T.keep _ _ _ st fun b _ o e => old b o e, fun b hb => (f2 b hb).1, .nil, w0⟩
    rintro n s3 ⟨i, ys, H3, its, I3, st3, fr3, hv3, w3⟩
    obtain ⟨hlen, tr⟩ := turn i n ys H3 w3
    have one : ∀ p ∈ [(D, lobj its)], p.1 = D := fun p hp => by
      have e : p = (D, lobj its) := by simpa using hp
      rw [e]
    have eenv : (zt X scope (ts ++ N2) d).env = compEnvC scope cl C X.env := by subst hd; rfl
    rcases tr with ⟨stop, fin⟩ | ⟨go, N, hN, step⟩
    . refine thn (T.done (zt X scope (ts ++ N2) d) rfl rfl rfl rfl i _ s3 _ H3 (fun _ _ => False) I3 (Xs fr3 one) st3 stop) fun r s4 ⟨hr, J4⟩ => ?_
      subst hr
      show RR (.ref D) C (.ok .next) s4
      obtain ⟨pe, pn, _⟩ := J4.pin (D, lobj its) (by simp);have fC : H3 C = none := by have := J4.free; rw [eenv] at this; exact this
      have nC : ∃ m, s4.heap.Ns C m := by
        obtain ⟨m, z, _⟩ := J4.loc;rw [eenv] at z;exact ⟨m, z⟩
      subst hd;exact hRR D C s4 H3 ys hCle (Ne.symm hDC) (dy I2 f2 hDle J4 pe pn hv3 hlen) pn fC nC hlen fin
    . refine thn (T.item (zt X scope (ts ++ N2) d) rfl rfl rfl rfl i _ s3 _ H3 (fun _ _ => False) I3 (Xs fr3 one) st3 go) fun r s4 ⟨u, hr, h4⟩ => ?_
      subst hr;refine thn h4 fun _ s5 ⟨x, H5, I5, r5, y5, st5, fr5⟩ => ?_
      have I5' := I5.pinned (Xs fr5 one) (T.obj _ _ st5);rw [<- eenv];refine thn (hg d _ s5 _ H5 x u _ I5' r5 (step x H5 y5)) fun _ s6 ⟨σ6, H6, I6, hdrop, q6⟩ => ?_
      have back : ∀ {ys' : List V} {its' : List Value} {H' : Hp} {s' : Shared} {pl : List (Addr × Obj)}, Inv (zt X scope (ts ++ N2) d) ([(D, lobj its')] ++ pl) σ6 H' s' -> Inv (zt X scope (ts ++ N2) d) [(D, lobj its')] (List.replicate ts.length none ++ σ) H' s' := fun {ys' its' H' s' pl} I' => by
        have hl : σ6.length = (ts ++ N2).length := I'.len;refine (I'.pins_of (pins' := [(D, lobj its')]) fun p hp => I'.pin p (Zu _ (ZX _ hp))).weak ?_ ?_
        . rw [hl]; exact I3.len
        . intro j v e
          by_cases hj : j < ts.length
          . rw [Zg (by simpa using hj), Yb] at e
            split at e <;> cases e
          . have hj' : ts.length <= j := ZD.mp hj
            rw [Zf (by simpa using hj'), ZI, <- hdrop, YB] at e;rw [show ts.length + (j - ts.length) = j by omega] at e;exact e
      refine thn (ht d _ s6 σ6 H6 _ I6 q6) fun b s7 ⟨H7, I7, q7⟩ => ?_
      have pinsOf : ∀ {its' : List Value} {H' : Hp} {s' : Shared}, Inv (zt X scope (ts ++ N2) d) ([(D, lobj its')] ++ oh fp s5.heap) σ6 H' s' -> (∀ b ∈ fp, ∀ o, s5.heap.get? b = some o -> s'.heap.get? b = some o) /\ ∀ b ∈ fp, H' b = none := fun {its' H' s'} I' => by
        refine ⟨fun b hb o e => (I'.pin (b, o) (Zu _ (Zu _ (v0 hb e)))).1, fun b hb => ?_⟩;obtain ⟨o, e, _⟩ := T.obj _ _ st5 b hb;exact (I'.pin (b, o) (Zu _ (Zu _ (v0 hb e)))).2.1
      cases b with
      | false =>
        have q7' : N ys H7 := by simpa using q7
        obtain ⟨m', hm, w7⟩ := hN _ _ q7';obtain ⟨k1, k2⟩ := pinsOf I7
        show ∃ m, m < n /\ _
        exact ⟨m', hm, i + 1, ys, H7, its, back (ys' := ys) I7, T.keep _ _ _ st5 k1, k2, hv3, w7⟩
      | true =>
        have q7' : te d σ6 H7 fun v H4 => N (ys ++ [v]) H4 := by simpa using q7
        show wpAny _ _ _ _ _ _
        refine wpAny_mono (he d _ _ s7 σ6 H7 _ (I7.intry fun _ c H' => Ex c H') q7') (fun y s8 ⟨v, H8, I8', r8, n8⟩ => ?_) (fun e s8 hx9 => by
          obtain ⟨pl9, σ9, H9, s9, J9, cx9⟩ := hx9;have K9 := Inv.outtry (X := zt X scope (ts ++ N2) d) J9;obtain ⟨m9, n9, _⟩ := id K9.loc;rw [eenv] at n9;have f9 := K9.free;rw [eenv] at f9
          have I9 : Inv X pins σ H9 s9 := by
            subst hd;exact zdk I2 f2 K9
          rw [eenv]
          exact hRE (.ref D) C H9 s9 e s8 m9 hCle I9 n9 f9 cx9)
        have I8 := Inv.outtry (X := zt X scope (ts ++ N2) d) I8';obtain ⟨m', hm, w8⟩ := hN _ _ n8;obtain ⟨k1, k2⟩ := pinsOf I8;obtain ⟨pe, pn, pC, pf, pd⟩ := I8.pin (D, lobj its) (by simp);have hsz : its.toArray.size <= sizeLine := by rw [Zr, <- hv3.length]; exact hlen
        refine append_at (hsz := hsz) pe fun h9 sb9 e9 => ?_
        have J8 : Inv (zt X scope (ts ++ N2) d) [] σ6 H8 s8 := I8.pins_of fun p hp => nomatch hp
        have hDs : (zt X scope (ts ++ N2) d).s₀.heap.objs.size <= D := by subst hd; exact hDle
        have J9 : Inv (zt X scope (ts ++ N2) d) [] σ6 H8 { s8 with heap := h9 } := J8.turned (t' := s8.toks) (it := D) (fun b o hb e => sb9.extBut b o hb e) pn pC (.inr hDs)
          (fun x c e => by
            obtain ⟨v', z⟩ := I3.cell x c e;subst hd;obtain ⟨v2, z2⟩ := I2.cell x c (hcl1 x c e)
            exact Zs (Zh z2.lt hDle)) (fun p hp => nomatch hp)
        have e9' : h9.get? D = some (lobj (its ++ [y])) := by
          rw [e9]
          show some ({ cls := .type "list", data := .seq (its.toArray.push y) (its.length + 1) } : Obj) = some { cls := .type "list", data := .seq (its ++ [y]).toArray (its ++ [y]).length }
          rw [Zo, Yh, List.push_toArray]
        have J9' : Inv (zt X scope (ts ++ N2) d) ([(D, lobj (its ++ [y]))] ++ []) σ6 H8 { s8 with heap := h9 } := J9.pins_of fun p hp => by
          have e : p = (D, lobj (its ++ [y])) := by simpa using hp
          subst e;exact ⟨e9', pn, pC, pf, fun v z => by cases z⟩
        refine ⟨m', hm, i + 1, ys ++ [v], H8, its ++ [y], back (ys' := ys) J9', ?_, k2, hv3.append (.cons r8 .nil), w8⟩;exact T.keep _ _ _ st5 fun b hb o e => sb9.extBut b o (below b (flt b hb)).2 (k1 b hb o e)
  exact codeAny_compStart_list (loop _ rfl) (T.self _ 0 _ _ _ (T.keep _ _ _ st fun b _ o e => old b o e) (loop _ rfl))
end
theorem fw {X : Cx} {P : Program} {w : World} {K : Fg} {mg : Str -> Option Value} {base : Heap} {NN : List Str} {qual : Str} {scp : Scope} {f : Addr} {cd : Value} {A : Around} {outer : List Env} {s0 : Shared} {H0 : Hp} {E : XK} (hX : X = cxOf (CX1 P w) P w K mg base NN qual scp f cd A outer s0 H0 E) {tg elt iter : Expr} {ifs : List Expr} {scope : Scope} {pos : Pos} (ts N2 : List Str) {wi : TI} {g : Dyn -> TG} {tt : Dyn -> TT} {te : Dyn -> TE} (hc : X.calm = true) (hi : PI X tg iter wi)
    (hg : ∀ d, PG (zt X scope (ts ++ N2) d) tg (g d)) (ht : ∀ d, PTs (zt X scope (ts ++ N2) d) ifs (tt d)) (he : ∀ d pn, PE (oz (zt X scope (ts ++ N2) d) pn fun _ c H' => E c none H') elt (te d))
    (hkind : scope.kind = .function) (hown : rz scope.names = true) (hfree : rg scope.names X.env = true) (hout : vg scope.names N2 X.N = true)
    (hs : ∀ x, foldedSetIterable iter X.env x = pure x := by intro _; rfl) : PE X (.ListComp elt [⟨tg, iter, ifs, 0⟩] scope pos) (fc ts.length wi g tt te) := by
  intro pins s σ H Q I h;obtain ⟨cl, hclos, hcl1, hcl2⟩ := nk (scope := scope) (env := X.env) fun y hy hf => I.ok.has y.1 (qj hfree hy hf)
  rw [eval_ListComp];refine wpAny_comprehension_free (use := none) rfl hs hclos hkind (oa hown) (thn (hi pins s σ H _ I h) fun v s1 h1 => thn h1 fun itv s2 h2 => ?_);obtain ⟨it, fp, tn, J, H2, e, I2, T, st2, f2, hW⟩ := h2;subst e;refine c0 (Ex := fun c H' => E c none H') (RR := fun acc C => compPost (model X.prog X.w) X.A X.xe none (EP X pins σ Q) acc C) I2 hc T st2 f2 hkind hown hfree hout hcl1 hcl2 hg ht he hW ?_ (fun acc C H' s' e s'' m hC I' hn hf cx => passC hX I' hn hf (Zd I2.sz hC) (ZT (Zh I2.lt hC)) (fun b hb z => absurd (Zh (stk_lt I2 hb) hC) (by rw [z]; exact ZJ _)) cx);intro D C s' H' ys hC hCD I' hD hCn hNs hl fin;obtain ⟨m, hm⟩ := hNs;refine ⟨m, hm, fun h' sb => ?_⟩
  have I'' : Inv X pins σ (upd H' D (.lst ys)) { s' with heap := h' } := by
    refine I'.turned (t' := s'.toks) (it := C) (fun b o hb e => sb.extBut b o hb e) (by rw [zp hCD]; exact hCn) (ZT (Zh I2.lt hC)) (.inr (Zd I2.sz hC)) (fun x c e => ?_) fun p hp => ?_
    . obtain ⟨v, q⟩ := I2.cell x c e
      exact Zs (Zh q.lt hC)
    . exact Zs (Zh (Heap.lt_size (I2.pin p hp).1) hC)
  exact ⟨.ref D, _, I'', rfl, fin D hD⟩
end L2
namespace L2
open PySem PySem.Spec PyProof.Rows
section
variable {X : Cx}
def rSplit : V -> List V -> Hp -> VK -> Prop := fun x vs H Q => ∃ z y, x = .str z /\ vs = [.str y] /\ (y.length == 0) = false /\ z.length <= sizeLine /\ (Txt.split z y).length <= sizeLine /\ ∀ l, H l = none -> Q (.ref l) (upd H l (.lst ((Txt.split z y).map V.str)))
theorem zev {x : V} {vs : List V} {H : Hp} {Q : VK} : rSplit x vs H Q = ∃ z y, x = .str z /\ vs = [.str y] /\ (y.length == 0) = false /\ z.length <= sizeLine /\ (Txt.split z y).length <= sizeLine /\ ∀ l, H l = none -> Q (.ref l) (upd H l (.lst ((Txt.split z y).map V.str))) := rfl
end
end L2
namespace L2
open PySem PySem.Spec PyProof.Rows
theorem zd8 {c : TT} {tb : TS} {D : Ends} {σ : St} {H : Hp} : tWhile c tb D σ H = ∃ W : Nat -> St -> Hp -> Prop, (∃ m, W m σ H) /\ ∀ m σ H, W m σ H ->
  c σ H fun b H1 => if b = true then ∃ N : St -> Hp -> Prop, (∀ σ' H', N σ' H' -> ∃ m', m' < m /\ W m' σ' H') /\ tb { D with nx := N, ct := N, bk := D.nx } σ H1 else D.nx σ H1 := rfl
end L2
namespace L2
open PySem PySem.Spec PyProof.Rows
def TupIn (K : Fg) (mg : Str -> Option Value) (name : Str) (xs : List V) : Prop := ∃ p, mg name = some (.ref p) /\ ∀ H, SqT K H p xs
theorem tup_mk {K : Fg} {h : Heap} {mg : Str -> Option Value} (X : K.In h) (G : h.Ns mainGlobals mg) {name : Str} {p : Addr} {od : Option Addr} {its : Array Value} {n : Nat} {osl : Array (Option Value)} {xs : List V} (e : PySem.W.nsIn K mainGlobals name = some (some (.ref p))) (l : K.lookup p = some ⟨.type "tuple", od, .seq its n, osl⟩) (hz : its.size <= sizeLine) (r : Vals xs its.toList) : TupIn K mg name xs :=
  ⟨p, PySem.W.mg_of X G e, fun H => .inr ⟨_, its, n, l, rfl, rfl, hz, r⟩⟩
def tGlT (K : Fg) (xs : List V) : TE := fun _ H Q => ∀ p, SqT K H p xs -> Q (.ref p) H
theorem e_glT {K : Fg} {xs : List V} {σ : St} {H : Hp} {Q : VK} : tGlT K xs σ H Q = ∀ p, SqT K H p xs -> Q (.ref p) H := rfl
end L2
namespace L2
open PySem PySem.Spec PyProof.Rows
def rIntS (xs : List V) (H : Hp) (Q : VK) : Prop := ∃ (x : Str) (n : Int), xs = [.str x] /\ PySem.intText? x = some n /\ x.length <= 640 /\ Q (.int n) H
theorem e_intS {xs : List V} {H : Hp} {Q : VK} : rIntS xs H Q = ∃ (x : Str) (n : Int), xs = [.str x] /\ PySem.intText? x = some n /\ x.length <= 640 /\ Q (.int n) H := rfl
section
variable {X : Cx}
end
section
variable {a b c d t e u : TS} {tc : TT} {D : Ends} {σ : L2.St} {H : Hp}
end
end L2
namespace Mine
open PySem PySem.Spec PyProof.Rows L2
theorem yf {α β : Type} {g : α -> β} {xs : List α} {i : Nat} {x : β} (h : (xs.map g)[i]? = some x) : ∃ y, xs[i]? = some y /\ g y = x := by
  rw [Ze] at h
  cases e : xs[i]? with
  | none => rw [e] at h; cases h
  | some y => rw [e] at h; cases h; exact ⟨y, rfl, rfl⟩
def zh := And.intro @e_intS (And.intro @e_var (And.intro @e_C (And.intro @e_op (And.intro @e_un (And.intro @e_rI (And.intro @e_rI0 (And.intro @e_rU (And.intro @e_rEq (And.intro @e_rNe (And.intro @e_ixL (And.intro @e_ixT (And.intro @e_set (And.intro @e_cat (And.intro @e_test (And.intro @e_B (And.intro @e_and (And.intro @e_or (And.intro @e_not (And.intro @e_andV (And.intro @e_orV (And.intro @e_notV (And.intro @e_ifE (And.intro @e_all (And.intro @e_next (And.intro @e_seq (And.intro @e_brk (And.intro @e_cnt (And.intro @e_drop (And.intro @e_ret (And.intro @e_retN (And.intro @e_ifS (And.intro @e_asg (And.intro @zej (And.intro @e_setC (And.intro @e_augS (And.intro @e_ipI (And.intro @e_nil (And.intro @e_cons (And.intro @e_tup (And.intro @e_lst (And.intro @e_call (And.intro @e_CB (And.intro @e_BM (And.intro @e_app (And.intro @e_rng1 (And.intro @e_rng2 (And.intro @e_iL (And.intro @e_for (And.intro @e_comp (And.intro @cxK (And.intro @e_zip (And.intro @e_gTup (And.intro @e_gNil (And.intro @zdo (And.intro @e_rep (And.intro @e_gSub (And.intro @e_slL (And.intro @e_tSl (And.intro @zc3 (And.intro @e_part (And.intro @e_rng3 (And.intro @zem (And.intro @e_pop (And.intro @e_BM0 (And.intro @zeo (And.intro @e_in (And.intro @e_enum (And.intro @e_minK (And.intro @ze0 (And.intro @ze8 (And.intro @zdw (And.intro @e_try0 (And.intro @suK (And.intro @noxK (And.intro @tryK (And.intro @e_eqD (And.intro @e_inD (And.intro @e_iStr (And.intro @e_mulS (And.intro @e_ixS (And.intro @e_join (And.intro @e_rev (And.intro @zdp (And.intro @zdr (And.intro @e_iT (And.intro @e_iSeq (And.intro @e_tupL (And.intro @e_disp (And.intro @zcs (And.intro @zd4 (And.intro @e_minL (And.intro @e_maxL (And.intro @zci (And.intro @zbq (And.intro @zcz (And.intro @e_leS (And.intro @e_vI0 (And.intro @e_vI (And.intro @e_ints (And.intro @e_isB (And.intro @e_catH (And.intro @zdh (And.intro @e_rngD (And.intro @e_slH (And.intro @e_slT (And.intro @zcm (And.intro @zc1 (And.intro @e_inK (And.intro @e_setD (And.intro @zez (And.intro @e_dget (And.intro @e_zip3 (And.intro @e_zip2 (And.intro @e_BMT (And.intro @ze4 (And.intro @e_maxK (And.intro @zes (And.intro @e_eqK (And.intro @zcp (And.intro @e_dg1 (And.intro @e_dg2 (And.intro @e_neI (And.intro @zev (And.intro @zd8 (@e_glT)))))))))))))))))))))))))))))))))))))))))))))))))))))))))))))))))))))))))))))))))))))))))))))))))))))))))))))))))))))))))))))
def zi := And.intro @ZQ.{0} (And.intro @Yu.{0} (And.intro @Nat.zero_add (And.intro @Yz.{0} (And.intro @List.replicate_zero.{0} (And.intro @List.drop_succ_cons.{0} (And.intro @List.drop_zero.{0} (And.intro @Int.zero_add (And.intro @List.getElem?_cons_zero.{0} (And.intro @List.getElem?_cons_succ.{0} (And.intro @List.set_cons_zero.{0} (And.intro @List.set_cons_succ.{0} (And.intro @Option.some.injEq.{0} (And.intro @V.int.injEq (And.intro @V.ref.injEq (And.intro @V.bl.injEq (And.intro @V.ty.injEq (And.intro @V.str.injEq (And.intro @List.cons.injEq.{0} (And.intro @ZU.{0} (And.intro @List.cons_append.{0} (And.intro @List.nil_append.{0} (And.intro @exists_eq.{1} (And.intro @exists_eq'.{1} (And.intro @exists_eq_left.{1} (And.intro @exists_eq_left'.{1} (And.intro @exists_and_left.{1} (And.intro @exists_and_right.{1} (And.intro @and_assoc (And.intro @true_and (@and_true))))))))))))))))))))))))))))))
def top (i : Nat) : Stmt := PySem.Challenge.pw_trueword_k52_no_weights.main.body.getD i (.Pass ⟨0, 0, 0, 0⟩)
abbrev ux : Stmt := top 13
theorem lc : zq ["thing"] ["thing"] (zk ux) := ⟨rfl, rfl, rfl, by decide +kernel, rfl, by decide +kernel, by decide +kernel⟩
abbrev vt : Stmt := top 14
theorem nt : zq ["thing"] ["thing"] (zk vt) := ⟨rfl, rfl, rfl, by decide +kernel, rfl, by decide +kernel, by decide +kernel⟩
abbrev vd : Stmt := top 15
theorem og : zq ["thing", "width"] ["thing", "width"] (zk vd) := ⟨rfl, rfl, rfl, by decide +kernel, rfl, by decide +kernel, by decide +kernel⟩
abbrev pj : Stmt := top 21
theorem zab : zq ["thing"] ["thing"] (zk pj) := ⟨rfl, rfl, rfl, by decide +kernel, rfl, by decide +kernel, by decide +kernel⟩
abbrev sj : Stmt := top 22
theorem e6 : zq ["thing", "most"] ["thing", "most"] (zk sj) := ⟨rfl, rfl, rfl, by decide +kernel, rfl, by decide +kernel, by decide +kernel⟩
abbrev tj : Stmt := top 23
theorem gx : zq ["thing", "height", "width"] ["thing", "height", "width"] (zk tj) := ⟨rfl, rfl, rfl, by decide +kernel, rfl, by decide +kernel, by decide +kernel⟩
abbrev ph : Stmt := top 24
theorem zag : zq ["thing", "width"] ["thing", "width"] (zk ph) := ⟨rfl, rfl, rfl, by decide +kernel, rfl, by decide +kernel, by decide +kernel⟩
abbrev p5 : Stmt := top 25
theorem zan : zq ["hand"] ["hand"] (zk p5) := ⟨rfl, rfl, rfl, by decide +kernel, rfl, by decide +kernel, by decide +kernel⟩
abbrev qc : Stmt := top 26
theorem cn : zq ["hands"] ["hands"] (zk qc) := ⟨rfl, rfl, rfl, by decide +kernel, rfl, by decide +kernel, by decide +kernel⟩
abbrev wq : Stmt := top 27
theorem qr : zq ["hand"] ["hand"] (zk wq) := ⟨rfl, rfl, rfl, by decide +kernel, rfl, by decide +kernel, by decide +kernel⟩
abbrev x0 : Stmt := top 28
theorem rk : zq ["hand"] ["hand"] (zk x0) := ⟨rfl, rfl, rfl, by decide +kernel, rfl, by decide +kernel, by decide +kernel⟩
abbrev sf : Stmt := top 29
theorem fi : zq ["hand", "word"] ["hand", "word"] (zk sf) := ⟨rfl, rfl, rfl, by decide +kernel, rfl, by decide +kernel, by decide +kernel⟩
abbrev vn : Stmt := top 30
theorem sc_count_of_rows : zq ["hands", "count", "hand"] ["hands"] (zk vn) := ⟨rfl, rfl, rfl, by decide +kernel, rfl, by decide +kernel, by decide +kernel⟩
abbrev ui : Stmt := top 31
theorem j6 : zq ["outcomes", "hands"] ["outcomes", "hands"] (zk ui) := ⟨rfl, rfl, rfl, by decide +kernel, rfl, by decide +kernel, by decide +kernel⟩
abbrev uc : Stmt := top 32
theorem sc_kept_hand : zq ["hand", "worths"] ["hand"] (zk uc) := ⟨rfl, rfl, rfl, by decide +kernel, rfl, by decide +kernel, by decide +kernel⟩
abbrev u0 : Stmt := top 33
theorem lq : zq ["outcomes", "hands"] ["outcomes", "hands"] (zk u0) := ⟨rfl, rfl, rfl, by decide +kernel, rfl, by decide +kernel, by decide +kernel⟩
abbrev um : Stmt := top 34
theorem ik : zq ["house"] ["house"] (zk um) := ⟨rfl, rfl, rfl, by decide +kernel, rfl, by decide +kernel, by decide +kernel⟩
abbrev rq : Stmt := top 35
theorem c8 : zq ["house"] ["house"] (zk rq) := ⟨rfl, rfl, rfl, by decide +kernel, rfl, by decide +kernel, by decide +kernel⟩
abbrev sg : Stmt := top 36
theorem sc_with_each : zq ["rows", "words", "longer", "row"] ["rows", "words"] (zk sg) := ⟨rfl, rfl, rfl, by decide +kernel, rfl, by decide +kernel, by decide +kernel⟩
abbrev si : Stmt := top 37
theorem sc_rows_over : zq ["hands", "rows", "hand"] ["hands"] (zk si) := ⟨rfl, rfl, rfl, by decide +kernel, rfl, by decide +kernel, by decide +kernel⟩
abbrev p4 : Stmt := top 38
theorem zac : zq ["house"] ["house"] (zk p4) := ⟨rfl, rfl, rfl, by decide +kernel, rfl, by decide +kernel, by decide +kernel⟩
abbrev vf : Stmt := top 40
theorem on : zq ["house", "thing"] ["house", "thing"] (zk vf) := ⟨rfl, rfl, rfl, by decide +kernel, rfl, by decide +kernel, by decide +kernel⟩
abbrev wu : Stmt := top 41
theorem qw : zq ["house", "thing"] ["house", "thing"] (zk wu) := ⟨rfl, rfl, rfl, by decide +kernel, rfl, by decide +kernel, by decide +kernel⟩
abbrev x9 : Stmt := top 42
theorem rj : zq ["house", "weights", "handicaps"] ["house", "weights", "handicaps"] (zk x9) := ⟨rfl, rfl, rfl, by decide +kernel, rfl, by decide +kernel, by decide +kernel⟩
abbrev pp : Stmt := top 43
theorem zae : zq ["hand", "weight", "word"] ["hand", "weight", "word"] (zk pp) := ⟨rfl, rfl, rfl, by decide +kernel, rfl, by decide +kernel, by decide +kernel⟩
abbrev qe : Stmt := top 44
theorem cp : zq ["house", "weights", "row"] ["house", "weights", "row"] (zk qe) := ⟨rfl, rfl, rfl, by decide +kernel, rfl, by decide +kernel, by decide +kernel⟩
abbrev qz : Stmt := top 45
theorem sc_scores : zq ["house", "weights", "handicaps", "row", "totals", "part"] ["house", "weights", "handicaps", "row"] (zk qz) := ⟨rfl, rfl, rfl, by decide +kernel, rfl, by decide +kernel, by decide +kernel⟩
abbrev tm : Stmt := top 46
theorem gz : zq ["totals"] ["totals"] (zk tm) := ⟨rfl, rfl, rfl, by decide +kernel, rfl, by decide +kernel, by decide +kernel⟩
abbrev wv : Stmt := top 47
theorem p0 : zq ["house", "weights", "handicaps", "row"] ["house", "weights", "handicaps", "row"] (zk wv) := ⟨rfl, rfl, rfl, by decide +kernel, rfl, by decide +kernel, by decide +kernel⟩
abbrev vv : Stmt := top 48
theorem nn : zq ["house", "weights", "handicaps"] ["house", "weights", "handicaps"] (zk vv) := ⟨rfl, rfl, rfl, by decide +kernel, rfl, by decide +kernel, by decide +kernel⟩
abbrev mq : Stmt := top 49
theorem sc_pivot : zq ["totals", "part", "rest"] ["totals", "part"] (zk mq) := ⟨rfl, rfl, rfl, by decide +kernel, rfl, by decide +kernel, by decide +kernel⟩
abbrev qv : Stmt := top 50
theorem sc_pivots : zq ["house", "weights", "handicaps", "row", "totals"] ["house", "weights", "handicaps", "row"] (zk qv) := ⟨rfl, rfl, rfl, by decide +kernel, rfl, by decide +kernel, by decide +kernel⟩
abbrev r6 : Stmt := top 52
theorem ci : zq ["script", "k"] ["script", "k"] (zk r6) := ⟨rfl, rfl, rfl, by decide +kernel, rfl, by decide +kernel, by decide +kernel⟩
abbrev u7 : Stmt := top 53
theorem gp : zq ["cell", "top"] ["cell", "top"] (zk u7) := ⟨rfl, rfl, rfl, by decide +kernel, rfl, by decide +kernel, by decide +kernel⟩
abbrev yd : Stmt := top 54
theorem sc_law_names : zq ["cell", "many", "letters", "other", "names", "k", "sign", "head"] ["cell", "many"] (zk yd) := ⟨rfl, rfl, rfl, by decide +kernel, rfl, by decide +kernel, by decide +kernel⟩
abbrev sk : Stmt := top 55
theorem sc_law_hands : zq ["script", "places", "top", "many", "called", "hands", "spot", "k", "size", "worths", "t"] ["script", "places", "top"] (zk sk) := ⟨rfl, rfl, rfl, by decide +kernel, rfl, by decide +kernel, by decide +kernel⟩
abbrev qd : Stmt := top 56
theorem sc_law_rows : zq ["hands", "rows", "hand", "longer_ones", "row", "word"] ["hands"] (zk qd) := ⟨rfl, rfl, rfl, by decide +kernel, rfl, by decide +kernel, by decide +kernel⟩
abbrev uk : Stmt := top 58
theorem j9 : zq ["script", "many"] ["script", "many"] (zk uk) := ⟨rfl, rfl, rfl, by decide +kernel, rfl, by decide +kernel, by decide +kernel⟩
abbrev vo : Stmt := top 59
theorem k8 : zq ["script", "places"] ["script", "places"] (zk vo) := ⟨rfl, rfl, rfl, by decide +kernel, rfl, by decide +kernel, by decide +kernel⟩
abbrev uh : Stmt := top 61
theorem sc_law_refused : zq ["way", "house", "weights", "handicaps", "row", "told", "e", "others"] ["way", "house", "weights", "handicaps", "row"] (zk uh) := ⟨rfl, rfl, rfl, by decide +kernel, rfl, by decide +kernel, by decide +kernel⟩
abbrev v8 : Stmt := top 62
theorem sc_law_bent : zq ["some", "cell", "least_one", "place", "way", "bent"] ["some", "cell", "least_one"] (zk v8) := ⟨rfl, rfl, rfl, by decide +kernel, rfl, by decide +kernel, by decide +kernel⟩
abbrev pi : Stmt := top 63
theorem sc_law : zq ["script", "places", "hands", "house", "weights", "handicaps", "cell", "due", "row", "way"] ["script"] (zk pi) := ⟨rfl, rfl, rfl, by decide +kernel, rfl, by decide +kernel, by decide +kernel⟩
structure Bt (mg : Str -> Option Value) : Prop where
  «ValueError» : mg "ValueError" = none
  «abs» : mg "abs" = none
  «all» : mg "all" = none
  «bool» : mg "bool" = none
  «dict» : mg "dict" = none
  «int» : mg "int" = none
  «isinstance» : mg "isinstance" = none
  «len» : mg "len" = none
  «list» : mg "list" = none
  «max» : mg "max" = none
  «range» : mg "range" = none
  «set» : mg "set" = none
  «str» : mg "str" = none
  «tuple» : mg "tuple" = none
  «zip» : mg "zip" = none
  k_MOST_WORDS : ∃ t, mg "MOST_WORDS" = some (Value.int 8 t)
  k_MOST_LETTERS : ∃ t, mg "MOST_LETTERS" = some (Value.int 8 t)
  k_MOST_OUTCOMES : ∃ t, mg "MOST_OUTCOMES" = some (Value.int 8 t)
  k_MOST_HANDS : ∃ t, mg "MOST_HANDS" = some (Value.int 4 t)
  k_MOST_ROWS : ∃ t, mg "MOST_ROWS" = some (Value.int 256 t)
structure Ad where
  NoHouse : Addr
  NoWeight : Addr
  TrueError : Addr
  NoWord : Addr
  NoStand : Addr
  NoShare : Addr
  NoRule : Addr
  NoRow : Addr
  NoPays : Addr
  NoMenu : Addr
structure Ct (K : Fg) (mg : Str -> Option Value) (a : Ad) : Prop where
  m_NoHouse : mg "NoHouse" = some (.ref a.NoHouse)
  q_NoHouse : ErrQ K a.NoHouse
  m_NoWeight : mg "NoWeight" = some (.ref a.NoWeight)
  q_NoWeight : ErrQ K a.NoWeight
  v_NoWeight : PySem.W.kitOne K (.ref a.NoWeight) (.type "ValueError") = some true
  m_TrueError : mg "TrueError" = some (.ref a.TrueError)
  q_TrueError : ErrQ K a.TrueError
  m_NoWord : mg "NoWord" = some (.ref a.NoWord)
  m_NoStand : mg "NoStand" = some (.ref a.NoStand)
  m_NoShare : mg "NoShare" = some (.ref a.NoShare)
  m_NoRule : mg "NoRule" = some (.ref a.NoRule)
  m_NoRow : mg "NoRow" = some (.ref a.NoRow)
  m_NoPays : mg "NoPays" = some (.ref a.NoPays)
  m_NoMenu : mg "NoMenu" = some (.ref a.NoMenu)
  k_NoWeight_NoHouse : PySem.W.kitOne K (.ref a.NoWeight) (.ref a.NoHouse) = some false
  s_NoWeight_NoWeight : PySem.W.mroIn K a.NoWeight (.ref a.NoWeight) = some true
  k_NoWeight_NoWeight : PySem.W.kitOne K (.ref a.NoWeight) (.ref a.NoWeight) = some true
  s_NoWeight_TrueError : PySem.W.mroIn K a.NoWeight (.ref a.TrueError) = some true
  k_NoWeight_TrueError : PySem.W.kitOne K (.ref a.NoWeight) (.ref a.TrueError) = some true
  k_NoWeight_NoWord : PySem.W.kitOne K (.ref a.NoWeight) (.ref a.NoWord) = some false
  k_NoWeight_NoStand : PySem.W.kitOne K (.ref a.NoWeight) (.ref a.NoStand) = some false
  k_NoWeight_NoShare : PySem.W.kitOne K (.ref a.NoWeight) (.ref a.NoShare) = some false
  k_NoWeight_NoRule : PySem.W.kitOne K (.ref a.NoWeight) (.ref a.NoRule) = some false
  k_NoWeight_NoRow : PySem.W.kitOne K (.ref a.NoWeight) (.ref a.NoRow) = some false
  k_NoWeight_NoPays : PySem.W.kitOne K (.ref a.NoWeight) (.ref a.NoPays) = some false
  k_NoWeight_NoMenu : PySem.W.kitOne K (.ref a.NoWeight) (.ref a.NoMenu) = some false
structure NewGrid (H H' : Hp) (b : Addr) (bs : List Addr) (rows : List (List Int)) (k n : Nat) : Prop where
  same : Same H H'
  nb : H b = none
  nr : ∀ r ∈ bs, H r = none
  nd : bs.Nodup
  ne : b ∉ bs
  at' : H' b = some (.lst (bs.map V.ref))
  lb : bs.length = k
  lr : rows.length = k
  row : ∀ (i : Nat) (r : Addr) (ns : List Int), bs[i]? = some r -> rows[i]? = some ns -> H' r = some (.lst (ns.map V.int)) /\ ns.length = n
theorem NewGrid.grid {K : Fg} {H H' : Hp} {b : Addr} {bs : List Addr} {rows : List (List Int)} {k n : Nat} (g : NewGrid H H' b bs rows k n) : GridL K H' b bs rows :=
  ⟨.of g.at', g.lb.trans g.lr.symm, fun i r ns e1 e2 => .of (g.row i r ns e1 e2).1⟩
theorem Same.upd {H H' : Hp} (s : Same H H') {a : Addr} {o : HO} (n : H a = none) : Same H (upd H' a o) := fun b u e => by
  rw [zp (xk e n)]; exact s b u e
theorem NewGrid.nil {H H' : Hp} {b : Addr} {n : Nat} (s : Same H H') (nb : H' b = none) : NewGrid H (upd H' b (.lst [])) b [] [] 0 n :=
  ⟨Same.upd s (s.free nb), s.free nb, (fun _ z => nomatch z), List.nodup_nil, (fun z => nomatch z), zf, rfl, rfl, (fun i r ns e => by simp at e)⟩
theorem NewGrid.laid {H H' : Hp} {b c : Addr} {bs : List Addr} {rows : List (List Int)} {k n : Nat} {o : HO} (g : NewGrid H H' b bs rows k n) (nc : H' c = none) : NewGrid H (L2.upd H' c o) b bs rows k n :=
  ⟨Same.upd g.same (g.same.free nc), g.nb, g.nr, g.nd, g.ne, by rw [zp (xk g.at' nc)]; exact g.at', g.lb, g.lr, fun i r ns e1 e2 => by
    obtain ⟨q, l⟩ := g.row i r ns e1 e2
    exact ⟨by rw [zp (xk q nc)]; exact q, l⟩⟩
theorem NewGrid.snoc {H H' : Hp} {b c : Addr} {bs : List Addr} {rows : List (List Int)} {k n : Nat} {ns : List Int} (g : NewGrid H H' b bs rows k n) (hn : H c = none) (hc : H' c = some (.lst (ns.map V.int))) (hl : ns.length = n) (hb : c ∉ bs) (hcb : c ≠ b) :
    NewGrid H (L2.upd H' b (.lst (bs.map V.ref ++ [.ref c]))) b (bs ++ [c]) (rows ++ [ns]) (k + 1) n := by
  refine ⟨Same.upd g.same g.nb, g.nb, fun r hr => ?_, ?_, ?_, ?_, by rw [Zo, g.lb]; rfl, by rw [Zo, g.lr]; rfl, fun i r ms e1 e2 => ?_⟩
  . rcases ZH.mp hr with z | z
    . exact g.nr r z
    . rw [ZC.mp z]; exact hn
  . refine Yn.mpr ⟨g.nd, by simp, fun x hx y hy => ?_⟩
    rw [ZC.mp hy]
    rintro rfl
    exact hb hx
  . intro z
    rcases ZH.mp z with z | z
    . exact g.ne z
    . exact hcb (ZC.mp z).symm
  . rw [zf, Zn]; rfl
  . have nb' : ∀ r, r ∈ bs ++ [c] -> r ≠ b := fun r hr => by
      rcases ZH.mp hr with z | z
      . rintro rfl; exact g.ne z
      . rw [ZC.mp z]; exact hcb
    have hr : r ∈ bs ++ [c] := Zi e1;rw [zp (nb' r hr)]
    by_cases hi : i < bs.length
    . rw [Zg hi] at e1
      rw [Zg (by rw [g.lr, <- g.lb]; exact hi)] at e2;exact g.row i r ms e1 e2
    . have hi' : bs.length <= i := ZD.mp hi
      rw [Zf hi'] at e1;rw [Zf (by rw [g.lr, <- g.lb]; exact hi')] at e2
      have e0 : i - bs.length = 0 := by
        have := (Zc.mp e1).1;simp at this; omega
      rw [e0] at e1;have e0' : i - rows.length = 0 := by rw [g.lr, <- g.lb]; exact e0
      rw [e0'] at e2;simp at e1 e2;subst e1 e2;exact ⟨hc, hl⟩
theorem NewGrid.put {H H' : Hp} {b c : Addr} {bs : List Addr} {rows : List (List Int)} {k n j i : Nat} {ns : List Int} {v : Int} (g : NewGrid H H' b bs rows k n) (hi : bs[i]? = some c) (hr : rows[i]? = some ns) :
    NewGrid H (L2.upd H' c (.lst ((ns.map V.int).set j (.int v)))) b bs (rows.set i (ns.set j v)) k n := by
  have hm : c ∈ bs := Zi hi;have hcb : b ≠ c := by rintro rfl; exact g.ne hm
  refine ⟨Same.upd g.same (g.nr c hm), g.nb, g.nr, g.nd, g.ne, by rw [zp hcb]; exact g.at', g.lb, by rw [Yd]; exact g.lr, fun i' r ms e1 e2 => ?_⟩
  by_cases e : i' = i
  . subst e
    rw [hi] at e1; cases e1;rw [ZS (Zc.mp hr).1] at e2;cases e2;refine ⟨by rw [zf, List.map_set], ?_⟩;rw [Yd];exact (g.row _ c ns hi hr).2
  . have hrc : r ≠ c := by
      rintro rfl
      obtain ⟨h1, e1'⟩ := Zc.mp e1;obtain ⟨h2, e2'⟩ := Zc.mp hi;exact e ((Yo g.nd).mp (e1'.trans e2'.symm))
    rw [ZY (Ne.symm e)] at e2;rw [zp hrc];exact g.row i' r ms e1 e2
theorem NewGrid.trans {H H1 H' : Hp} {b : Addr} {bs : List Addr} {rows : List (List Int)} {k n : Nat} (s : Same H H1) (g : NewGrid H1 H' b bs rows k n) : NewGrid H H' b bs rows k n :=
  ⟨s.trans g.same, s.free g.nb, fun r hr => s.free (g.nr r hr), g.nd, g.ne, g.at', g.lb, g.lr, g.row⟩
def zx (ns : List Int) (k : Nat) : Int := ns.getD k 0
def letA (i : Int) : Nat := 97 + (i % 26).toNat
def qm (K : Fg) : Sp := fun vs H Q _ => ∃ (a : Addr) (ns : List Int) (k : Nat), vs = [.ref a, .int k] /\ SqL K H a (ns.map V.int) /\ Q (.int (zx ns k)) H
theorem xr (z : Str) (n : Nat) : (xj z n).length = z.length * n := by
  unfold xj Str.length;simp [List.length_flatten, Nat.mul_comm]
theorem ue (y z : Str) : (y ++ z).length = y.length + z.length := by
  show (y.cps ++ z.cps).size = _
  simp [Str.length]
theorem dg {i : Int} (h0 : 0 <= i) (h1 : i < 26) : atI (Str.ofString "abcdefghijklmnopqrstuvwxyz").cps.toList i = some (97 + i.toNat) := by
  have h : ∀ j : Fin 26, (Str.ofString "abcdefghijklmnopqrstuvwxyz").cps.toList[j.val]? = some (97 + j.val) := by decide +kernel
  have := yr (xs := (Str.ofString "abcdefghijklmnopqrstuvwxyz").cps.toList) (j := i.toNat) (v := 97 + i.toNat) (h ⟨i.toNat, by omega⟩)
  rwa [Int.toNat_of_nonneg h0] at this
section
variable {P : Program} {w : World} {K : Fg} {mg : Str -> Option Value} {base : Heap}
end
section
variable {P : Program} {w : World} {K : Fg} {mg : Str -> Option Value} {base : Heap}
end
structure HX where
  t : Addr
  w : Addr
  g : Addr
  gs : List Addr
def HX.adr (x : HX) : List Addr := x.t :: x.w :: x.g :: x.gs
structure HD where
  name : Str
  words : List Str
  worths : List (List Int)
structure HandAt (H : Hp) (x : HX) (d : HD) : Prop where
  tup : H x.t = some (.tup [.str d.name, .ref x.w, .ref x.g])
  words : H x.w = some (.lst (d.words.map V.str))
  grid : H x.g = some (.lst (x.gs.map V.ref))
  len : x.gs.length = d.worths.length
  row : ∀ (i : Nat) (r : Addr) (ns : List Int), x.gs[i]? = some r -> d.worths[i]? = some ns -> H r = some (.lst (ns.map V.int))
theorem HandAt.mono {H H' : Hp} {x : HX} {d : HD} (S : Same H H') (h : HandAt H x d) : HandAt H' x d :=
  ⟨S _ _ h.tup, S _ _ h.words, S _ _ h.grid, h.len, fun i r ns e1 e2 => S _ _ (h.row i r ns e1 e2)⟩
def adrs (xs : List HX) : List Addr := (xs.map HX.adr).flatten
structure NewHands (H H' : Hp) (b : Addr) (xs : List HX) (ds : List HD) : Prop where
  same : Same H H'
  nb : H b = none
  at' : H' b = some (.lst (xs.map fun x => V.ref x.t))
  len : xs.length = ds.length
  hand : ∀ (i : Nat) (x : HX) (d : HD), xs[i]? = some x -> ds[i]? = some d -> HandAt H' x d
  new : ∀ y ∈ adrs xs, H y = none
  old : ∀ y ∈ adrs xs, H' y ≠ none
  nd : (adrs xs).Nodup
  ne : b ∉ adrs xs
theorem NewHands.nil {H H' : Hp} {b : Addr} (s : Same H H') (nb : H' b = none) : NewHands H (upd H' b (.lst [])) b [] [] :=
  ⟨Same.upd s (s.free nb), s.free nb, zf, rfl, (fun i x d e => by simp at e), (fun y z => nomatch z), (fun y z => nomatch z), List.nodup_nil, (fun z => nomatch z)⟩
theorem NewHands.more {H H' H2 : Hp} {b : Addr} {xs : List HX} {ds : List HD} (g : NewHands H H' b xs ds) (S : Same H' H2) : NewHands H H2 b xs ds :=
  ⟨g.same.trans S, g.nb, S _ _ g.at', g.len, fun i x d e1 e2 => (g.hand i x d e1 e2).mono S, g.new, fun y hy => by
    cases e : H' y with
    | none => exact absurd e (g.old y hy)
    | some o => rw [S _ _ e]; simp, g.nd, g.ne⟩
theorem NewHands.snoc {H H' : Hp} {b : Addr} {xs : List HX} {ds : List HD} {x : HX} {d : HD} (g : NewHands H H' b xs ds) (h : HandAt H' x d) (hn : ∀ y ∈ x.adr, H y = none) (hx : x.adr.Nodup) (ho : ∀ y ∈ x.adr, y ∉ adrs xs) (hb : b ∉ x.adr) :
    NewHands H (upd H' b (.lst (xs.map (fun x => V.ref x.t) ++ [.ref x.t]))) b (xs ++ [x]) (ds ++ [d]) := by
  have ap : adrs (xs ++ [x]) = adrs xs ++ x.adr := by simp [adrs]
  have keep : ∀ y o, y ≠ b -> H' y = some o -> upd H' b (.lst (xs.map (fun x => V.ref x.t) ++ [.ref x.t])) y = some o := fun y o e q => by rw [zp e]; exact q
  have hand' : ∀ {z : HX} {e : HD}, HandAt H' z e -> b ∉ z.adr -> HandAt (upd H' b (.lst (xs.map (fun x => V.ref x.t) ++ [.ref x.t]))) z e := fun {z e} q nb => by
    have n : ∀ y ∈ z.adr, y ≠ b := fun y hy e => nb (e ▸ hy)
    exact ⟨keep _ _ (n _ (by simp [HX.adr])) q.tup, keep _ _ (n _ (by simp [HX.adr])) q.words, keep _ _ (n _ (by simp [HX.adr])) q.grid, q.len, fun i r ns e1 e2 => keep _ _ (n _ (by simp [HX.adr, Zi e1])) (q.row i r ns e1 e2)⟩
  refine ⟨Same.upd g.same g.nb, g.nb, by rw [zf]; simp, by simp [g.len], fun i z e e1 e2 => ?_, fun y hy => ?_, fun y hy => ?_, ?_, ?_⟩
  . by_cases hi : i < xs.length
    . rw [Zg hi] at e1
      rw [Zg (by rw [<- g.len]; exact hi)] at e2;refine hand' (g.hand i z e e1 e2) fun q => g.ne ?_
      exact Yq.mpr ⟨_, Zp.mpr ⟨z, Zi e1, rfl⟩, q⟩
    . rw [Zf (ZD.mp hi)] at e1
      rw [Zf (by rw [<- g.len]; exact ZD.mp hi)] at e2
      have e0 : i - xs.length = 0 := by
        have := (Zc.mp e1).1;simp at this; omega
      rw [e0] at e1;rw [<- g.len, e0] at e2;simp at e1 e2;subst e1 e2;exact hand' h hb
  . rw [ap] at hy
    rcases ZH.mp hy with z | z
    . exact g.new y z
    . exact hn y z
  . rw [ap] at hy
    have hyb : y ≠ b := fun e => by
      rcases ZH.mp hy with z | z
      . exact g.ne (e ▸ z)
      . exact hb (e ▸ z)
    rw [zp hyb]
    rcases ZH.mp hy with z | z
    . exact g.old y z
    . rcases ZK.mp z with e | z
      . rw [e, h.tup]; simp
      rcases ZK.mp z with e | z
      . rw [e, h.words]; simp
      rcases ZK.mp z with e | z
      . rw [e, h.grid]; simp
      . obtain ⟨i, hi, rfl⟩ := Zy z
        have e1 : x.gs[i]? = some x.gs[i] := by simp [hi]
        have hi2 : i < d.worths.length := by rw [<- h.len]; exact hi
        have e2 : d.worths[i]? = some d.worths[i] := by simp [hi2]
        rw [h.row i _ _ e1 e2]; simp
  . rw [ap]
    refine Yn.mpr ⟨g.nd, hx, fun y hy z hz e => ?_⟩;exact ho z hz (e ▸ hy)
  . rw [ap]
    intro z
    rcases ZH.mp z with z | z
    . exact g.ne z
    . exact hb z
theorem yn (a : Int) {n : Int} (h : 0 < n) : 0 <= a % n /\ a % n < n := ⟨Yx _ (by omega), Yg _ h⟩
section
variable {P : Program} {w : World} {K : Fg} {mg : Str -> Option Value} {base : Heap}
end
def qi (z : Str) : Prop := 1 <= z.length /\ z.length <= 8 /\ ∀ c ∈ z.cps.toList, 97 <= c /\ c <= 122
theorem zex (i : Int) : 97 <= letA i /\ letA i <= 122 := by
  have := yn i (show (0 : Int) < 26 by decide);unfold letA; omega
theorem na {z : Str} {n c : Nat} (h : c ∈ (xj z n).cps.toList) : c ∈ z.cps.toList := by
  unfold xj at h;simp only [List.toList_toArray, Yq] at h;obtain ⟨l, h1, h2⟩ := h;rw [(List.mem_replicate.mp h1).2] at h2;exact h2
theorem l5 {y z : Str} {c : Nat} (h : c ∈ (y ++ z).cps.toList) : c ∈ y.cps.toList \/ c ∈ z.cps.toList := by
  have : (y ++ z).cps.toList = y.cps.toList ++ z.cps.toList := by
    show (y.cps ++ z.cps).toList = _
    simp
  rw [this] at h;exact ZH.mp h
theorem zet {x y : Str} {n : Nat} {a b : Nat} (f : Str) (h : xj f n ++ chr1 a ++ x = xj f n ++ chr1 b ++ y) : a = b := by
  have h1 : (xj f n ++ chr1 a ++ x).cps.toList = (xj f n ++ chr1 b ++ y).cps.toList := by rw [h]
  have e : ∀ (z : Str) (a : Nat), (xj f n ++ chr1 a ++ z).cps.toList = (xj f n).cps.toList ++ ([a] ++ z.cps.toList) := fun z a => by
    show (((xj f n).cps ++ (chr1 a).cps) ++ z.cps).toList = _
    simp [chr1]
  rw [e, e] at h1;have := List.append_cancel_left h1;simp at this;exact this.1
def strT (z : Str) : Tr := .lf (.str z)
def intT (i : Int) : Tr := .lf (.int i)
def rowT (ns : List Int) : Tr := .tp (ns.map intT)
def ar (d : HD) : Tr := .tp [strT d.name, .tp (d.words.map strT), .tp (d.worths.map rowT)]
def houseT (outs : List Str) (ds : List HD) : Tr := .tp [.tp (outs.map strT), .tp (ds.map ar)]
structure HandsL (H : Hp) (b : Addr) (xs : List HX) (ds : List HD) : Prop where
  at' : H b = some (.lst (xs.map fun x => V.ref x.t))
  len : xs.length = ds.length
  hand : ∀ (i : Nat) (x : HX) (d : HD), xs[i]? = some x -> ds[i]? = some d -> HandAt H x d
theorem NewHands.lists {H H' : Hp} {b : Addr} {xs : List HX} {ds : List HD} (g : NewHands H H' b xs ds) : HandsL H' b xs ds := ⟨g.at', g.len, g.hand⟩
theorem HandsL.mono {H H' : Hp} {b : Addr} {xs : List HX} {ds : List HD} (S : Same H H') (g : HandsL H b xs ds) : HandsL H' b xs ds := ⟨S _ _ g.at', g.len, fun i x d e1 e2 => (g.hand i x d e1 e2).mono S⟩
theorem mx {K : Fg} {H : Hp} : ∀ (zs : List Str), TrsAt K H (zs.map strT) (zs.map V.str)
  | [] => TrsAt.nil
  | z :: zs => TrsAt.cons (TrAt.lf rfl) (mx zs)
theorem ij {K : Fg} {H : Hp} : ∀ (zs : List Int), TrsAt K H (zs.map intT) (zs.map V.int)
  | [] => TrsAt.nil
  | z :: zs => TrsAt.cons (TrAt.lf rfl) (ij zs)
def PvD (K : Fg) (ds : List HD) (H1 : Hp) (i : Nat) (ys : List V) (H' : Hp) : Prop := Same H1 H' /\ ys.length = i /\ TrsAt K H' ((ds.take i).map ar) ys
def PvE (K : Fg) (rows : List (List Int)) (H1 : Hp) (i : Nat) (ys : List V) (H' : Hp) : Prop := Same H1 H' /\ ys.length = i /\ TrsAt K H' ((rows.take i).map rowT) ys
section
variable {P : Program} {w : World} {K : Fg} {mg : Str -> Option Value} {base : Heap}
end
def rowL (ns : List Int) : Tr := .ls (ns.map intT)
def aj (d : HD) : Tr := .tp [strT d.name, .ls (d.words.map strT), .ls (d.worths.map rowL)]
theorem ad {K : Fg} {H : Hp} : ∀ {gs : List Addr} {rows : List (List Int)}, gs.length = rows.length -> (∀ (i : Nat) (r : Addr) (ns : List Int), gs[i]? = some r -> rows[i]? = some ns -> H r = some (.lst (ns.map V.int))) -> TrsAt K H (rows.map rowL) (gs.map V.ref)
  | [], [], _, _ => TrsAt.nil
  | g :: gs, r :: rows, hl, h => TrsAt.cons (TrAt.ls (.of (h 0 g r rfl rfl)) (ij r)) (ad (by simpa using hl) fun i a b e1 e2 => h (i + 1) a b e1 e2)
theorem HandAt.tree {K : Fg} {H : Hp} {x : HX} {d : HD} (h : HandAt H x d) : TrAt K H (aj d) (.ref x.t) :=
  TrAt.tp (.of h.tup) (TrsAt.cons (TrAt.lf rfl) (TrsAt.cons (TrAt.ls (.of h.words) (mx _)) (TrsAt.cons (TrAt.ls (.of h.grid) (ad h.len h.row)) TrsAt.nil)))
theorem ee {K : Fg} {H : Hp} : ∀ {xs : List HX} {ds : List HD}, xs.length = ds.length -> (∀ (i : Nat) (x : HX) (d : HD), xs[i]? = some x -> ds[i]? = some d -> HandAt H x d) -> TrsAt K H (ds.map aj) (xs.map fun x => V.ref x.t)
  | [], [], _, _ => TrsAt.nil
  | x :: xs, d :: ds, hl, h => TrsAt.cons (h 0 x d rfl rfl).tree (ee (by simpa using hl) fun i a b e1 e2 => h (i + 1) a b e1 e2)
theorem HandsL.tree {K : Fg} {H : Hp} {b : Addr} {xs : List HX} {ds : List HD} (h : HandsL H b xs ds) : TrAt K H (.ls (ds.map aj)) (.ref b) := TrAt.ls (.of h.at') (ee h.len h.hand)
mutual
def tups : Tr -> Bool
  | .lf _ => true
  | .ls _ => false
  | .tp ts => fb ts
def fb : List Tr -> Bool
  | [] => true
  | t :: ts => tups t && fb ts
end
mutual
theorem TrAt.past {K : Fg} {H : Hp} {a : Addr} {xs ys : List V} (ha : H a = some (.lst xs)) : ∀ {t : Tr} {x : V}, tups t = true -> TrAt K H t x -> TrAt K (upd H a (.lst ys)) t x
  | .lf v, x, _, h => by rw [TrAt] at h ⊢; exact h
  | .ls ts, x, p, h => by rw [tups] at p; cases p
  | .tp ts, x, p, h => by
    rw [tups] at p;rw [TrAt] at h ⊢;obtain ⟨c, us, e, sq, h⟩ := h;refine ⟨c, us, e, ?_, TrsAt.past ha p h⟩
    have ne : ∀ o, H c = some o -> (∀ zs, o ≠ .lst zs) -> upd H a (.lst ys) c = some o := fun o q n => by
      rw [zp (fun e => by rw [e, ha] at q; cases q; exact n _ rfl)]; exact q
    rcases sq with (q | ⟨o, q⟩) | q
    . exact .inl (.inl (ne _ q (by intro zs z; cases z)))
    . exact .inl (.inr ⟨o, ne _ q (by intro zs z; cases z)⟩)
    . exact .inr q
theorem TrsAt.past {K : Fg} {H : Hp} {a : Addr} {xs ys : List V} (ha : H a = some (.lst xs)) : ∀ {ts : List Tr} {us : List V}, fb ts = true -> TrsAt K H ts us -> TrsAt K (upd H a (.lst ys)) ts us
  | [], us, _, h => by rw [TrsAt] at h ⊢; exact h
  | t :: ts, us, p, h => by
    rw [fb, Bool.and_eq_true] at p;rw [TrsAt] at h ⊢;obtain ⟨y, zs, e, h1, h2⟩ := h;exact ⟨y, zs, e, TrAt.past ha p.1 h1, TrsAt.past ha p.2 h2⟩
end
structure GoodHouse (outs : List Str) (ds : List HD) : Prop where
  outs1 : 1 <= outs.length /\ outs.length <= 8
  outsG : ∀ z ∈ outs, qi z
  outsD : outs.Nodup
  hands : 1 <= ds.length /\ ds.length <= 4
  handsG : ∀ d ∈ ds, qi d.name
  handsD : (ds.map HD.name).Nodup
  words1 : ∀ d ∈ ds, 1 <= d.words.length /\ d.words.length <= 8
  wordsG : ∀ d ∈ ds, ∀ z ∈ d.words, qi z
  wordsD : ∀ d ∈ ds, d.words.Nodup
  rows : ∀ d ∈ ds, d.worths.length = d.words.length
  cols : ∀ d ∈ ds, ∀ r ∈ d.worths, r.length = outs.length
  nums : ∀ d ∈ ds, ∀ r ∈ d.worths, ∀ n ∈ r, -(10 ^ 60) < n /\ n < 10 ^ 60
  few : (ds.map fun d => d.words.length).prod <= 256
def zdq (K : Fg) : Sp := fun vs H Q _ => ∃ (o b : Addr) (outs : List Str) (xs : List HX) (ds : List HD), vs = [.ref o, .ref b] /\ H o = some (.lst (outs.map V.str)) /\ HandsL H b xs ds /\ GoodHouse outs ds /\
  ∀ H' p us, Same H H' -> H' p = some (.tup us) -> TrAt K H' (houseT outs ds) (.ref p) -> Q (.ref p) H'
theorem zef {n t : Nat} : ∀ {l : List Nat}, (∀ x ∈ l, x <= t) -> l.length = n -> l.prod <= t ^ n := by
  induction n with
  | zero => intro l _ hl; rw [Yc.mp hl]; simp
  | succ n ih =>
    intro l h hl
    match l, hl with
    | x :: l, hl =>
      rw [List.prod_cons, Nat.pow_succ, Nat.mul_comm];exact Yl (ih (fun y hy => h y (Zv _ hy)) (by simpa using hl)) (h x ZA)
def yw (i : Int) : Prop := -(10 ^ 60) < i /\ i < 10 ^ 60
def za5 : Sp := fun vs H Q _ => ∃ i : Int, vs = [.int i] /\ Q (.bl true) H
def za6 : Sp := fun vs H Q _ => ∃ i : Int, vs = [.int i] /\ yw i /\ Q (.bl true) H
def qRow : Sp := fun vs H Q _ => ∃ (r : Addr) (ns : List Int) (n : Nat), vs = [.ref r, .int n] /\ H r = some (.lst (ns.map V.int)) /\ ns.length = n /\ n <= 8 /\ (∀ i ∈ ns, yw i) /\ ∀ H', Same H H' -> Q (.bl true) H'
def zak : Sp := fun vs H Q _ => ∃ z : Str, vs = [.str z] /\ qi z /\ ∀ H', Same H H' -> Q (.bl true) H'
def dn : Sp := fun vs H Q _ => ∃ (l : Addr) (zs : List Str) (m : Nat), vs = [.ref l, .int m] /\ H l = some (.lst (zs.map V.str)) /\ 1 <= zs.length /\ zs.length <= m /\ m <= 8 /\ (∀ z ∈ zs, qi z) /\ zs.Nodup /\ ∀ H', Same H H' -> Q (.bl true) H'
def bf : Sp := fun vs H Q _ => ∃ (g : Addr) (gs : List Addr) (rows : List (List Int)) (h n : Nat), vs = [.ref g, .int h, .int n] /\ H g = some (.lst (gs.map V.ref)) /\ gs.length = h /\ rows.length = h /\ h <= 8 /\ n <= 8 /\ (∀ (i : Nat) (r : Addr) (ns : List Int), gs[i]? = some r -> rows[i]? = some ns -> H r = some (.lst (ns.map V.int))) /\
  (∀ r ∈ rows, r.length = n /\ ∀ i ∈ r, yw i) /\ ∀ H', Same H H' -> Q (.bl true) H'
structure GoodD (d : HD) (n : Nat) : Prop where
  name : qi d.name
  words : 1 <= d.words.length /\ d.words.length <= 8
  wordsG : ∀ z ∈ d.words, qi z
  wordsD : d.words.Nodup
  rows : d.worths.length = d.words.length
  cols : ∀ r ∈ d.worths, r.length = n /\ ∀ i ∈ r, yw i
theorem GoodHouse.hand {outs : List Str} {ds : List HD} (g : GoodHouse outs ds) {d : HD} (h : d ∈ ds) : GoodD d outs.length :=
  ⟨g.handsG d h, g.words1 d h, g.wordsG d h, g.wordsD d h, g.rows d h, fun r hr => ⟨g.cols d h r hr, fun i hi => g.nums d h r hr i hi⟩⟩
def qHand : Sp := fun vs H Q _ => ∃ (x : HX) (d : HD) (n : Nat), vs = [.ref x.t, .int n] /\ HandAt H x d /\ GoodD d n /\ n <= 8 /\ ∀ H', Same H H' -> Q (.bl true) H'
def uz (f : HX -> HD -> V) : Sp := fun vs H Q _ => ∃ (x : HX) (d : HD), vs = [.ref x.t] /\ HandAt H x d /\ Q (f x d) H
def za7 : Sp := fun vs H Q _ => ∃ (b : Addr) (xs : List HX) (ds : List HD), vs = [.ref b] /\ HandsL H b xs ds /\ (∀ d ∈ ds, d.words.length <= 8) /\ ds.length <= 4 /\ Q (.int ((ds.map fun d => d.words.length).prod : Nat)) H
def d6 : Sp := fun vs H Q _ => ∃ (o b : Addr) (outs : List Str) (xs : List HX) (ds : List HD), vs = [.ref o, .ref b] /\ H o = some (.lst (outs.map V.str)) /\ HandsL H b xs ds /\ GoodHouse outs ds /\ ∀ H', Same H H' -> Q (.bl true) H'
def qKept (K : Fg) : Sp := fun vs H Q _ => ∃ (x : HX) (d : HD), vs = [.ref x.t] /\ HandAt H x d /\ d.worths.length <= 8 /\ ∀ H' p, Same H H' -> TrAt K H' (ar d) (.ref p) -> Q (.ref p) H'
def allT (n : Nat) : List Bool := List.replicate n true
def PvAT (H : Hp) (i : Nat) (ys : List V) (H' : Hp) : Prop := Same H H' /\ ys = (allT i).map V.bl
theorem uo (n : Nat) : (allT n).map V.bl ++ [V.bl true] = (allT (n + 1)).map V.bl := by
  rw [allT, allT, List.replicate_succ', Zn]; rfl
theorem t6 (n : Nat) : (allT n).all id = true := by
  rw [ZL];intro x hx;exact List.eq_of_mem_replicate hx
theorem t9 (n : Nat) : ((allT n).map V.bl).length = n := by rw [Za, allT, ZI]
theorem bx {zs : List Str} (hd : zs.Nodup) : ∀ i, i <= zs.length -> seen (fun j => zs.getD j ⟨#[]⟩) i = zs.take i
  | 0, _ => rfl
  | i + 1, h => by
    have ih := bx hd i (by omega);have hi : i < zs.length := by omega
    have e : zs.getD i ⟨#[]⟩ = zs[i] := by simp [Zk, hi]
    show (if zs.getD i ⟨#[]⟩ ∈ seen (fun j => zs.getD j ⟨#[]⟩) i then _ else seen (fun j => zs.getD j ⟨#[]⟩) i ++ [zs.getD i ⟨#[]⟩]) = _
    rw [ih, e, if_neg, Zq]
    . simp [hi]
    . intro hm
      obtain ⟨j, hj, ej⟩ := Zy hm;rw [Zj] at hj;rw [List.getElem_take] at ej;have := (Yo hd).mp ej;omega
theorem ze6 : kit0 "str" "str" = some true := by decide +kernel
theorem mn : kit0 "list" "list" = some true := by decide +kernel
theorem ze5 : kit0 "tuple" "tuple" = some true := by decide +kernel
theorem zd6 : kit0 "int" "int" = some true := by decide +kernel
theorem zew : kit0 "int" "bool" = some false := by decide +kernel
theorem zea {c : Nat} (h1 : 97 <= c) (h2 : c <= 122) : (!decide ((chr1 c).cps.toList < (Str.ofString "a").cps.toList)) = true /\ (!decide ((Str.ofString "z").cps.toList < (chr1 c).cps.toList)) = true := by
  have ea : (Str.ofString "a").cps.toList = [97] := by decide +kernel
  have ez : (Str.ofString "z").cps.toList = [122] := by decide +kernel
  have ec : (chr1 c).cps.toList = [c] := rfl;rw [ea, ez, ec]
  constructor
  . rw [decide_eq_false]
    . rfl
    . intro z
      rw [List.cons_lt_cons_iff] at z
      rcases z with z | ⟨_, z⟩
      . omega
      . exact absurd z (by simp)
  . rw [decide_eq_false]
    . rfl
    . intro z
      rw [List.cons_lt_cons_iff] at z
      rcases z with z | ⟨_, z⟩
      . omega
      . exact absurd z (by simp)
def PvNm (H : Hp) (ds : List HD) (i : Nat) (ys : List V) (H' : Hp) : Prop := H' = H /\ ys = ((ds.take i).map HD.name).map V.str
def PvCt (H : Hp) (b : Addr) (ds : List HD) (i : Nat) (σ : L2.St) (H4 : Hp) : Prop := H4 = H /\ ∃ v, σ = [some (.ref b), some (.int (((ds.take i).map fun d => d.words.length).prod : Nat)), v]
section
variable {P : Program} {w : World} {K : Fg} {mg : Str -> Option Value} {base : Heap} {a : Ad}
theorem uw (B : Bt mg) (D : ze K mg "is_whole" ux ["thing"]) : FnAt P w K mg base "is_whole" 1 ["thing"] za5 := by
  refine FnAt.of D lc (fun vs H Q E h => ?_) (fun f cdv A outer s H vs Q E hr h => ?_)
  . obtain ⟨x, rfl, _⟩ := h
    rfl
  . obtain ⟨x, rfl, q⟩ := h
    refine ⟨_, (@zc _ _ _ (@zl _ _ _ _ (@uf _ _ _ _ _ _ _ (zn xf rfl B.isinstance yb (za (pv 0) (za (ul rfl B.int zch) (@zb _)))) (@u9 _ _ _ _ _ (@za8 _ _ _ _ (zn xf rfl B.isinstance yb (za (pv 0) (za (ul rfl B.bool b7) (@zb _))))))))), ?_⟩;rw [show start ["thing"] [V.int x] = [some (V.int x)] from rfl];simp only [zh, zi, ↓reduceIte];exact ⟨_, .int _, true, zd6, iteT ⟨_, .int _, false, zew, q⟩⟩
theorem vy (B : Bt mg) (uw : FnAt P w K mg base "is_whole" 1 ["thing"] za5) (D : ze K mg "is_bounded" vt ["thing"]) : FnAt P w K mg base "is_bounded" 2 ["thing"] za6 := by
  refine FnAt.of D nt (fun vs H Q E h => ?_) (fun f cdv A outer s H vs Q E hr h => ?_)
  . obtain ⟨x, rfl, _⟩ := h
    rfl
  . obtain ⟨x, rfl, g, q⟩ := h
    refine ⟨_, (@zc _ _ _ (@zl _ _ _ _ (@uf _ _ _ _ _ _ _ (zg uw (hr.mono (by decide)) rfl (za (pv 0) (@zb _))) (@u9 _ _ _ _ _ (@ql _ _ _ _ _ _ _ _ g8 (zn kg rfl B.abs f8 (za (pv 0) (@zb _))) (@zm _ _ _ _ _ _ _ _ ug (@zd _ _ _ _) (@zd _ _ _ _)) (yk _)))))), ?_⟩;rw [show start ["thing"] [V.int x] = [some (V.int x)] from rfl];simp only [zh, zi, ↓reduceIte];refine ⟨x, rfl, _, rfl, iteT ⟨⟨by decide, by decide, by decide⟩, ?_⟩⟩;rw [decide_eq_true]
    . exact q
    . have h1 := g.1
      have h2 := g.2
      show _ < (10 : Int) ^ 60
      split <;> omega
theorem yp (B : Bt mg) (vy : FnAt P w K mg base "is_bounded" 2 ["thing"] za6) (D : ze K mg "is_grid_row" vd ["thing", "width"]) : FnAt P w K mg base "is_grid_row" 3 ["thing", "width"] qRow := by
  refine FnAt.of D og (fun vs H Q E h => ?_) (fun f cdv A outer s H vs Q E hr h => ?_)
  . obtain ⟨r, ns, n, rfl, _⟩ := h
    rfl
  . obtain ⟨r, ns, n, rfl, hr1, ln, n8, hg, q⟩ := h
    refine ⟨_, (@zj _ _ _ _ _ (@yq _ _ _ _ _ _ _ _ (PW.pt (@o7 _ _ _ _ _ _ _ (@xu _ _ _ _ (wb (zn xf rfl B.isinstance yb (za (pv 0) (za (ul rfl B.list vz) (@zb _)))))) (@qy _ _ _ _ (@yv _ _ _ _ _ _ _ _ fe (zn zz rfl B.len xm (za (pv 0) (@zb _))) (pv 1) (yk _))))) (@zc _ _ _ (@zl _ _ _ _ (@vp _ _ _ _))) (@z0 _)) (@zc _ _ _ (@zl _ _ _ _ (zn (wx rfl) rfl B.all sy (za (yl ["worth"] ["thing", "width"] rfl (@yh _ _ _ _ (pv 0)) (fun _ => (zr (i := 0) (show (["worth", "thing", "width"] : List Str).Nodup by decide +kernel) rfl (Or.inl rfl))) (fun _ => (@ya _)) (fun _ => (zg vy (hr.mono (by decide)) rfl (za (pv 0) (@zb _)))) rfl (by decide +kernel) rfl rfl) (@zb _)))))), ?_⟩;rw [show start ["thing", "width"] [V.ref r, V.int n] = [some (V.ref r), some (V.int n)] from rfl];simp only [zh, zi, ↓reduceIte];refine ⟨_, .lst hr1, true, mn, iteF ⟨_, .inl (.of hr1), rfl, ?_⟩⟩;rw [Za, ln];refine ax rfl ⟨⟨_, .of hr1⟩, fun d => ?_⟩;refine yz (xs := ns.map V.int) (PvAT H) ⟨Same.refl _, rfl⟩ ?_ ?_ ?_
    . rintro i ys H2 hi ⟨S, rfl⟩
      rw [Za] at hi;exact ⟨by rw [t9]; exact Zd hi (Zd (show ns.length <= 8 by omega) (by decide)), S.seq (.of hr1)⟩
    . rintro i x ys H2 hx ⟨S, rfl⟩
      obtain ⟨y, hy, rfl⟩ := yf hx;simp only [zh, zi, ↓reduceIte];exact ⟨y, rfl, hg y (Zi hy), S, uo i⟩
    . rintro ys H2 ⟨S, rfl⟩ l hl
      refine ⟨_, .of zf, ?_⟩;rw [t6];exact q _ (S.trans (Same.upd (Same.refl _) hl))
theorem sv (B : Bt mg) (D : ze K mg "is_name" pj ["thing"]) : FnAt P w K mg base "is_name" 1 ["thing"] zak := by
  refine FnAt.of D zab (fun vs H Q E h => ?_) (fun f cdv A outer s H vs Q E hr h => ?_)
  . obtain ⟨x, rfl, _⟩ := h
    rfl
  . obtain ⟨z, rfl, g, q⟩ := h
    refine ⟨_, (@zj _ _ _ _ _ (@yq _ _ _ _ _ _ _ _ (PW.pt (@o7 _ _ _ _ _ _ _ (@xu _ _ _ _ (wb (zn xf rfl B.isinstance yb (za (pv 0) (za (ul rfl B.str bt_str) (@zb _)))))) (@qy _ _ _ _ (@xu _ _ _ _ (dh jz jz (@zd _ _ _ _) (zn dv rfl B.len xm (za (pv 0) (@zb _))) (qq rfl B.k_MOST_LETTERS)))))) (@zc _ _ _ (@zl _ _ _ _ (@vp _ _ _ _))) (@z0 _)) (@zc _ _ _ (@zl _ _ _ _ (zn (wx rfl) rfl B.all sy (za (yl ["sign"] ["thing"] rfl (@pi_str _ _ _ _ (pv 0)) (fun _ => (zr (i := 0) (show (["sign", "thing"] : List Str).Nodup by decide +kernel) rfl (Or.inl rfl))) (fun _ => (@ya _)) (fun _ => (zcw zbd zbd (@ud _ _ _ _) (pv 0) (@ud _ _ _ _))) rfl (by decide +kernel) rfl rfl) (@zb _)))))), ?_⟩;rw [show start ["thing"] [V.str z] = [some (V.str z)] from rfl];simp only [zh, zi, ↓reduceIte];obtain ⟨g1, g2, g3⟩ := g;refine ⟨_, .str _, true, ze6, iteF ?_⟩;refine ⟨Zd g2 (by decide), ite2 (fun _ => ite2 (fun h => ?_) fun _ => ?_) fun h => (h (decide_eq_true (by omega))).elim⟩
    . rw [decide_eq_true (show (z.length : Int) <= 8 by omega)] at h
      cases h
    . intro d
      refine zdf (PvAT H) ⟨Same.refl _, rfl⟩ ?_ ?_ ?_
      . rintro i ys H' hi ⟨S, rfl⟩
        rw [t9];exact Zd hi (Zd (show z.cps.size <= 8 from g2) (by decide))
      . rintro i c ys H' hc ⟨S, rfl⟩
        have hm : c ∈ z.cps.toList := by
          obtain ⟨hi, e⟩ := ZW.mp hc;rw [<- e];exact Array.getElem_mem_toList hi
        obtain ⟨o1, o2⟩ := zea (g3 c hm).1 (g3 c hm).2;simp only [zh, zi, ↓reduceIte];rw [if_pos o1, o2];exact ⟨S, uo i⟩
      . rintro ys H' ⟨S, rfl⟩ l hl
        refine ⟨_, .of zf, ?_⟩;rw [t6];exact q _ (S.trans (Same.upd (Same.refl _) hl))
theorem vm (B : Bt mg) (sv : FnAt P w K mg base "is_name" 1 ["thing"] zak) (D : ze K mg "are_names" sj ["thing", "most"]) : FnAt P w K mg base "are_names" 2 ["thing", "most"] dn := by
  refine FnAt.of D e6 (fun vs H Q E h => ?_) (fun f cdv A outer s H vs Q E hr h => ?_)
  . obtain ⟨l, zs, m, rfl, _⟩ := h
    rfl
  . obtain ⟨l, zs, m, rfl, hl, g1, g2, g3, gG, gD, q⟩ := h
    refine ⟨_, (@zj _ _ _ _ _ (@yq _ _ _ _ _ _ _ _ (PW.pt (@o7 _ _ _ _ _ _ _ (@xu _ _ _ _ (wb (zn xf rfl B.isinstance yb (za (pv 0) (za (ul rfl B.list vz) (@zb _)))))) (@qy _ _ _ _ (@xu _ _ _ _ (dh jz jz (@zd _ _ _ _) (zn zz rfl B.len xm (za (pv 0) (@zb _))) (pv 1)))))) (@zc _ _ _ (@zl _ _ _ _ (@vp _ _ _ _))) (@z0 _)) (@zc _ _ _ (@zl _ _ _ _ (@uf _ _ _ _ _ _ _ (zn (wx rfl) rfl B.all sy (za (yl ["one"] ["thing", "most"] rfl (@yh _ _ _ _ (pv 0)) (fun _ => (zr (i := 0) (show (["one", "thing", "most"] : List Str).Nodup by decide +kernel) rfl (Or.inl rfl))) (fun _ => (@ya _)) (fun _ => (zg sv (hr.mono (by decide)) rfl (za (pv 0) (@zb _)))) rfl (by decide +kernel) rfl rfl) (@zb _))) (@u9 _ _ _ _ _ (@ql _ _ _ _ _ _ _ _ ub (zbj rfl rfl B.len rfl B.set (za (pv 0) (@zb _))) (zn zz rfl B.len xm (za (pv 0) (@zb _))) (yk _))))))), ?_⟩;rw [show start ["thing", "most"] [V.ref l, V.int m] = [some (V.ref l), some (V.int m)] from rfl];simp only [zh, zi, ↓reduceIte];refine ⟨_, .lst hl, true, mn, iteF ⟨_, .inl (.of hl), ?_⟩⟩;rw [Za];refine ite2 (fun _ => ite2 (fun h => ?_) fun _ => ?_) fun h => (h (decide_eq_true (by omega))).elim
    . rw [decide_eq_true (show (zs.length : Int) <= m by omega)] at h
      cases h
    . refine ⟨⟨_, .of hl⟩, fun d => ?_⟩
      refine yz (xs := zs.map V.str) (PvAT H) ⟨Same.refl _, rfl⟩ ?_ ?_ ?_
      . rintro i ys H2 hi ⟨S, rfl⟩
        rw [Za] at hi;exact ⟨by rw [t9]; exact Zd hi (Zd (show zs.length <= 8 by omega) (by decide)), S.seq (.of hl)⟩
      . rintro i x ys H2 hx ⟨S, rfl⟩
        obtain ⟨y, hy, rfl⟩ := yf hx;simp only [zh, zi, ↓reduceIte];exact ⟨y, rfl, gG y (Zi hy), fun H3 S3 => ⟨S.trans S3, uo i⟩⟩
      . rintro ys H2 ⟨S, rfl⟩ p hp
        have S2 : Same H (upd H2 p (.lst ((allT (zs.map V.str).length).map V.bl))) := S.trans (Same.upd (Same.refl _) hp);refine ⟨_, .of zf, ?_⟩;rw [t6];generalize upd H2 p (.lst ((allT (zs.map V.str).length).map V.bl)) = H3 at *;refine ⟨zs, S2.seq (.of hl), by omega, _, .inl (S2.seq (.of hl)), rfl, ?_⟩;rw [bx gD _ (Zm _), Zt, Za, decide_eq_true rfl];exact q _ S2
theorem qu (B : Bt mg) (yp : FnAt P w K mg base "is_grid_row" 3 ["thing", "width"] qRow) (D : ze K mg "are_worths" tj ["thing", "height", "width"]) : FnAt P w K mg base "are_worths" 4 ["thing", "height", "width"] bf := by
  refine FnAt.of D gx (fun vs H Q E h => ?_) (fun f cdv A outer s H vs Q E hr h => ?_)
  . obtain ⟨g, gs, rows, ht, n, rfl, _⟩ := h
    rfl
  . obtain ⟨g, gs, rows, ht, n, rfl, hg, l1, l2, b1, b2, hrow, hG, q⟩ := h
    refine ⟨_, (@zj _ _ _ _ _ (@yq _ _ _ _ _ _ _ _ (PW.pt (@o7 _ _ _ _ _ _ _ (@xu _ _ _ _ (wb (zn xf rfl B.isinstance yb (za (pv 0) (za (ul rfl B.list vz) (@zb _)))))) (@qy _ _ _ _ (@yv _ _ _ _ _ _ _ _ fe (zn zz rfl B.len xm (za (pv 0) (@zb _))) (pv 1) (yk _))))) (@zc _ _ _ (@zl _ _ _ _ (@vp _ _ _ _))) (@z0 _)) (@zc _ _ _ (@zl _ _ _ _ (zn (wx rfl) rfl B.all sy (za (yl ["row"] ["thing", "height", "width"] rfl (@yh _ _ _ _ (pv 0)) (fun _ => (zr (i := 0) (show (["row", "thing", "height", "width"] : List Str).Nodup by decide +kernel) rfl (Or.inl rfl))) (fun _ => (@ya _)) (fun _ => (zg yp (hr.mono (by decide)) rfl (za (pv 0) (za (pv 3) (@zb _))))) rfl (by decide +kernel) rfl rfl) (@zb _)))))), ?_⟩;rw [show start ["thing", "height", "width"] [V.ref g, V.int ht, V.int n] = [some (V.ref g), some (V.int ht), some (V.int n)] from rfl];simp only [zh, zi, ↓reduceIte];refine ⟨_, .lst hg, true, mn, iteF ⟨_, .inl (.of hg), rfl, ?_⟩⟩;rw [Za, l1];refine ax rfl ⟨⟨_, .of hg⟩, fun d => ?_⟩;refine yz (xs := gs.map V.ref) (PvAT H) ⟨Same.refl _, rfl⟩ ?_ ?_ ?_
    . rintro i ys H2 hi ⟨S, rfl⟩
      rw [Za] at hi;exact ⟨by rw [t9]; exact Zd hi (Zd (show gs.length <= 8 by omega) (by decide)), S.seq (.of hg)⟩
    . rintro i x ys H2 hx ⟨S, rfl⟩
      obtain ⟨r, hr', rfl⟩ := yf hx;have hi : i < rows.length := by have := (Zc.mp hr').1; omega
      have e2 : rows[i]? = some rows[i] := by simp [hi]
      have hm := hG rows[i] (Zl hi);simp only [zh, zi, ↓reduceIte];exact ⟨r, rows[i], n, rfl, S _ _ (hrow i r rows[i] hr' e2), hm.1, b2, hm.2, fun H3 S3 => ⟨S.trans S3, uo i⟩⟩
    . rintro ys H2 ⟨S, rfl⟩ l hl
      refine ⟨_, .of zf, ?_⟩;rw [t6];exact q _ (S.trans (Same.upd (Same.refl _) hl))
theorem nv (B : Bt mg) (sv : FnAt P w K mg base "is_name" 1 ["thing"] zak) (vm : FnAt P w K mg base "are_names" 2 ["thing", "most"] dn) (qu : FnAt P w K mg base "are_worths" 4 ["thing", "height", "width"] bf) (D : ze K mg "is_hand" ph ["thing", "width"]) : FnAt P w K mg base "is_hand" 5 ["thing", "width"] qHand := by
  refine FnAt.of D zag (fun vs H Q E h => ?_) (fun f cdv A outer s H vs Q E hr h => ?_)
  . obtain ⟨x, d, n, rfl, _⟩ := h
    rfl
  . obtain ⟨x, d, n, rfl, hx, g, n8, q⟩ := h
    refine ⟨_, (@zj _ _ _ _ _ (@yq _ _ _ _ _ _ _ _ (PW.pt (@o7 _ _ _ _ _ _ _ (@xu _ _ _ _ (wb (zn xf rfl B.isinstance yb (za (pv 0) (za (ul rfl B.tuple xx) (@zb _)))))) (@qy _ _ _ _ (@yv _ _ _ _ _ _ _ _ fe (zn zz rfl B.len xm (za (pv 0) (@zb _))) (@zd _ _ _ _) (yk _))))) (@zc _ _ _ (@zl _ _ _ _ (@vp _ _ _ _))) (@z0 _)) (@zc _ _ _ (@zl _ _ _ _ (@uf _ _ _ _ _ _ _ (zg sv (hr.mono (by decide)) rfl (za (@xh _ _ _ _ _ _ _ wa (pv 0) (@zd _ _ _ _) (fun _ _ => rfl)) (@zb _))) (@uf _ _ _ _ _ _ _ (zg vm (hr.mono (by decide)) rfl (za (@xh _ _ _ _ _ _ _ wa (pv 0) (@zd _ _ _ _) (fun _ _ => rfl)) (za (qq rfl B.k_MOST_WORDS) (@zb _)))) (@u9 _ _ _ _ _ (zg qu (hr.mono (by decide)) rfl (za (@xh _ _ _ _ _ _ _ wa (pv 0) (@zd _ _ _ _) (fun _ _ => rfl)) (za (zn zz rfl B.len xm (za (@xh _ _ _ _ _ _ _ wa (pv 0) (@zd _ _ _ _) (fun _ _ => rfl)) (@zb _))) (za (pv 1) (@zb _))))))))))), ?_⟩;rw [show start ["thing", "width"] [V.ref x.t, V.int n] = [some (V.ref x.t), some (V.int n)] from rfl];simp only [zh, zi, ↓reduceIte];refine ⟨_, .tup hx.tup, true, ze5, iteF ⟨_, .inr (.of hx.tup), rfl, ax rfl ?_⟩⟩;refine ⟨_, .of hx.tup, _, yr (j := 0) rfl, d.name, rfl, g.name, fun H1 S1 => ?_⟩;have hx1 := hx.mono S1;refine ⟨_, rfl, iteT ⟨_, .of hx1.tup, _, yr (j := 1) rfl, x.w, d.words, 8, rfl, hx1.words, g.words.1, g.words.2, Zm _, g.wordsG, g.wordsD, fun H2 S2 => ?_⟩⟩;have hx2 := hx1.mono S2;refine ⟨_, rfl, iteT ⟨_, .of hx2.tup, _, yr (j := 2) rfl, _, .of hx2.tup, _, yr (j := 1) rfl, x.w, rfl, _, .inl (.of hx2.words), ?_⟩⟩;rw [Za];have hw := g.words.2;have hr2 := g.rows;exact ⟨x.g, x.gs, d.worths, d.words.length, n, rfl, hx2.grid, by rw [hx2.len]; exact hr2, hr2, hw, n8, hx2.row, g.cols, fun H3 S3 => q H3 (S1.trans (S2.trans S3))⟩
theorem vx (D : ze K mg "name_of" p5 ["hand"]) : FnAt P w K mg base "name_of" 1 ["hand"] (uz fun _ d => .str d.name) := by
  refine FnAt.of D zan (fun vs H Q E h => ?_) (fun f cdv A outer s H vs Q E hr h => ?_)
  . obtain ⟨x, d, rfl, _⟩ := h
    rfl
  . obtain ⟨x, d, rfl, hx, q⟩ := h
    refine ⟨_, (@zc _ _ _ (@zl _ _ _ _ (@xh _ _ _ _ _ _ _ wa (pv 0) (@zd _ _ _ _) (fun _ _ => rfl)))), ?_⟩;rw [show start ["hand"] [V.ref x.t] = [some (V.ref x.t)] from rfl];simp only [zh, zi, ↓reduceIte];exact ⟨_, .of hx.tup, _, yr (j := 0) rfl, q⟩
theorem ye (D : ze K mg "words_of_hand" wq ["hand"]) : FnAt P w K mg base "words_of_hand" 1 ["hand"] (uz fun x _ => .ref x.w) := by
  refine FnAt.of D qr (fun vs H Q E h => ?_) (fun f cdv A outer s H vs Q E hr h => ?_)
  . obtain ⟨x, d, rfl, _⟩ := h
    rfl
  . obtain ⟨x, d, rfl, hx, q⟩ := h
    refine ⟨_, (@zc _ _ _ (@zl _ _ _ _ (@xh _ _ _ _ _ _ _ wa (pv 0) (@zd _ _ _ _) (fun _ _ => rfl)))), ?_⟩;rw [show start ["hand"] [V.ref x.t] = [some (V.ref x.t)] from rfl];simp only [zh, zi, ↓reduceIte];exact ⟨_, .of hx.tup, _, yr (j := 1) rfl, q⟩
theorem xg (D : ze K mg "worths_of_hand" x0 ["hand"]) : FnAt P w K mg base "worths_of_hand" 1 ["hand"] (uz fun x _ => .ref x.g) := by
  refine FnAt.of D rk (fun vs H Q E h => ?_) (fun f cdv A outer s H vs Q E hr h => ?_)
  . obtain ⟨x, d, rfl, _⟩ := h
    rfl
  . obtain ⟨x, d, rfl, hx, q⟩ := h
    refine ⟨_, (@zc _ _ _ (@zl _ _ _ _ (@xh _ _ _ _ _ _ _ wa (pv 0) (@zd _ _ _ _) (fun _ _ => rfl)))), ?_⟩;rw [show start ["hand"] [V.ref x.t] = [some (V.ref x.t)] from rfl];simp only [zh, zi, ↓reduceIte];exact ⟨_, .of hx.tup, _, yr (j := 2) rfl, q⟩
theorem tq (B : Bt mg) (ye : FnAt P w K mg base "words_of_hand" 1 ["hand"] (uz fun x _ => .ref x.w)) (D : ze K mg "count_of_rows" vn ["hands"]) : FnAt P w K mg base "count_of_rows" 2 ["hands"] za7 := by
  refine FnAt.of D sc_count_of_rows (fun vs H Q E h => ?_) (fun f cdv A outer s H vs Q E hr h => ?_)
  . obtain ⟨b, xs, ds, rfl, _⟩ := h
    rfl
  . obtain ⟨b, xs, ds, rfl, hh, h8, h4, q⟩ := h
    refine ⟨_, (@zj _ _ _ _ _ (zw (i := 1) sc_count_of_rows.nd rfl (Or.inl rfl) (@zd _ _ _ _)) (@zj _ _ _ _ _ (vc PassesOwn.never rfl (@yh _ _ _ _ (pv 0)) (zr (i := 2) sc_count_of_rows.nd rfl (Or.inl rfl)) (@zc _ _ _ (zw (i := 1) sc_count_of_rows.nd rfl (Or.inl rfl) (@zm _ _ _ _ _ _ _ _ n0 (pv 1) (zn zz rfl B.len xm (za (zg ye (hr.mono (by decide)) rfl (za (pv 2) (@zb _))) (@zb _))))))) (@zc _ _ _ (@zl _ _ _ _ (pv 1))))), ?_⟩;rw [show start ["hands", "count", "hand"] [V.ref b] = [some (V.ref b), none, none] from rfl];simp only [zh, zi, ↓reduceIte];refine ⟨⟨_, .of hh.at'⟩, ?_⟩;refine sd (xs := xs.map fun x => V.ref x.t) (PvCt H b ds) ⟨rfl, _, rfl⟩ ?_ ?_ ?_
    . rintro i σ H4 hi ⟨rfl, v, rfl⟩
      exact .of hh.at'
    . rintro i x σ H4 hx ⟨rfl, v, rfl⟩
      obtain ⟨y, hy, rfl⟩ := yf hx;have hi : i < ds.length := by have := (Zc.mp hy).1; have := hh.len; omega
      have e2 : ds[i]? = some ds[i] := by simp [hi]
      have hd := hh.hand i y ds[i] hy e2;have hw := h8 ds[i] (Zl hi);simp only [zh, zi, ↓reduceIte];refine ⟨y, ds[i], rfl, hd, ?_⟩;simp only [zh, zi, ↓reduceIte];refine ⟨_, .inl (.of hd.words), ?_⟩;rw [Za];refine ⟨.inr ⟨by omega, by omega⟩, rfl, some (V.ref y.t), ?_⟩;rw [Zq, e2, Zn, List.prod_append];simp only [Option.toList, ZM, Yt, List.prod_cons, List.prod_nil, Nat.mul_one, Int.natCast_mul]
    . rintro σ H4 ⟨rfl, v, rfl⟩
      simp only [zh, zi, ↓reduceIte];rw [Za, hh.len, Zt];exact q
def d9 : Sp := fun vs H Q _ => ∃ (b : Addr) (xs : List HX) (ds : List HD), vs = [.ref b] /\ HandsL H b xs ds /\ ds.length <= 4 /\ ∀ l, H l = none -> Q (.ref l) (upd H l (.lst ((ds.map HD.name).map V.str)))
theorem o4 (vx : FnAt P w K mg base "name_of" 1 ["hand"] (uz fun _ d => .str d.name)) (D : ze K mg "names_of" qc ["hands"]) : FnAt P w K mg base "names_of" 2 ["hands"] d9 := by
  refine FnAt.of D cn (fun vs H Q E h => ?_) (fun f cdv A outer s H vs Q E hr h => ?_)
  . obtain ⟨b, xs, ds, rfl, _⟩ := h
    rfl
  . obtain ⟨b, xs, ds, rfl, hh3, g4, q⟩ := h
    refine ⟨_, (@zc _ _ _ (@zl _ _ _ _ (yl ["hand"] ["hands"] rfl (@yh _ _ _ _ (pv 0)) (fun _ => (zr (i := 0) (show (["hand", "hands"] : List Str).Nodup by decide +kernel) rfl (Or.inl rfl))) (fun _ => (@ya _)) (fun _ => (zg vx (hr.mono (by decide)) rfl (za (pv 0) (@zb _)))) rfl (by decide +kernel) rfl rfl))), ?_⟩;rw [show start ["hands"] [V.ref b] = [some (V.ref b)] from rfl];simp only [zh, zi, ↓reduceIte];refine ⟨⟨_, .of hh3.at'⟩, fun d2 => ?_⟩;refine yz (xs := xs.map fun x => V.ref x.t) (PvNm H ds) ⟨rfl, rfl⟩ ?_ ?_ ?_
    . rintro i ys H4 hi ⟨rfl, rfl⟩
      refine ⟨?_, .of hh3.at'⟩;rw [Za, Za, Zj];exact Zd (ZB _ _) (Zd g4 (by decide))
    . rintro i x ys H4 hx ⟨rfl, rfl⟩
      obtain ⟨y, hy, rfl⟩ := yf hx;have hi : i < ds.length := by have := (Zc.mp hy).1; have := hh3.len; omega
      have e2 : ds[i]? = some ds[i] := by simp [hi]
      simp only [zh, zi, ↓reduceIte];refine ⟨y, ds[i], rfl, hh3.hand i y ds[i] hy e2, rfl, ?_⟩;rw [Zq, e2, Zn, Zn];rfl
    . rintro ys H4 ⟨rfl, rfl⟩ l hl
      rw [Za, hh3.len, Zt];exact q l hl
theorem vh (B : Bt mg) (vm : FnAt P w K mg base "are_names" 2 ["thing", "most"] dn) (nv : FnAt P w K mg base "is_hand" 5 ["thing", "width"] qHand) (o4 : FnAt P w K mg base "names_of" 2 ["hands"] d9) (tq : FnAt P w K mg base "count_of_rows" 2 ["hands"] za7)
    (D : ze K mg "makes_house" ui ["outcomes", "hands"]) : FnAt P w K mg base "makes_house" 6 ["outcomes", "hands"] d6 := by
  refine FnAt.of D j6 (fun vs H Q E h => ?_) (fun f cdv A outer s H vs Q E hr h => ?_)
  . obtain ⟨o, b, outs, xs, ds, rfl, _⟩ := h
    rfl
  . obtain ⟨o, b, outs, xs, ds, rfl, ho, hh, g, q⟩ := h
    refine ⟨_, (@zj _ _ _ _ _ (@yq _ _ _ _ _ _ _ _ (PW.pt (@o7 _ _ _ _ _ _ _ (@xu _ _ _ _ (wb (zg vm (hr.mono (by decide)) rfl (za (pv 0) (za (qq rfl B.k_MOST_OUTCOMES) (@zb _)))))) (@qy _ _ _ _ (@xu _ _ _ _ (wb (zn xf rfl B.isinstance yb (za (pv 1) (za (ul rfl B.list vz) (@zb _))))))))) (@zc _ _ _ (@zl _ _ _ _ (@vp _ _ _ _))) (@z0 _)) (@zj _ _ _ _ _ (@yq _ _ _ _ _ _ _ _ (@xu _ _ _ _ (wb (zn (wx rfl) rfl B.all sy (za (yl ["hand"] ["outcomes", "hands"] rfl (@yh _ _ _ _ (pv 1)) (fun _ => (zr (i := 0) (show (["hand", "outcomes", "hands"] : List Str).Nodup by decide +kernel) rfl (Or.inl rfl))) (fun _ => (@ya _)) (fun _ => (zg nv (hr.mono (by decide)) rfl (za (pv 0) (za (zn zz rfl B.len xm (za (pv 1) (@zb _))) (@zb _))))) rfl (by decide +kernel) rfl rfl) (@zb _))))) (@zc _ _ _ (@zl _ _ _ _ (@vp _ _ _ _))) (@z0 _)) (@zc _ _ _ (@zl _ _ _ _ (@uf _ _ _ _ _ _ _ (zg vm (hr.mono (by decide)) rfl (za (zg o4 (hr.mono (by decide)) rfl (za (pv 1) (@zb _))) (za (qq rfl B.k_MOST_HANDS) (@zb _)))) (@u9 _ _ _ _ _ (@ql _ _ _ _ _ _ _ _ jz (zg tq (hr.mono (by decide)) rfl (za (pv 1) (@zb _))) (qq rfl B.k_MOST_ROWS) (yk _)))))))), ?_⟩;rw [show start ["outcomes", "hands"] [V.ref o, V.ref b] = [some (V.ref o), some (V.ref b)] from rfl];simp only [zh, zi, ↓reduceIte];have g1 := g.outs1;have g2 := g.hands;refine ⟨o, outs, 8, rfl, ho, g1.1, g1.2, Zm _, g.outsG, g.outsD, fun H1 S1 => ?_⟩;simp only [zh, zi, ↓reduceIte];have hh1 := hh.mono S1;have ho1 := S1 _ _ ho;refine iteF ⟨_, .lst hh1.at', true, mn, iteF ⟨⟨_, .of hh1.at'⟩, fun d => ?_⟩⟩;refine yz (xs := xs.map fun x => V.ref x.t) (PvAT H1) ⟨Same.refl _, rfl⟩ ?_ ?_ ?_
    . rintro i ys H2 hi ⟨S, rfl⟩
      rw [Za, hh.len] at hi;exact ⟨by rw [t9]; exact Zd hi (Zd g2.2 (by decide)), S.seq (.of hh1.at')⟩
    . rintro i x ys H2 hx ⟨S, rfl⟩
      obtain ⟨y, hy, rfl⟩ := yf hx;have hi : i < ds.length := by have := (Zc.mp hy).1; have := hh.len; omega
      have e2 : ds[i]? = some ds[i] := by simp [hi]
      simp only [zh, zi, ↓reduceIte];refine ⟨_, .inl (S.seq (.of ho1)), ?_⟩;rw [Za];exact ⟨y, ds[i], outs.length, rfl, (hh1.hand i y ds[i] hy e2).mono S, g.hand (Zl hi), g1.2, fun H3 S3 => ⟨S.trans S3, uo i⟩⟩
    . rintro ys H2 ⟨S, rfl⟩ p hp
      have S2 : Same H1 (upd H2 p (.lst ((allT (xs.map fun x => V.ref x.t).length).map V.bl))) := S.trans (Same.upd (Same.refl _) hp);refine ⟨_, .of zf, ?_⟩;rw [t6];generalize upd H2 p (.lst ((allT (xs.map fun x => V.ref x.t).length).map V.bl)) = H3 at *;have hh3 := hh1.mono S2;refine iteF ⟨b, xs, ds, rfl, hh3, g2.2, fun l hl => ?_⟩;have S5 : Same H3 (upd H3 l (.lst ((ds.map HD.name).map V.str))) := Same.upd (Same.refl _) hl;refine ⟨l, ds.map HD.name, 4, rfl, zf, by rw [Za]; exact g2.1, by rw [Za]; exact g2.2, by decide, fun z hz => ?_, g.handsD, fun H6 S6 => ?_⟩
      . obtain ⟨d, hd, rfl⟩ := Zp.mp hz
        exact g.handsG d hd
      . generalize upd H3 l (.lst ((ds.map HD.name).map V.str)) = H5 at *
        have S36 := S5.trans S6;have few := g.few;refine ⟨_, rfl, iteT ⟨b, xs, ds, rfl, hh3.mono S36, fun d hd => (g.words1 d hd).2, g2.2, _, rfl, ?_⟩⟩;rw [decide_eq_true (by omega)];exact q _ (S1.trans (S2.trans S36))
theorem so (B : Bt mg) (vx : FnAt P w K mg base "name_of" 1 ["hand"] (uz fun _ d => .str d.name)) (ye : FnAt P w K mg base "words_of_hand" 1 ["hand"] (uz fun x _ => .ref x.w)) (xg : FnAt P w K mg base "worths_of_hand" 1 ["hand"] (uz fun x _ => .ref x.g))
    (D : ze K mg "kept_hand" uc ["hand"]) : FnAt P w K mg base "kept_hand" 2 ["hand"] (qKept K) := by
  refine FnAt.of D sc_kept_hand (fun vs H Q E h => ?_) (fun f cdv A outer s H vs Q E hr h => ?_)
  . obtain ⟨x, d, rfl, _⟩ := h
    rfl
  . obtain ⟨x, d, rfl, hx, h8, q⟩ := h
    refine ⟨_, (@zj _ _ _ _ _ (zw (i := 1) sc_kept_hand.nd rfl (Or.inl rfl) (yj xv rfl B.tuple xx (za (yl ["row"] ["hand", "worths"] rfl (@yh _ _ _ _ (zg xg (hr.mono (by decide)) rfl (za (pv 0) (@zb _)))) (fun _ => (zr (i := 0) (show (["row", "hand", "worths"] : List Str).Nodup by decide +kernel) rfl (Or.inl rfl))) (fun _ => (@ya _)) (fun _ => (yj xv rfl B.tuple xx (za (pv 0) (@zb _)))) rfl (by decide +kernel) rfl rfl) (@zb _)))) (@zc _ _ _ (@zl _ _ _ _ (@xy _ _ _ _ _ (za (zg vx (hr.mono (by decide)) rfl (za (pv 0) (@zb _))) (za (yj xv rfl B.tuple xx (za (zg ye (hr.mono (by decide)) rfl (za (pv 0) (@zb _))) (@zb _))) (za (pv 1) (@zb _)))))))), ?_⟩;rw [show start ["hand", "worths"] [V.ref x.t] = [some (V.ref x.t), none] from rfl];simp only [zh, zi, ↓reduceIte];refine ⟨x, d, rfl, hx, ?_⟩;simp only [zh, zi, ↓reduceIte];refine ⟨⟨_, .of hx.grid⟩, fun dd => ?_⟩;refine yz (xs := x.gs.map V.ref) (PvE K d.worths H) ⟨Same.refl _, rfl, TrsAt.nil⟩ ?_ ?_ ?_
    . rintro i ys H2 hi ⟨S, ly, _⟩
      rw [Za, hx.len] at hi;exact ⟨by rw [ly]; exact Zd hi (Zd h8 (by decide)), S.seq (.of hx.grid)⟩
    . rintro i y ys H2 hy ⟨S, ly, ty⟩
      obtain ⟨r, hr', rfl⟩ := yf hy;have hi : i < d.worths.length := by have := (Zc.mp hr').1; have := hx.len; omega
      have e2 : d.worths[i]? = some d.worths[i] := by simp [hi]
      simp only [zh, zi, ↓reduceIte];refine ⟨_, S.seq (.of (hx.row i r _ hr' e2)), fun l hl => ?_⟩;have S3 : Same H2 (upd H2 l (.tup ((d.worths[i]).map V.int))) := Same.upd (Same.refl _) hl;refine ⟨S.trans S3, by simp [ly], ?_⟩;rw [Zq, e2, Zn];exact TrsAt.append (TrsAt.mono S3 ty) (TrsAt.cons (TrAt.tp (.of zf) (ij _)) TrsAt.nil)
    . rintro ys H2 ⟨S, ly, ty⟩ l hl
      rw [Za, hx.len, Zt] at ty;have S3 : Same H2 (upd H2 l (.lst ys)) := Same.upd (Same.refl _) hl;refine ⟨_, .of zf, fun l1 hl1 => ?_⟩;generalize upd H2 l (.lst ys) = H3 at *;have S4 : Same H3 (upd H3 l1 (.tup ys)) := Same.upd (Same.refl _) hl1;have h4 : upd H3 l1 (.tup ys) l1 = some (.tup ys) := zf;generalize upd H3 l1 (.tup ys) = H4 at *;have S24 := S.trans (S3.trans S4);refine ⟨x, d, rfl, hx.mono S24, x, d, rfl, hx.mono S24, x.w, rfl, _, .of (hx.mono S24).words, fun l2 hl2 => ⟨by decide, fun p hp => ?_⟩⟩;have S5 : Same H4 (upd H4 l2 (.tup (d.words.map V.str))) := Same.upd (Same.refl _) hl2;have h5 : upd H4 l2 (.tup (d.words.map V.str)) l2 = some (.tup (d.words.map V.str)) := zf;generalize upd H4 l2 (.tup (d.words.map V.str)) = H5 at *;have S6 : Same H5 (upd H5 p (.tup [V.str d.name, V.ref l2, V.ref l1])) := Same.upd (Same.refl _) hp;refine q _ p (S24.trans (S5.trans S6)) (TrAt.tp (.of zf) (TrsAt.cons (TrAt.lf rfl) (TrsAt.cons (TrAt.tp (.of (S6 _ _ h5)) (mx _)) (TrsAt.cons (TrAt.tp (.of ((S5.trans S6) _ _ h4)) (TrsAt.mono (S3.trans (S4.trans (S5.trans S6))) ty)) TrsAt.nil))))
theorem jh (B : Bt mg) (C : Ct K mg a) (vh : FnAt P w K mg base "makes_house" 6 ["outcomes", "hands"] d6) (so : FnAt P w K mg base "kept_hand" 2 ["hand"] (qKept K)) (D : ze K mg "house_of" u0 ["outcomes", "hands"]) : FnAtX P w K mg base "house_of" 7 ["outcomes", "hands"] (zdq K) := by
  refine FnAtX.of D lq (fun vs H Q E h => ?_) (fun f cdv A outer s H vs Q E hr h => ?_)
  . obtain ⟨o, b, outs, xs, ds, rfl, _⟩ := h
    rfl
  . obtain ⟨o, b, outs, xs, ds, rfl, ho, hh, g, q⟩ := h
    refine ⟨_, (@zj _ _ _ _ _ (@yq _ _ _ _ _ _ _ _ (@xu _ _ _ _ (wb (zg vh (hr.mono (by decide)) rfl (za (pv 0) (za (pv 1) (@zb _)))))) (@zc _ _ _ (tz rfl C.q_NoHouse.toErr rfl C.m_NoHouse (vi rfl) (za (@ud _ _ _ _) (@zb _)))) (@z0 _)) (@zc _ _ _ (PS.nox (@zl _ _ _ _ (@xy _ _ _ _ _ (za (yj xv rfl B.tuple xx (za (pv 0) (@zb _))) (za (yj xv rfl B.tuple xx (za (yl ["hand"] ["outcomes", "hands"] rfl (@yh _ _ _ _ (pv 1)) (fun _ => (zr (i := 0) (show (["hand", "outcomes", "hands"] : List Str).Nodup by decide +kernel) rfl (Or.inl rfl))) (fun _ => (@ya _)) (fun _ => (zg so (hr.mono (by decide)) rfl (za (pv 0) (@zb _)))) rfl (by decide +kernel) rfl rfl) (@zb _))) (@zb _)))))))), ?_⟩;rw [show start ["outcomes", "hands"] [V.ref o, V.ref b] = [some (V.ref o), some (V.ref b)] from rfl];simp only [zh, zi, ↓reduceIte];have g2 := g.hands;refine ⟨o, b, outs, xs, ds, rfl, ho, hh, g, fun H1 S1 => ?_⟩;simp only [zh, zi, ↓reduceIte];have hh1 := hh.mono S1;have ho1 := S1 _ _ ho;refine iteF ⟨_, .of ho1, fun l hl => ?_⟩;have S2 : Same H1 (upd H1 l (.tup (outs.map V.str))) := Same.upd (Same.refl _) hl;have h2 : upd H1 l (.tup (outs.map V.str)) l = some (.tup (outs.map V.str)) := zf;generalize upd H1 l (.tup (outs.map V.str)) = H2 at *;have hh2 := hh1.mono S2;refine ⟨⟨_, .of hh2.at'⟩, fun d => ?_⟩;refine yz (xs := xs.map fun x => V.ref x.t) (PvD K ds H2) ⟨Same.refl _, rfl, TrsAt.nil⟩ ?_ ?_ ?_
    . rintro i ys H3 hi ⟨S, ly, _⟩
      rw [Za, hh.len] at hi;exact ⟨by rw [ly]; exact Zd hi (Zd g2.2 (by decide)), S.seq (.of hh2.at')⟩
    . rintro i y ys H3 hy ⟨S, ly, ty⟩
      obtain ⟨x, hx, rfl⟩ := yf hy;have hi : i < ds.length := by have := (Zc.mp hx).1; have := hh.len; omega
      have e2 : ds[i]? = some ds[i] := by simp [hi]
      have hm := Zl hi;have r8 : (ds[i]).worths.length <= 8 := by rw [g.rows _ hm]; exact (g.words1 _ hm).2
      simp only [zh, zi, ↓reduceIte];refine ⟨x, ds[i], rfl, (hh2.hand i x ds[i] hx e2).mono S, r8, fun H4 p S4 tp => ?_⟩;refine ⟨S.trans S4, by simp [ly], ?_⟩;rw [Zq, e2, Zn];exact TrsAt.append (TrsAt.mono S4 ty) (TrsAt.cons tp TrsAt.nil)
    . rintro ys H3 ⟨S, ly, ty⟩ l1 hl1
      rw [Za, hh.len, Zt] at ty;have S4 : Same H3 (upd H3 l1 (.lst ys)) := Same.upd (Same.refl _) hl1;refine ⟨_, .of zf, fun l2 hl2 => ⟨by decide, fun p hp => ?_⟩⟩;generalize upd H3 l1 (.lst ys) = H4 at *;have S5 : Same H4 (upd H4 l2 (.tup ys)) := Same.upd (Same.refl _) hl2;have h5 : upd H4 l2 (.tup ys) l2 = some (.tup ys) := zf;generalize upd H4 l2 (.tup ys) = H5 at *;have S6 : Same H5 (upd H5 p (.tup [V.ref l, V.ref l2])) := Same.upd (Same.refl _) hp;have S36 := S4.trans (S5.trans S6);exact q _ p _ (S1.trans (S2.trans (S.trans S36))) zf (TrAt.tp (.of zf) (TrsAt.cons (TrAt.tp (.of ((S.trans S36) _ _ h2)) (mx _)) (TrsAt.cons (TrAt.tp (.of (S6 _ _ h5)) (TrsAt.mono S36 ty)) TrsAt.nil)))
end
section
variable {α : Type}
def xp (r : List α) (ws : List α) : List (List α) := ws.map fun w => r ++ [w]
def xl (rs : List (List α)) (ws : List α) : List (List α) := (rs.map fun r => xp r ws).flatten
def yi (wss : List (List α)) : List (List α) := wss.foldl xl [[]]
theorem aq (wss : List (List α)) (ws : List α) : yi (wss ++ [ws]) = xl (yi wss) ws := by simp [yi]
theorem j0 (r : List α) (rs : List (List α)) (ws : List α) : xl (r :: rs) ws = xp r ws ++ xl rs ws := by simp [xl]
theorem jj (rs : List (List α)) (r : List α) (ws : List α) : xl (rs ++ [r]) ws = xl rs ws ++ xp r ws := by simp [xl]
theorem se (r : List α) (ws : List α) : (xp r ws).length = ws.length := by simp [xp]
theorem rb (ws : List α) : ∀ rs : List (List α), (xl rs ws).length = rs.length * ws.length
  | [] => by simp [xl]
  | r :: rs => by rw [j0, Zo, se, rb ws rs, ZQ, Nat.succ_mul, Nat.add_comm]
theorem w6 {wss : List (List α)} {j : Nat} {ws : List α} (h : wss[j]? = some ws) : yi (wss.take (j + 1)) = xl (yi (wss.take j)) ws := by
  rw [Zq, h];exact aq _ _
theorem gf (wss : List (List α)) : (yi wss).length = (wss.map List.length).prod := by
  have : ∀ n, n <= wss.length -> (yi (wss.take n)).length = ((wss.take n).map List.length).prod := by
    intro n
    induction n with
    | zero => intro _; rfl
    | succ n ih =>
      intro h;have e : wss[n]? = some wss[n] := Zb (by omega);rw [w6 e, rb, ih (by omega), Zq, e, Zn, List.prod_append];simp
  have := this wss.length (Zm _)
  rwa [Zt] at this
theorem mf {rs : List (List α)} {ws : List α} {row : List α} (h : row ∈ xl rs ws) : ∃ r w, r ∈ rs /\ w ∈ ws /\ row = r ++ [w] := by
  simp only [xl, xp, Yq, Zp] at h;obtain ⟨l, ⟨r, hr, rfl⟩, h⟩ := h;obtain ⟨w, hw, rfl⟩ := Zp.mp h;exact ⟨r, w, hr, hw, rfl⟩
theorem l8 (wss : List (List α)) : ∀ n, n <= wss.length -> ∀ row ∈ yi (wss.take n), row.length = n := by
  intro n
  induction n with
  | zero => intro _ row h; simp [yi] at h; simp [h]
  | succ n ih =>
    intro h row hr;have e : wss[n]? = some wss[n] := Zb (by omega);rw [w6 e] at hr;obtain ⟨r, w, h1, _, rfl⟩ := mf hr;simp [ih (by omega) r h1]
end
structure TupsAt (H : Hp) (as : List Addr) (rs : List (List Str)) : Prop where
  len : as.length = rs.length
  at' : ∀ (i : Nat) (a : Addr) (r : List Str), as[i]? = some a -> rs[i]? = some r -> H a = some (.tup (r.map V.str))
theorem TupsAt.nil {H : Hp} : TupsAt H [] [] := ⟨rfl, fun i a r e => by simp at e⟩
theorem TupsAt.mono {H H' : Hp} {as : List Addr} {rs : List (List Str)} (S : Same H H') (h : TupsAt H as rs) : TupsAt H' as rs := ⟨h.len, fun i a r e1 e2 => S _ _ (h.at' i a r e1 e2)⟩
theorem TupsAt.append {H : Hp} {as bs : List Addr} {rs qs : List (List Str)} (h1 : TupsAt H as rs) (h2 : TupsAt H bs qs) : TupsAt H (as ++ bs) (rs ++ qs) := by
  refine ⟨by simp [h1.len, h2.len], fun i a r e1 e2 => ?_⟩
  by_cases hi : i < as.length
  . rw [Zg hi] at e1
    rw [Zg (by rw [<- h1.len]; exact hi)] at e2;exact h1.at' i a r e1 e2
  . rw [Zf (ZD.mp hi)] at e1
    rw [Zf (by rw [<- h1.len]; exact ZD.mp hi)] at e2;rw [h1.len] at e1;exact h2.at' _ a r e1 e2
theorem TupsAt.one {H : Hp} {a : Addr} {r : List Str} (h : H a = some (.tup (r.map V.str))) : TupsAt H [a] [r] := ⟨rfl, fun i b q e1 e2 => by
  cases i with
  | zero =>
    simp at e1 e2;subst e1 e2;exact h
  | succ i => simp at e1⟩
theorem TupsAt.past {H : Hp} {p : Addr} {xs ys : List V} {as : List Addr} {rs : List (List Str)} (hp : H p = some (.lst xs)) (h : TupsAt H as rs) : TupsAt (upd H p (.lst ys)) as rs :=
  ⟨h.len, fun i a r e1 e2 => by
    have := h.at' i a r e1 e2;rw [zp (fun e => by rw [e, hp] at this; cases this)]
    exact this⟩
structure RwsAt (H : Hp) (l : Addr) (as : List Addr) (rs : List (List Str)) : Prop where
  lst : H l = some (.lst (as.map V.ref))
  tups : TupsAt H as rs
theorem RwsAt.mono {H H' : Hp} {l : Addr} {as : List Addr} {rs : List (List Str)} (S : Same H H') (h : RwsAt H l as rs) : RwsAt H' l as rs := ⟨S _ _ h.lst, h.tups.mono S⟩
structure KHand (K : Fg) (H : Hp) (t : Addr) (d : HD) (w g : Addr) (gs : List Addr) : Prop where
  tup : SqT K H t [.str d.name, .ref w, .ref g]
  words : SqT K H w (d.words.map V.str)
  grid : SqT K H g (gs.map V.ref)
  len : gs.length = d.worths.length
  row : ∀ (i : Nat) (r : Addr) (ns : List Int), gs[i]? = some r -> d.worths[i]? = some ns -> SqT K H r (ns.map V.int)
def KHands (K : Fg) (H : Hp) (hs : List Addr) (ds : List HD) : Prop := hs.length = ds.length /\ ∀ (i : Nat) (t : Addr) (d : HD), hs[i]? = some t -> ds[i]? = some d -> ∃ w g gs, KHand K H t d w g gs
structure KHouse (K : Fg) (H : Hp) (p o h : Addr) (hs : List Addr) (outs : List Str) (ds : List HD) : Prop where
  tup : SqT K H p [.ref o, .ref h]
  outs : SqT K H o (outs.map V.str)
  hands : SqT K H h (hs.map V.ref)
  hand : KHands K H hs ds
theorem KHand.mono {K : Fg} {H H' : Hp} {t : Addr} {d : HD} {w g : Addr} {gs : List Addr} (S : Same H H') (h : KHand K H t d w g gs) : KHand K H' t d w g gs :=
  ⟨S.seqT h.tup, S.seqT h.words, S.seqT h.grid, h.len, fun i r ns e1 e2 => S.seqT (h.row i r ns e1 e2)⟩
theorem KHands.mono {K : Fg} {H H' : Hp} {hs : List Addr} {ds : List HD} (S : Same H H') (h : KHands K H hs ds) : KHands K H' hs ds :=
  ⟨h.1, fun i t d e1 e2 => by
    obtain ⟨w, g, gs, q⟩ := h.2 i t d e1 e2
    exact ⟨w, g, gs, q.mono S⟩⟩
theorem KHouse.mono {K : Fg} {H H' : Hp} {p o h : Addr} {hs : List Addr} {outs : List Str} {ds : List HD} (S : Same H H') (q : KHouse K H p o h hs outs ds) : KHouse K H' p o h hs outs ds :=
  ⟨S.seqT q.tup, S.seqT q.outs, S.seqT q.hands, q.hand.mono S⟩
def va (K : Fg) (j : Nat) : Sp := fun vs H Q _ => ∃ (t : Addr) (us : List V) (v : V), vs = [.ref t] /\ SqT K H t us /\ us[j]? = some v /\ Q v H
def zas (K : Fg) : Sp := fun vs H Q _ => ∃ (l wd : Addr) (as : List Addr) (rs : List (List Str)) (ws : List Str), vs = [.ref l, .ref wd] /\ RwsAt H l as rs /\ SqT K H wd (ws.map V.str) /\ rs.length <= 4096 /\ ws.length <= 8 /\ (∀ r ∈ rs, r.length <= 8) /\
  ∀ H' l' as', Same H H' -> H l' = none -> RwsAt H' l' as' (xl rs ws) -> Q (.ref l') H'
def PvEach (l wd p : Addr) (rs : List (List Str)) (ws : List Str) (H : Hp) (i : Nat) (σ : L2.St) (H' : Hp) : Prop := ∃ (as' : List Addr) (v : Option V), H' p = some (.lst (as'.map V.ref)) /\ TupsAt H' as' (xl (rs.take i) ws) /\ Same H H' /\ σ = [some (.ref l), some (.ref wd), some (.ref p), v]
def PvLong (r ws : List Str) (H : Hp) (i : Nat) (ys : List V) (H' : Hp) : Prop := ∃ as' : List Addr, ys = as'.map V.ref /\ TupsAt H' as' (xp r (ws.take i)) /\ Same H H'
def zbi (K : Fg) : Sp := fun vs H Q _ => ∃ (h : Addr) (hs : List Addr) (ds : List HD), vs = [.ref h] /\ SqT K H h (hs.map V.ref) /\ KHands K H hs ds /\ ds.length <= 4 /\ (∀ d ∈ ds, d.words.length <= 8) /\
  ∀ H' l as, Same H H' -> H l = none -> RwsAt H' l as (yi (ds.map HD.words)) -> Q (.ref l) H'
def PvOver (h : Addr) (ds : List HD) (H : Hp) (i : Nat) (σ : L2.St) (H' : Hp) : Prop := ∃ (l : Addr) (as : List Addr) (v : Option V), H l = none /\ RwsAt H' l as (yi ((ds.map HD.words).take i)) /\ Same H H' /\ σ = [some (.ref h), some (.ref l), v]
def kr (K : Fg) : Sp := fun vs H Q _ => ∃ (p o h : Addr) (hs : List Addr) (outs : List Str) (ds : List HD), vs = [.ref p] /\ KHouse K H p o h hs outs ds /\ ds.length <= 4 /\ (∀ d ∈ ds, d.words.length <= 8) /\
  ∀ H' l as, Same H H' -> H l = none -> RwsAt H' l as (yi (ds.map HD.words)) -> Q (.ref l) H'
theorem kj {wss : List (List Str)} (h4 : wss.length <= 4) (h8 : ∀ ws ∈ wss, ws.length <= 8) (n : Nat) (hn : n <= wss.length) : (yi (wss.take n)).length <= 4096 := by
  have : ∀ m, m <= wss.length -> (yi (wss.take m)).length <= 8 ^ m := by
    intro m
    induction m with
    | zero => intro _; exact Zm _
    | succ m ih =>
      intro h;have e : wss[m]? = some wss[m] := Zb (by omega);rw [w6 e, rb, Nat.pow_succ];exact Yl (ih (by omega)) (h8 _ (Zl (by omega)))
  exact Zd (this n hn) (Nat.pow_le_pow_right (by decide) (show n <= 4 by omega))
section
variable {P : Program} {w : World} {K : Fg} {mg : Str -> Option Value} {base : Heap}
theorem zaj (D : ze K mg "hands_of" rq ["house"]) : FnAt P w K mg base "hands_of" 1 ["house"] (va K 1) := by
  refine FnAt.of D c8 (fun vs H Q E h => ?_) (fun f cdv A outer s H vs Q E hr h => ?_)
  . obtain ⟨t, us, v, rfl, _⟩ := h
    rfl
  . obtain ⟨t, us, v, rfl, ht, e, q⟩ := h
    refine ⟨_, (@zc _ _ _ (@zl _ _ _ _ (@xh _ _ _ _ _ _ _ wa (pv 0) (@zd _ _ _ _) (fun _ _ => rfl)))), ?_⟩;rw [show start ["house"] [V.ref t] = [some (V.ref t)] from rfl];simp only [zh, zi, ↓reduceIte];exact ⟨_, ht, _, yr (j := 1) e, q⟩
theorem j2 (D : ze K mg "words_of_hand" wq ["hand"]) : FnAt P w K mg base "words_of_hand" 1 ["hand"] (va K 1) := by
  refine FnAt.of D qr (fun vs H Q E h => ?_) (fun f cdv A outer s H vs Q E hr h => ?_)
  . obtain ⟨t, us, v, rfl, _⟩ := h
    rfl
  . obtain ⟨t, us, v, rfl, ht, e, q⟩ := h
    refine ⟨_, (@zc _ _ _ (@zl _ _ _ _ (@xh _ _ _ _ _ _ _ wa (pv 0) (@zd _ _ _ _) (fun _ _ => rfl)))), ?_⟩;rw [show start ["hand"] [V.ref t] = [some (V.ref t)] from rfl];simp only [zh, zi, ↓reduceIte];exact ⟨_, ht, _, yr (j := 1) e, q⟩
theorem p9 (B : Bt mg) (D : ze K mg "with_each" sg ["rows", "words"]) : FnAt P w K mg base "with_each" 1 ["rows", "words"] (zas K) := by
  refine FnAt.of D sc_with_each (fun vs H Q E h => ?_) (fun f cdv A outer s H vs Q E hr h => ?_)
  . obtain ⟨l, wd, as, rs, ws, rfl, _⟩ := h
    rfl
  . obtain ⟨l, wd, as, rs, ws, rfl, hR, hW, b1, b2, b3, q⟩ := h
    refine ⟨_, (@zj _ _ _ _ _ (zw (i := 2) sc_with_each.nd rfl (Or.inl rfl) (@u6 _ _ _ _ (@zb _))) (@zj _ _ _ _ _ (vc PassesOwn.never rfl (@yh _ _ _ _ (pv 0)) (zr (i := 3) sc_with_each.nd rfl (Or.inr rfl)) (@zc _ _ _ (wk (pq PySem.F.plainAttrs_list PySem.F.slot_list_extend PySem.F.type_list_extend zb8 (pv 2) (za (yl ["word"] ["rows", "words", "longer", "row"] rfl (@fv _ _ _ _ (pv 1)) (fun _ => (zr (i := 0) (show (["word", "rows", "words", "longer", "row"] : List Str).Nodup by decide +kernel) rfl (Or.inl rfl))) (fun _ => (@ya _)) (fun _ => (@zm _ _ _ _ _ _ _ _ ai (pv 4) (@xy _ _ _ _ _ (za (pv 0) (@zb _))))) rfl (by decide +kernel) rfl rfl) (@zb _)))))) (@zc _ _ _ (@zl _ _ _ _ (pv 2))))), ?_⟩;rw [show start ["rows", "words", "longer", "row"] [V.ref l, V.ref wd] = [some (V.ref l), some (V.ref wd), none, none] from rfl];simp only [zh, zi, ↓reduceIte];refine ⟨by decide, fun p hp => ?_⟩;have S1 : Same H (upd H p (.lst [])) := Same.upd (Same.refl _) hp;refine ⟨⟨_, .of (S1 _ _ hR.lst)⟩, ?_⟩;refine sd (xs := as.map V.ref) (PvEach l wd p rs ws H) ⟨[], _, zf, TupsAt.nil, S1, rfl⟩ ?_ ?_ ?_
    . rintro i σ H' hi ⟨as', v, h1, h2, S, rfl⟩
      exact .of (S _ _ hR.lst)
    . rintro i x σ H' hx ⟨as', v, h1, h2, S, rfl⟩
      obtain ⟨a, ha, rfl⟩ := yf hx;have hi : i < rs.length := by have := (Zc.mp ha).1; have := hR.tups.len; omega
      have er : rs[i]? = some rs[i] := Zb hi;have hrow := hR.tups.at' i a _ ha er;have hr8 := b3 _ (Zl hi);simp only [zh, zi, ↓reduceIte];refine ⟨.inl ⟨rfl, _, .of h1⟩, ⟨_, S.seqT hW⟩, fun d => ?_⟩;refine fz (xs := ws.map V.str) (PvLong rs[i] ws H') ⟨[], rfl, TupsAt.nil, Same.refl _⟩ ?_ ?_ ?_
      . rintro j ys H2 hj ⟨bs, rfl, t2, S2⟩
        refine ⟨?_, S2.seqT (S.seqT hW)⟩;rw [Za, t2.len, se, Zj];exact Zd (ZB _ _) (Zd b2 (by decide))
      . rintro j y ys H2 hy ⟨bs, rfl, t2, S2⟩
        obtain ⟨z, hz, rfl⟩ := yf hy;simp only [zh, zi, ↓reduceIte];refine ⟨by decide, fun c hc => ?_⟩;have S3 : Same H2 (upd H2 c (.tup [V.str z])) := Same.upd (Same.refl _) hc;refine ⟨_, (S.trans (S2.trans S3)) _ _ hrow, _, zf, ?_, fun H4 e S4 he => ?_⟩
        . rw [Za]
          exact Zd (show _ <= 9 by simp; omega) (by decide)
        . refine ⟨bs ++ [e], by simp, ?_, S2.trans (S3.trans S4)⟩
          rw [Zq, hz]
          show TupsAt H4 (bs ++ [e]) (xp _ (ws.take j ++ [z]))
          rw [xp, Zn];exact (t2.mono (S3.trans S4)).append (TupsAt.one (by rw [he]; simp))
      . rintro ys H2 ⟨bs, rfl, t2, S2⟩ l2 hl2
        rw [Za, Zt] at t2;have S3 : Same H2 (upd H2 l2 (.lst (bs.map V.ref))) := Same.upd (Same.refl _) hl2;have h3 : upd H2 l2 (.lst (bs.map V.ref)) l2 = some (.lst (bs.map V.ref)) := zf;generalize upd H2 l2 (.lst (bs.map V.ref)) = H3 at *;have hp3 := (S2.trans S3) _ _ h1;refine ⟨_, hp3, _, h3, ?_, ?_⟩
        . rw [Za, Za, h2.len, t2.len, se, rb, Zj]
          have : min i rs.length * ws.length <= 4096 * 8 := Yl (by omega) b2;exact Zd (show _ <= 4096 * 8 + 8 by omega) (by decide)
        . refine ⟨as' ++ bs, _, by rw [zf, Zn], ?_, Same.upd (S.trans (S2.trans S3)) hp, rfl⟩
          rw [Zq, er]
          show TupsAt _ _ (xl (rs.take i ++ [rs[i]]) ws)
          rw [jj];exact ((h2.mono (S2.trans S3)).append (t2.mono S3)).past hp3
    . rintro σ H' ⟨as', v, h1, h2, S, rfl⟩
      simp only [zh, zi, ↓reduceIte];rw [Za, hR.tups.len, Zt] at h2;exact q H' p as' S hp ⟨h1, h2⟩
theorem p8 (B : Bt mg) (p9 : FnAt P w K mg base "with_each" 1 ["rows", "words"] (zas K)) (ye : FnAt P w K mg base "words_of_hand" 1 ["hand"] (va K 1)) (D : ze K mg "rows_over" si ["hands"]) : FnAt P w K mg base "rows_over" 2 ["hands"] (zbi K) := by
  refine FnAt.of D sc_rows_over (fun vs H Q E h => ?_) (fun f cdv A outer s H vs Q E hr h => ?_)
  . obtain ⟨b, hs, ds, rfl, _⟩ := h
    rfl
  . obtain ⟨b, hs, ds, rfl, hH, hK, h4, h8, q⟩ := h
    refine ⟨_, (@zj _ _ _ _ _ (@zw _ _ 1 _ _ _ _ sc_rows_over.nd rfl (Or.inl rfl) (@u6 _ _ _ _ (@za _ _ _ _ _ (@xy _ _ _ _ _ (@zb _)) (@zb _) (zy nofun))) rfl (Or.inl rfl)) (@zj _ _ _ _ _ (vc PassesOwn.never rfl (@fv _ _ _ _ (pv 0)) (zr (i := 2) sc_rows_over.nd rfl (Or.inl rfl)) (@zc _ _ _ (zw (i := 1) sc_rows_over.nd rfl (Or.inl rfl) (zg p9 (hr.mono (by decide)) rfl (za (pv 1) (za (zg ye (hr.mono (by decide)) rfl (za (pv 2) (@zb _))) (@zb _))))))) (@zc _ _ _ (@zl _ _ _ _ (pv 1))))), ?_⟩;rw [show start ["hands", "rows", "hand"] [V.ref b] = [some (V.ref b), none, none] from rfl];simp only [zh, zi, ↓reduceIte];refine ⟨by decide, fun c hc => ⟨by decide, fun p hp => ?_⟩⟩;have S1 : Same H (upd H c (.tup [])) := Same.upd (Same.refl _) hc;have h1 : upd H c (.tup []) c = some (.tup []) := zf;generalize upd H c (.tup []) = H1 at *;have S2 : Same H1 (upd H1 p (.lst [V.ref c])) := Same.upd (Same.refl _) hp;have h2 : upd H1 p (.lst [V.ref c]) p = some (.lst [V.ref c]) := zf;generalize upd H1 p (.lst [V.ref c]) = H2 at *;have S := S1.trans S2;refine ⟨⟨_, S.seqT hH⟩, ?_⟩;refine ze7 (xs := hs.map V.ref) (PvOver b ds H) ⟨p, [c], _, S1.free hp, ⟨h2, TupsAt.one (S2 _ _ h1)⟩, S, rfl⟩ ?_ ?_ ?_
    . rintro i σ H' hi ⟨l, as, v, hl, hR, S', rfl⟩
      exact S'.seqT hH
    . rintro i x σ H' hx ⟨l, as, v, hl, hR, S', rfl⟩
      obtain ⟨t, ht, rfl⟩ := yf hx;have hi : i < ds.length := by have := (Zc.mp ht).1; have := hK.1; omega
      have ed : ds[i]? = some ds[i] := Zb hi;obtain ⟨wd, g, gs, hd⟩ := (hK.mono S').2 i t _ ht ed;simp only [zh, zi, ↓reduceIte];refine ⟨t, _, _, rfl, hd.tup, rfl, ?_⟩;have ew : (ds.map HD.words)[i]? = some ds[i].words := by rw [Ze, ed]; rfl
      have hb : ∀ r ∈ yi ((ds.map HD.words).take i), r.length <= 8 := fun r hr => by
        have := l8 (ds.map HD.words) i (by rw [Za]; omega) r hr;omega
      refine ⟨l, wd, as, _, ds[i].words, rfl, hR, hd.words, kj (by rw [Za]; exact h4) (fun ws hws => ?_) i (by rw [Za]; omega), h8 _ (Zl hi), hb, fun H3 l3 as3 S3 hl3 R3 => ?_⟩
      . obtain ⟨d, hd, rfl⟩ := Zp.mp hws
        exact h8 d hd
      . simp only [zh, zi, ↓reduceIte]
        refine ⟨l3, as3, _, S'.free hl3, ?_, S'.trans S3, rfl⟩;rw [w6 ew];exact R3
    . rintro σ H' ⟨l, as, v, hl, hR, S', rfl⟩
      simp only [zh, zi, ↓reduceIte];rw [Za, hK.1, ZG (by rw [Za]; omega)] at hR;exact q H' l as S' hl hR
theorem re (B : Bt mg) (p8 : FnAt P w K mg base "rows_over" 2 ["hands"] (zbi K)) (f_hands_of : FnAt P w K mg base "hands_of" 1 ["house"] (va K 1)) (D : ze K mg "rows_of" p4 ["house"]) : FnAt P w K mg base "rows_of" 3 ["house"] (kr K) := by
  refine FnAt.of D zac (fun vs H Q E h => ?_) (fun f cdv A outer s H vs Q E hr h => ?_)
  . obtain ⟨p, o, a, hs, outs, ds, rfl, _⟩ := h
    rfl
  . obtain ⟨p, o, a, hs, outs, ds, rfl, hH, h4, h8, q⟩ := h
    refine ⟨_, (@zc _ _ _ (@zl _ _ _ _ (zg p8 (hr.mono (by decide)) rfl (za (zg f_hands_of (hr.mono (by decide)) rfl (za (pv 0) (@zb _))) (@zb _))))), ?_⟩;rw [show start ["house"] [V.ref p] = [some (V.ref p)] from rfl];simp only [zh, zi, ↓reduceIte];exact ⟨p, _, _, rfl, hH.tup, rfl, a, hs, ds, rfl, hH.hands, hH.hand, h4, h8, q⟩
end
structure HHand (H : Hp) (t : Addr) (d : HD) (w g : Addr) (gs : List Addr) : Prop where
  tup : H t = some (.tup [.str d.name, .ref w, .ref g])
  words : H w = some (.tup (d.words.map V.str))
  grid : H g = some (.tup (gs.map V.ref))
  len : gs.length = d.worths.length
  row : ∀ (i : Nat) (r : Addr) (ns : List Int), gs[i]? = some r -> d.worths[i]? = some ns -> H r = some (.tup (ns.map V.int))
theorem HHand.mono {H H' : Hp} {t : Addr} {d : HD} {w g : Addr} {gs : List Addr} (S : Same H H') (h : HHand H t d w g gs) : HHand H' t d w g gs :=
  ⟨S _ _ h.tup, S _ _ h.words, S _ _ h.grid, h.len, fun i r ns e1 e2 => S _ _ (h.row i r ns e1 e2)⟩
theorem HHand.k {K : Fg} {H : Hp} {t : Addr} {d : HD} {w g : Addr} {gs : List Addr} (h : HHand H t d w g gs) : KHand K H t d w g gs :=
  ⟨.of h.tup, .of h.words, .of h.grid, h.len, fun i r ns e1 e2 => .of (h.row i r ns e1 e2)⟩
def HHands (H : Hp) (hs : List Addr) (ds : List HD) : Prop := hs.length = ds.length /\ ∀ (i : Nat) (t : Addr) (d : HD), hs[i]? = some t -> ds[i]? = some d -> ∃ w g gs, HHand H t d w g gs
theorem HHands.mono {H H' : Hp} {hs : List Addr} {ds : List HD} (S : Same H H') (h : HHands H hs ds) : HHands H' hs ds :=
  ⟨h.1, fun i t d e1 e2 => by
    obtain ⟨w, g, gs, q⟩ := h.2 i t d e1 e2
    exact ⟨w, g, gs, q.mono S⟩⟩
theorem HHands.snoc {H : Hp} {hs : List Addr} {ds : List HD} {t : Addr} {d : HD} {w g : Addr} {gs : List Addr} (h : HHands H hs ds) (q : HHand H t d w g gs) : HHands H (hs ++ [t]) (ds ++ [d]) := by
  refine ⟨by simp [h.1], fun i a e e1 e2 => ?_⟩
  by_cases hi : i < hs.length
  . rw [Zg hi] at e1
    rw [Zg (by rw [<- h.1]; exact hi)] at e2;exact h.2 i a e e1 e2
  . rw [Zf (ZD.mp hi)] at e1
    rw [Zf (by rw [<- h.1]; exact ZD.mp hi)] at e2
    have h0 : i - hs.length = 0 := by
      have := (Zc.mp e1).1;simp at this;omega
    rw [h0] at e1;rw [<- h.1, h0] at e2;simp at e1 e2;subst e1 e2;exact ⟨w, g, gs, q⟩
structure HHouse (H : Hp) (p o h : Addr) (hs : List Addr) (outs : List Str) (ds : List HD) : Prop where
  tup : H p = some (.tup [.ref o, .ref h])
  outs : H o = some (.tup (outs.map V.str))
  hands : H h = some (.tup (hs.map V.ref))
  hand : HHands H hs ds
theorem HHouse.mono {H H' : Hp} {p o h : Addr} {hs : List Addr} {outs : List Str} {ds : List HD} (S : Same H H') (q : HHouse H p o h hs outs ds) : HHouse H' p o h hs outs ds :=
  ⟨S _ _ q.tup, S _ _ q.outs, S _ _ q.hands, q.hand.mono S⟩
theorem HHouse.k {K : Fg} {H : Hp} {p o h : Addr} {hs : List Addr} {outs : List Str} {ds : List HD} (q : HHouse H p o h hs outs ds) : KHouse K H p o h hs outs ds :=
  ⟨.of q.tup, .of q.outs, .of q.hands, q.hand.1, fun i t d e1 e2 => by
    obtain ⟨w, g, gs, z⟩ := q.hand.2 i t d e1 e2
    exact ⟨w, g, gs, z.k⟩⟩
structure IntTs (H : Hp) (ls : List Addr) (ps : List (List Int)) : Prop where
  len : ls.length = ps.length
  at' : ∀ (i : Nat) (l : Addr) (p : List Int), ls[i]? = some l -> ps[i]? = some p -> H l = some (.tup (p.map V.int))
theorem IntTs.mono {H H' : Hp} {ls : List Addr} {ps : List (List Int)} (S : Same H H') (h : IntTs H ls ps) : IntTs H' ls ps := ⟨h.len, fun i l p e1 e2 => S _ _ (h.at' i l p e1 e2)⟩
theorem IntTs.snoc {H : Hp} {ls : List Addr} {ps : List (List Int)} {l : Addr} {p : List Int} (h : IntTs H ls ps) (hl : H l = some (.tup (p.map V.int))) : IntTs H (ls ++ [l]) (ps ++ [p]) := by
  refine ⟨by simp [h.len], fun i a q e1 e2 => ?_⟩
  by_cases hi : i < ls.length
  . rw [Zg hi] at e1
    rw [Zg (by rw [<- h.len]; exact hi)] at e2;exact h.at' i a q e1 e2
  . rw [Zf (ZD.mp hi)] at e1
    rw [Zf (by rw [<- h.len]; exact ZD.mp hi)] at e2
    have h0 : i - ls.length = 0 := by
      have := (Zc.mp e1).1;simp at this;omega
    rw [h0] at e1;rw [<- h.len, h0] at e2;simp at e1 e2;subst e1 e2;exact hl
def zaq : Sp := fun vs H Q _ => ∃ (x : HX) (d : HD), vs = [.ref x.t] /\ HandAt H x d /\ d.worths.length <= 8 /\ ∀ H' t w g gs, Same H H' -> HHand H' t d w g gs -> Q (.ref t) H'
def fu : Sp := fun vs H Q _ => ∃ (o b : Addr) (outs : List Str) (xs : List HX) (ds : List HD), vs = [.ref o, .ref b] /\ H o = some (.lst (outs.map V.str)) /\ HandsL H b xs ds /\ GoodHouse outs ds /\ ∀ H' p o' h hs, Same H H' -> HHouse H' p o' h hs outs ds -> Q (.ref p) H'
def PvEH (rows : List (List Int)) (H1 : Hp) (i : Nat) (ys : List V) (H' : Hp) : Prop := Same H1 H' /\ ∃ gs : List Addr, ys = gs.map V.ref /\ IntTs H' gs (rows.take i)
def PvDH (ds : List HD) (H1 : Hp) (i : Nat) (ys : List V) (H' : Hp) : Prop := Same H1 H' /\ ∃ hs : List Addr, ys = hs.map V.ref /\ HHands H' hs (ds.take i)
section
variable {P : Program} {w : World} {K : Fg} {mg : Str -> Option Value} {base : Heap} {a : Ad}
theorem cg (B : Bt mg) (vx : FnAt P w K mg base "name_of" 1 ["hand"] (uz fun _ d => .str d.name)) (ye : FnAt P w K mg base "words_of_hand" 1 ["hand"] (uz fun x _ => .ref x.w)) (xg : FnAt P w K mg base "worths_of_hand" 1 ["hand"] (uz fun x _ => .ref x.g))
    (D : ze K mg "kept_hand" uc ["hand"]) : FnAt P w K mg base "kept_hand" 2 ["hand"] zaq := by
  refine FnAt.of D sc_kept_hand (fun vs H Q E h => ?_) (fun f cdv A outer s H vs Q E hr h => ?_)
  . obtain ⟨x, d, rfl, _⟩ := h
    rfl
  . obtain ⟨x, d, rfl, hx, h8, q⟩ := h
    refine ⟨_, (@zj _ _ _ _ _ (zw (i := 1) sc_kept_hand.nd rfl (Or.inl rfl) (yj xv rfl B.tuple xx (za (yl ["row"] ["hand", "worths"] rfl (@yh _ _ _ _ (zg xg (hr.mono (by decide)) rfl (za (pv 0) (@zb _)))) (fun _ => (zr (i := 0) (show (["row", "hand", "worths"] : List Str).Nodup by decide +kernel) rfl (Or.inl rfl))) (fun _ => (@ya _)) (fun _ => (yj xv rfl B.tuple xx (za (pv 0) (@zb _)))) rfl (by decide +kernel) rfl rfl) (@zb _)))) (@zc _ _ _ (@zl _ _ _ _ (@xy _ _ _ _ _ (za (zg vx (hr.mono (by decide)) rfl (za (pv 0) (@zb _))) (za (yj xv rfl B.tuple xx (za (zg ye (hr.mono (by decide)) rfl (za (pv 0) (@zb _))) (@zb _))) (za (pv 1) (@zb _)))))))), ?_⟩;rw [show start ["hand", "worths"] [V.ref x.t] = [some (V.ref x.t), none] from rfl];simp only [zh, zi, ↓reduceIte];refine ⟨x, d, rfl, hx, ?_⟩;simp only [zh, zi, ↓reduceIte];refine ⟨⟨_, .of hx.grid⟩, fun dd => ?_⟩;refine yz (xs := x.gs.map V.ref) (PvEH d.worths H) ⟨Same.refl _, [], rfl, rfl, fun i l p e => by simp at e⟩ ?_ ?_ ?_
    . rintro i ys H2 hi ⟨S, gs, rfl, ty⟩
      rw [Za, hx.len] at hi;have ly : gs.length = i := by rw [ty.len, Zj]; omega
      exact ⟨by rw [Za, ly]; exact Zd hi (Zd h8 (by decide)), S.seq (.of hx.grid)⟩
    . rintro i y ys H2 hy ⟨S, gs, rfl, ty⟩
      obtain ⟨r, hr', rfl⟩ := yf hy;have hi : i < d.worths.length := by have := (Zc.mp hr').1; have := hx.len; omega
      have e2 : d.worths[i]? = some d.worths[i] := by simp [hi]
      simp only [zh, zi, ↓reduceIte];refine ⟨_, S.seq (.of (hx.row i r _ hr' e2)), fun l hl => ?_⟩;have S3 : Same H2 (upd H2 l (.tup ((d.worths[i]).map V.int))) := Same.upd (Same.refl _) hl;refine ⟨S.trans S3, gs ++ [l], by simp, ?_⟩;rw [Zq, e2];exact (ty.mono S3).snoc zf
    . rintro ys H2 ⟨S, gs, rfl, ty⟩ l hl
      rw [Za, hx.len, Zt] at ty;have S3 : Same H2 (upd H2 l (.lst (gs.map V.ref))) := Same.upd (Same.refl _) hl;refine ⟨_, .of zf, fun l1 hl1 => ?_⟩;generalize upd H2 l (.lst (gs.map V.ref)) = H3 at *;have S4 : Same H3 (upd H3 l1 (.tup (gs.map V.ref))) := Same.upd (Same.refl _) hl1;have h4 : upd H3 l1 (.tup (gs.map V.ref)) l1 = some (.tup (gs.map V.ref)) := zf;generalize upd H3 l1 (.tup (gs.map V.ref)) = H4 at *;have S24 := S.trans (S3.trans S4);refine ⟨x, d, rfl, hx.mono S24, x, d, rfl, hx.mono S24, x.w, rfl, _, .of (hx.mono S24).words, fun l2 hl2 => ⟨by decide, fun p hp => ?_⟩⟩;have S5 : Same H4 (upd H4 l2 (.tup (d.words.map V.str))) := Same.upd (Same.refl _) hl2;have h5 : upd H4 l2 (.tup (d.words.map V.str)) l2 = some (.tup (d.words.map V.str)) := zf;generalize upd H4 l2 (.tup (d.words.map V.str)) = H5 at *;have S6 : Same H5 (upd H5 p (.tup [V.str d.name, V.ref l2, V.ref l1])) := Same.upd (Same.refl _) hp;exact q _ p l2 l1 gs (S24.trans (S5.trans S6)) ⟨zf, S6 _ _ h5, (S5.trans S6) _ _ h4, ty.len, fun i r ns e1 e2 => (S3.trans (S4.trans (S5.trans S6))) _ _ (ty.at' i r ns e1 e2)⟩
theorem zam (B : Bt mg) (C : Ct K mg a) (vh : FnAt P w K mg base "makes_house" 6 ["outcomes", "hands"] d6) (so : FnAt P w K mg base "kept_hand" 2 ["hand"] zaq) (D : ze K mg "house_of" u0 ["outcomes", "hands"]) : FnAtX P w K mg base "house_of" 7 ["outcomes", "hands"] fu := by
  refine FnAtX.of D lq (fun vs H Q E h => ?_) (fun f cdv A outer s H vs Q E hr h => ?_)
  . obtain ⟨o, b, outs, xs, ds, rfl, _⟩ := h
    rfl
  . obtain ⟨o, b, outs, xs, ds, rfl, ho, hh, g, q⟩ := h
    refine ⟨_, (@zj _ _ _ _ _ (@yq _ _ _ _ _ _ _ _ (@xu _ _ _ _ (wb (zg vh (hr.mono (by decide)) rfl (za (pv 0) (za (pv 1) (@zb _)))))) (@zc _ _ _ (tz rfl C.q_NoHouse.toErr rfl C.m_NoHouse (vi rfl) (za (@ud _ _ _ _) (@zb _)))) (@z0 _)) (@zc _ _ _ (PS.nox (@zl _ _ _ _ (@xy _ _ _ _ _ (za (yj xv rfl B.tuple xx (za (pv 0) (@zb _))) (za (yj xv rfl B.tuple xx (za (yl ["hand"] ["outcomes", "hands"] rfl (@yh _ _ _ _ (pv 1)) (fun _ => (zr (i := 0) (show (["hand", "outcomes", "hands"] : List Str).Nodup by decide +kernel) rfl (Or.inl rfl))) (fun _ => (@ya _)) (fun _ => (zg so (hr.mono (by decide)) rfl (za (pv 0) (@zb _)))) rfl (by decide +kernel) rfl rfl) (@zb _))) (@zb _)))))))), ?_⟩;rw [show start ["outcomes", "hands"] [V.ref o, V.ref b] = [some (V.ref o), some (V.ref b)] from rfl];simp only [zh, zi, ↓reduceIte];have g2 := g.hands;refine ⟨o, b, outs, xs, ds, rfl, ho, hh, g, fun H1 S1 => ?_⟩;simp only [zh, zi, ↓reduceIte];have hh1 := hh.mono S1;have ho1 := S1 _ _ ho;refine iteF ⟨_, .of ho1, fun l hl => ?_⟩;have S2 : Same H1 (upd H1 l (.tup (outs.map V.str))) := Same.upd (Same.refl _) hl;have h2 : upd H1 l (.tup (outs.map V.str)) l = some (.tup (outs.map V.str)) := zf;generalize upd H1 l (.tup (outs.map V.str)) = H2 at *;have hh2 := hh1.mono S2;refine ⟨⟨_, .of hh2.at'⟩, fun d => ?_⟩;refine yz (xs := xs.map fun x => V.ref x.t) (PvDH ds H2) ⟨Same.refl _, [], rfl, rfl, fun i t d e => by simp at e⟩ ?_ ?_ ?_
    . rintro i ys H3 hi ⟨S, hs, rfl, ty⟩
      rw [Za, hh.len] at hi;have ly : hs.length = i := by rw [ty.1, Zj]; omega
      exact ⟨by rw [Za, ly]; exact Zd hi (Zd g2.2 (by decide)), S.seq (.of hh2.at')⟩
    . rintro i y ys H3 hy ⟨S, hs, rfl, ty⟩
      obtain ⟨x, hx, rfl⟩ := yf hy;have hi : i < ds.length := by have := (Zc.mp hx).1; have := hh.len; omega
      have e2 : ds[i]? = some ds[i] := by simp [hi]
      have hm := Zl hi;have r8 : (ds[i]).worths.length <= 8 := by rw [g.rows _ hm]; exact (g.words1 _ hm).2
      simp only [zh, zi, ↓reduceIte];refine ⟨x, ds[i], rfl, (hh2.hand i x ds[i] hx e2).mono S, r8, fun H4 p wd g' gs S4 tp => ?_⟩;refine ⟨S.trans S4, hs ++ [p], by simp, ?_⟩;rw [Zq, e2];exact (ty.mono S4).snoc tp
    . rintro ys H3 ⟨S, hs, rfl, ty⟩ l1 hl1
      rw [Za, hh.len, Zt] at ty;have S4 : Same H3 (upd H3 l1 (.lst (hs.map V.ref))) := Same.upd (Same.refl _) hl1;refine ⟨_, .of zf, fun l2 hl2 => ⟨by decide, fun p hp => ?_⟩⟩;generalize upd H3 l1 (.lst (hs.map V.ref)) = H4 at *;have S5 : Same H4 (upd H4 l2 (.tup (hs.map V.ref))) := Same.upd (Same.refl _) hl2;have h5 : upd H4 l2 (.tup (hs.map V.ref)) l2 = some (.tup (hs.map V.ref)) := zf;generalize upd H4 l2 (.tup (hs.map V.ref)) = H5 at *;have S6 : Same H5 (upd H5 p (.tup [V.ref l, V.ref l2])) := Same.upd (Same.refl _) hp;have S36 := S4.trans (S5.trans S6);exact q _ p l l2 hs (S1.trans (S2.trans (S.trans S36))) ⟨zf, (S.trans S36) _ _ h2, S6 _ _ h5, ty.mono S36⟩
end
section
variable {α : Type}
def Picks (r : List α) (wss : List (List α)) : Prop := r.length = wss.length /\ ∀ (j : Nat) (ws : List α), wss[j]? = some ws -> ∃ w, r[j]? = some w /\ w ∈ ws
theorem zc8 {rs : List (List α)} {ws : List α} {r : List α} {w : α} (h1 : r ∈ rs) (h2 : w ∈ ws) : r ++ [w] ∈ xl rs ws := by
  simp only [xl, xp, Yq, Zp];exact ⟨_, ⟨r, h1, rfl⟩, Zp.mpr ⟨w, h2, rfl⟩⟩
theorem zbg (wss : List (List α)) : ∀ n, n <= wss.length -> ∀ r, r ∈ yi (wss.take n) ↔ Picks r (wss.take n) := by
  intro n
  induction n with
  | zero =>
    intro _ r;simp only [List.take_zero, yi, List.foldl_nil, ZC]
    constructor
    . rintro rfl; exact ⟨rfl, fun j ws e => by simp at e⟩
    . intro h; exact Yc.mp h.1
  | succ n ih =>
    intro hn r;have e : wss[n]? = some wss[n] := Zb (by omega);have et : wss.take (n + 1) = wss.take n ++ [wss[n]] := by rw [Zq, e]; rfl
    have ln : (wss.take n).length = n := by rw [Zj]; omega
    rw [w6 e]
    constructor
    . intro h
      obtain ⟨q, w, h1, h2, rfl⟩ := mf h;obtain ⟨p1, p2⟩ := (ih (by omega) q).mp h1;rw [ln] at p1;refine ⟨by rw [et, Zo, Zo, p1, ln]; rfl, fun j ws ej => ?_⟩;rw [et] at ej
      by_cases hj : j < n
      . rw [Zg (by omega)] at ej
        obtain ⟨w', a1, a2⟩ := p2 j ws ej;exact ⟨w', by rw [Zg (by omega)]; exact a1, a2⟩
      . rw [Zf (by omega), ln] at ej
        have hj0 : j - n = 0 := by
          have := (Zc.mp ej).1;simp at this;omega
        rw [hj0] at ej;simp at ej;subst ej;exact ⟨w, by rw [Zf (by omega), p1, hj0]; rfl, h2⟩
    . rintro ⟨p1, p2⟩
      rw [et] at p1 p2;have lr : r.length = n + 1 := by rw [p1, Zo, ln]; rfl
      obtain ⟨w, a1, a2⟩ := p2 n wss[n] (by rw [Zf (by omega), ln]; simp)
      have er : r = r.take n ++ [w] := by
        have : r.take (n + 1) = r := ZG (by omega);rw [Zq, a1] at this;exact this.symm
      rw [er];refine zc8 ((ih (by omega) _).mpr ⟨by rw [Zj, ln]; omega, fun j ws ej => ?_⟩) a2;have hj : j < n := by have := (Zc.mp ej).1; omega
      obtain ⟨w', b1, b2⟩ := p2 j ws (by rw [Zg (by omega)]; exact ej);exact ⟨w', by rw [List.getElem?_take, if_pos hj]; exact b1, b2⟩
theorem rowsP_iff {wss : List (List α)} {r : List α} : r ∈ yi wss ↔ Picks r wss := by
  have := zbg wss wss.length (Zm _) r
  rwa [Zt] at this
theorem bc {rs : List (List α)} {ws : List α} (h1 : rs.Nodup) (h2 : ws.Nodup) : (xl rs ws).Nodup := by
  induction rs with
  | nil => exact List.nodup_nil
  | cons r rs ih =>
    rw [j0];obtain ⟨n1, n2⟩ := ZR.mp h1;refine Yn.mpr ⟨?_, ih n2, fun x hx y hy e => ?_⟩
    . rw [xp]
      refine YD.mpr (List.Pairwise.imp (fun {a b} hab e => hab ?_) h2)
      simpa using e
    . obtain ⟨w, _, rfl⟩ := Zp.mp hx
      obtain ⟨q, w', hq, _, e2⟩ := mf hy;rw [e2] at e;have := (List.append_inj' e rfl).1;exact n1 (this ▸ hq)
theorem c6 {wss : List (List α)} (h : ∀ ws ∈ wss, ws.Nodup) : (yi wss).Nodup := by
  have : ∀ n, n <= wss.length -> (yi (wss.take n)).Nodup := by
    intro n
    induction n with
    | zero => intro _; simp [yi]
    | succ n ih =>
      intro hn;have e : wss[n]? = some wss[n] := Zb (by omega);rw [w6 e];exact bc (ih (by omega)) (h _ (Zl _))
  have := this wss.length (Zm _)
  rwa [Zt] at this
end
def numB (c top : Int) : Int := if c % 4 = 0 then c / 4 % 19 - 9 else if c % 4 = 1 then c / 4 % 3 - 1 else if c % 4 = 2 then c / 4 % (2 * 10 ^ 18) - 10 ^ 18 else c / 4 % (2 * top + 1) - top
theorem io (c : Int) {top : Int} (h0 : 10 ^ 18 <= top) : -top <= numB c top /\ numB c top <= top := by
  unfold numB;have h1 := yn (c / 4) (show (0 : Int) < 19 by decide);have h2 := yn (c / 4) (show (0 : Int) < 3 by decide);have h3 := yn (c / 4) (show (0 : Int) < 2 * 10 ^ 18 by decide);have h4 := yn (c / 4) (show (0 : Int) < 2 * top + 1 by omega)
  split
  . omega
  . split
    . omega
    . split
      . omega
      . omega
def vb (c : Int) (k : Nat) : Str := if c % 3 = 0 then xj (chr1 (letA (c / 3))) (k + 1) else xj (chr1 (letA (c / 468))) (c / 5 % 4).toNat ++ chr1 (letA (c / 3 + k * (1 + 2 * (c / 78 % 6)))) ++ xj (chr1 (letA (c / 468))) (c / 7 % 4).toNat
def yu (c : Int) (many : Nat) : List Str := (List.range many).map (vb c)
theorem wm (c : Int) (n : Nat) : (yu c n).length = n := by rw [yu, Za, ZN]
theorem lg (c : Int) (n : Nat) : yu c (n + 1) = yu c n ++ [vb c n] := by rw [yu, ZV, Zn]; rfl
theorem o5 {d : Nat} {i : Int} (h : d ∈ (chr1 (letA i)).cps.toList) : 97 <= d /\ d <= 122 := by
  have : d = letA i := by simpa [chr1] using h
  rw [this]; exact zex _
theorem j1 (c : Int) {k : Nat} (hk : k < 8) : qi (vb c k) := by
  unfold vb;have h5 := yn (c / 5) (show (0 : Int) < 4 by decide);have h7 := yn (c / 7) (show (0 : Int) < 4 by decide);have l1 : ∀ n, (chr1 n).length = 1 := fun n => rfl
  by_cases h : c % 3 = 0
  . rw [if_pos h]
    refine ⟨?_, ?_, fun d hd => o5 (na hd)⟩ <;> rw [xr, l1] <;> omega
  . rw [if_neg h]
    refine ⟨?_, ?_, fun d hd => ?_⟩
    . rw [ue, ue, xr, xr, l1, l1]
      omega
    . rw [ue, ue, xr, xr, l1, l1]
      omega
    . rcases l5 hd with z | z
      . rcases l5 z with z | z
        . exact o5 (na z)
        . exact o5 z
      . exact o5 (na z)
theorem zbb (c : Int) {i j : Nat} (hi : i < 5) (hj : j < 5) (h : vb c i = vb c j) : i = j := by
  unfold vb at h
  by_cases q : c % 3 = 0
  . rw [if_pos q, if_pos q] at h
    have := congrArg Str.length h;rw [xr, xr, show (chr1 (letA (c / 3))).length = 1 from rfl] at this;omega
  . rw [if_neg q, if_neg q] at h
    have e := zet _ h;have hs := yn (c / 78) (show (0 : Int) < 6 by decide);generalize c / 78 % 6 = st at hs e;have h1 := yn (c / 3 + i * (1 + 2 * st)) (show (0 : Int) < 26 by decide);have h2 := yn (c / 3 + j * (1 + 2 * st)) (show (0 : Int) < 26 by decide);have h3 : (c / 3 + i * (1 + 2 * st)) % 26 = (c / 3 + j * (1 + 2 * st)) % 26 := by unfold letA at e; omega
    have : st = 0 \/ st = 1 \/ st = 2 \/ st = 3 \/ st = 4 \/ st = 5 := by omega
    rcases this with rfl | rfl | rfl | rfl | rfl | rfl <;> omega
theorem qo (c : Int) {n : Nat} (hn : n <= 5) : (yu c n).Nodup := by
  unfold yu;refine YD.mpr ?_;refine List.Pairwise.imp_of_mem ?_ (List.nodup_range (n := n));intro i j hi hj hne e;exact hne (zbb c (by have := ZP.mp hi; omega) (by have := ZP.mp hj; omega) e)
theorem le (c : Int) {n : Nat} (hn : n <= 8) : ∀ z ∈ yu c n, qi z := fun z hz => by
  obtain ⟨i, hi, rfl⟩ := Zp.mp hz;exact j1 c (by have := ZP.mp hi; omega)
def yg (ns : List Int) : Nat := (1 + zx ns 0 % 4).toNat
def y4 (ns : List Int) : Nat := (1 + zx ns 0 / 4 % 3).toNat
def xw (ns : List Int) (j : Nat) : Nat := (1 + zx ns 1 / ([1, 3, 9] : List Int).getD j 0 % 3).toNat
def rowB (ns : List Int) (top : Int) (k n : Nat) : List Int := (List.range n).map fun i => numB (zx ns (k + i)) top
def vq (ns : List Int) (top : Int) (k n m : Nat) : List (List Int) := (List.range m).map fun r => rowB ns top (k + r * n) n
def xt (ns : List Int) (n : Nat) : Nat -> Nat
  | 0 => 8
  | j + 1 => xt ns n j + xw ns j * n
def ff (ns : List Int) (top : Int) (n j : Nat) : HD := ⟨vb (zx ns 6) j, yu (zx ns (3 + j)) (xw ns j), vq ns top (xt ns n j) n (xw ns j)⟩
def wf (ns : List Int) (top : Int) (n m : Nat) : List HD := (List.range m).map (ff ns top n)
theorem c9 (ns : List Int) (top : Int) (n m : Nat) : wf ns top n (m + 1) = wf ns top n m ++ [ff ns top n m] := by rw [wf, ZV, Zn]; rfl
theorem zaw (ns : List Int) (top : Int) (k n : Nat) : rowB ns top k (n + 1) = rowB ns top k n ++ [numB (zx ns (k + n)) top] := by rw [rowB, ZV, Zn]; rfl
theorem kn (ns : List Int) (top : Int) (k n : Nat) : (rowB ns top k n).length = n := by rw [rowB, Za, ZN]
theorem zal (ns : List Int) (top : Int) (k n m : Nat) : vq ns top k n (m + 1) = vq ns top k n m ++ [rowB ns top (k + m * n) n] := by rw [vq, ZV, Zn]; rfl
theorem gb (ns : List Int) (top : Int) (k n m : Nat) : (vq ns top k n m).length = m := by rw [vq, Za, ZN]
theorem qh (ns : List Int) : 1 <= yg ns /\ yg ns <= 4 := by
  have := yn (zx ns 0) (show (0 : Int) < 4 by decide);unfold yg; omega
theorem v7 (ns : List Int) : 1 <= y4 ns /\ y4 ns <= 3 := by
  have := yn (zx ns 0 / 4) (show (0 : Int) < 3 by decide);unfold y4; omega
theorem uv (ns : List Int) (j : Nat) : 1 <= xw ns j /\ xw ns j <= 3 := by
  have := yn (zx ns 1 / ([1, 3, 9] : List Int).getD j 0) (show (0 : Int) < 3 by decide);unfold xw; omega
theorem wp {ns : List Int} {top : Int} {n m : Nat} {d : HD} (h : d ∈ wf ns top n m) : ∃ j, j < m /\ d = ff ns top n j := by
  obtain ⟨j, hj, rfl⟩ := Zp.mp h;exact ⟨j, ZP.mp hj, rfl⟩
theorem cy (ns : List Int) {top : Int} (h0 : 10 ^ 18 <= top) (h1 : top < 10 ^ 60) {outs : List Str} (ho : outs = yu (zx ns 2) (yg ns)) : GoodHouse outs (wf ns top (yg ns) (y4 ns)) where
  outs1 := by rw [ho, wm]; have := qh ns; omega
  outsG := by rw [ho]; exact le _ (by have := qh ns; omega)
  outsD := by rw [ho]; exact qo _ (by have := qh ns; omega)
  hands := by rw [wf, Za, ZN]; have := v7 ns; omega
  handsG := fun d hd => by
    obtain ⟨j, hj, rfl⟩ := wp hd;exact j1 _ (by have := v7 ns; omega)
  handsD := by
    have : (wf ns top (yg ns) (y4 ns)).map HD.name = yu (zx ns 6) (y4 ns) := by rw [wf, yu, YJ]; rfl
    rw [this];exact qo _ (by have := v7 ns; omega)
  words1 := fun d hd => by
    obtain ⟨j, hj, rfl⟩ := wp hd
    show 1 <= (yu _ _).length /\ (yu _ _).length <= 8
    rw [wm]; have := uv ns j; omega
  wordsG := fun d hd => by
    obtain ⟨j, hj, rfl⟩ := wp hd;exact le _ (by have := uv ns j; omega)
  wordsD := fun d hd => by
    obtain ⟨j, hj, rfl⟩ := wp hd;exact qo _ (by have := uv ns j; omega)
  rows := fun d hd => by
    obtain ⟨j, hj, rfl⟩ := wp hd
    show (vq _ _ _ _ _).length = (yu _ _).length
    rw [gb, wm]
  cols := fun d hd r hr => by
    obtain ⟨j, hj, rfl⟩ := wp hd;obtain ⟨i, _, rfl⟩ := Zp.mp hr;rw [kn, ho, wm]
  nums := fun d hd r hr n hn => by
    obtain ⟨j, hj, rfl⟩ := wp hd;obtain ⟨i, _, rfl⟩ := Zp.mp hr;obtain ⟨k, _, rfl⟩ := Zp.mp hn;have := io (zx ns (xt ns (yg ns) j + i * yg ns + k)) h0
    constructor <;> omega
  few := by
    refine Zd (zef (n := y4 ns) (t := 3) (fun x hx => ?_) (by rw [Za, wf, Za, ZN])) ?_
    . obtain ⟨d, hd, rfl⟩ := Zp.mp hx
      obtain ⟨j, hj, rfl⟩ := wp hd
      show (yu _ _).length <= _
      rw [wm];exact (uv ns j).2
    . exact Zd (Nat.pow_le_pow_right (by decide) (v7 ns).2) (by decide)
theorem NewHands.from {H0 H H' : Hp} {b : Addr} {xs : List HX} {ds : List HD} (g : NewHands H H' b xs ds) (S : Same H0 H) : NewHands H0 H' b xs ds :=
  ⟨S.trans g.same, S.free g.nb, g.at', g.len, g.hand, fun y hy => S.free (g.new y hy), g.old, g.nd, g.ne⟩
def js : Sp := fun vs H Q _ => ∃ c top : Int, vs = [.int c, .int top] /\ 10 ^ 18 <= top /\ top < 10 ^ 60 /\ Q (.int (numB c top)) H
def kx : Sp := fun vs H Q _ => ∃ (c : Int) (many : Nat), vs = [.int c, .int many] /\ many <= 8 /\ ∀ H' l, Same H H' -> H l = none -> H' l = some (.lst ((yu c many).map V.str)) -> Q (.ref l) H'
def df (K : Fg) : Sp := fun vs H Q _ => ∃ (a : Addr) (ns : List Int) (n : Nat) (top : Int), vs = [.ref a, .int n, .int top] /\ SqL K H a (ns.map V.int) /\ 1 <= n /\ n <= 4 /\ 10 ^ 18 <= top /\ top < 10 ^ 60 /\
  ∀ H' (b : Addr) (xs : List HX), NewHands H H' b xs (wf ns top n (y4 ns)) -> Q (.ref b) H'
def PvHB (a cl b : Addr) (ns : List Int) (n : Nat) (top : Int) (H1 : Hp) (j : Nat) : L2.St -> Hp -> Prop := fun σ H' => ∃ (xs : List HX) (t1 t2 t3 t4 : Option V), NewHands H1 H' b xs (wf ns top n j) /\ σ = [some (V.ref a), some (V.int n), some (V.int top), some (V.int (y4 ns)), some (V.ref cl), some (V.ref b), some (V.int (xt ns n j)), t1, t2, t3, t4]
def PvGB (a cl b g : Addr) (ns : List Int) (n : Nat) (top : Int) (H5 : Hp) (j : Nat) (m : Nat) : L2.St -> Hp -> Prop := fun σ H' => ∃ (gs : List Addr) (t4 : Option V), NewGrid H5 H' g gs (vq ns top (xt ns n j) n m) m n /\ σ = [some (V.ref a), some (V.int n), some (V.int top), some (V.int (y4 ns)), some (V.ref cl), some (V.ref b), some (V.int ((xt ns n j + m * n : Nat) : Int)), some (V.int j), some (V.int (xw ns j)), some (V.ref g), t4]
def PvRB (ns : List Int) (top : Int) (H6 : Hp) (k : Nat) (i : Nat) (ys : List V) (H' : Hp) : Prop := H' = H6 /\ ys = (rowB ns top k i).map V.int
def PvNB (c : Int) (many : Nat) (ot : Str) (l : Addr) (H : Hp) (i : Nat) (σ : L2.St) (H' : Hp) : Prop := Same H H' /\ H' l = some (.lst ((yu c i).map V.str)) /\ ∃ t1 t2 t3 : Option V, σ = [some (V.int c), some (V.int many), some (V.str (Str.ofString "abcdefghijklmnopqrstuvwxyz")), some (V.str ot), some (V.ref l), t1, t2, t3]
section
variable {P : Program} {w : World} {K : Fg} {mg : Str -> Option Value} {base : Heap}
theorem yo (B : Bt mg) (D : ze K mg "_law_cell" r6 ["script", "k"]) : FnAt P w K mg base "_law_cell" 1 ["script", "k"] (qm K) := by
  refine FnAt.of D ci (fun vs H Q E h => ?_) (fun f cdv A outer s H vs Q E hr h => ?_)
  . obtain ⟨a, ns, k, rfl, _⟩ := h
    rfl
  . obtain ⟨a, ns, k, rfl, hS, q⟩ := h
    refine ⟨_, (@zj _ _ _ _ _ (@yq _ _ _ _ _ _ _ _ (@yv _ _ _ _ _ _ _ _ g8 (pv 1) (zn zz rfl B.len xm (za (pv 0) (@zb _))) (yk _)) (@zc _ _ _ (@zl _ _ _ _ (@xh _ _ _ _ _ _ _ qk (pv 0) (pv 1) (fun _ _ => rfl)))) (@z0 _)) (@zc _ _ _ (@zl _ _ _ _ (@zd _ _ _ _)))), ?_⟩;rw [show start ["script", "k"] [V.ref a, V.int k] = [some (V.ref a), some (V.int k)] from rfl];simp only [zh, zi, ↓reduceIte];refine ⟨ns.map V.int, .inl hS, ?_⟩;rw [Za];unfold zx at q;refine ite2 (fun h => ?_) (fun h => ?_)
    . have h' : (k : Int) < ns.length := of_decide_eq_true h
      have hlt : k < ns.length := by omega
      have e : ns[k]? = some ns[k] := by simp [hlt]
      have e2 := yr (xs := ns.map V.int) (j := k) (v := V.int ns[k]) (by rw [Ze, e]; rfl);rw [Zk, e] at q;exact ⟨ns.map V.int, hS, _, e2, q⟩
    . have h' : ¬ (k : Int) < ns.length := fun z => h (decide_eq_true z)
      rw [Zk, Yr (by omega)] at q;exact q
theorem wj (D : ze K mg "_law_number" u7 ["cell", "top"]) : FnAt P w K mg base "_law_number" 1 ["cell", "top"] js := by
  refine FnAt.of D gp (fun vs H Q E h => ?_) (fun f cdv A outer s H vs Q E hr h => ?_)
  . obtain ⟨c, top, rfl, _⟩ := h
    rfl
  . obtain ⟨c, top, rfl, t0, t1, q⟩ := h
    refine ⟨_, (@zj _ _ _ _ _ (@yq _ _ _ _ _ _ _ _ (@yv _ _ _ _ _ _ _ _ ub (@zm _ _ _ _ _ _ _ _ y7 (pv 0) (@zd _ _ _ _)) (@zd _ _ _ _) (yk _)) (@zc _ _ _ (@zl _ _ _ _ (@zm _ _ _ _ _ _ _ _ uy (@zm _ _ _ _ _ _ _ _ y7 (@zm _ _ _ _ _ _ _ _ xn (pv 0) (@zd _ _ _ _)) (@zd _ _ _ _)) (@zd _ _ _ _)))) (@z0 _)) (@zj _ _ _ _ _ (@yq _ _ _ _ _ _ _ _ (@yv _ _ _ _ _ _ _ _ ub (@zm _ _ _ _ _ _ _ _ y7 (pv 0) (@zd _ _ _ _)) (@zd _ _ _ _) (yk _)) (@zc _ _ _ (@zl _ _ _ _ (@zm _ _ _ _ _ _ _ _ uy (@zm _ _ _ _ _ _ _ _ y7 (@zm _ _ _ _ _ _ _ _ xn (pv 0) (@zd _ _ _ _)) (@zd _ _ _ _)) (@zd _ _ _ _)))) (@z0 _)) (@zj _ _ _ _ _ (@yq _ _ _ _ _ _ _ _ (@yv _ _ _ _ _ _ _ _ ub (@zm _ _ _ _ _ _ _ _ y7 (pv 0) (@zd _ _ _ _)) (@zd _ _ _ _) (yk _)) (@zc _ _ _ (@zl _ _ _ _ (@zm _ _ _ _ _ _ _ _ uy (@zm _ _ _ _ _ _ _ _ y7 (@zm _ _ _ _ _ _ _ _ xn (pv 0) (@zd _ _ _ _)) (@zm _ _ _ _ _ _ _ _ n0 (@zd _ _ _ _) (@zm _ _ _ _ _ _ _ _ ug (@zd _ _ _ _) (@zd _ _ _ _)))) (@zm _ _ _ _ _ _ _ _ ug (@zd _ _ _ _) (@zd _ _ _ _))))) (@z0 _)) (@zc _ _ _ (@zl _ _ _ _ (@zm _ _ _ _ _ _ _ _ uy (@zm _ _ _ _ _ _ _ _ y7 (@zm _ _ _ _ _ _ _ _ xn (pv 0) (@zd _ _ _ _)) (@zm _ _ _ _ _ _ _ _ we (@zm _ _ _ _ _ _ _ _ n0 (@zd _ _ _ _) (pv 1)) (@zd _ _ _ _))) (pv 1))))))), ?_⟩;rw [show start ["cell", "top"] [V.int c, V.int top] = [some (V.int c), some (V.int top)] from rfl];simp only [zh, zi, ↓reduceIte];unfold numB at q;refine ⟨by decide, rfl, ite2 (fun h => ?_) (fun h => ?_)⟩
    . rw [if_pos (of_decide_eq_true h)] at q
      exact ⟨⟨by decide, by decide⟩, by decide, q⟩
    . rw [if_neg (fun z => h (decide_eq_true z))] at q
      refine ⟨by decide, rfl, ite2 (fun h => ?_) (fun h => ?_)⟩
      . rw [if_pos (of_decide_eq_true h)] at q
        exact ⟨⟨by decide, by decide⟩, by decide, q⟩
      . rw [if_neg (fun z => h (decide_eq_true z))] at q
        refine ⟨by decide, rfl, ite2 (fun h => ?_) (fun h => ?_)⟩
        . rw [if_pos (of_decide_eq_true h)] at q
          exact ⟨⟨by decide, by decide⟩, ⟨by decide, by decide, by decide⟩, .inl ⟨by decide, by decide⟩, by decide, ⟨by decide, by decide, by decide⟩, q⟩
        . rw [if_neg (fun z => h (decide_eq_true z))] at q
          exact ⟨⟨by decide, by decide⟩, .inl ⟨by decide, by decide⟩, by omega, q⟩
end
section
variable {P : Program} {w : World} {K : Fg} {mg : Str -> Option Value} {base : Heap}
theorem vj (B : Bt mg) (D : ze K mg "_law_names" yd ["cell", "many"]) : FnAt P w K mg base "_law_names" 1 ["cell", "many"] kx := by
  refine FnAt.of D sc_law_names (fun vs H Q E h => ?_) (fun f cdv A outer s H vs Q E hr h => ?_)
  . obtain ⟨c, many, rfl, _⟩ := h
    rfl
  . obtain ⟨c, many, rfl, hm, q⟩ := h
    have b5 : PSs (cxOf CX0 P w K mg base ["cell", "many", "letters", "other", "names", "k", "sign", "head"] "_law_names" (zk yd) f cdv A outer s H E).nox ((y0 yd).drop 5) _ := (@zd0 _ _ _ _ _ (@zl _ _ _ _ (pv 4)) rfl rfl);have b4 : PSs (cxOf CX0 P w K mg base ["cell", "many", "letters", "other", "names", "k", "sign", "head"] "_law_names" (zk yd) f cdv A outer s H E).nox ((y0 yd).drop 4) _ := (@nu _ _ _ _ _ _ (vc PassesOwn.never rfl (wz rfl B.range (za (pv 1) (@zb _))) (zr (i := 5) sc_law_names.nd rfl (Or.inl rfl)) (@zj _ _ _ _ _ (zw (i := 6) sc_law_names.nd rfl (Or.inl rfl) (@xh _ _ _ _ _ _ _ eh (pv 2) (@zm _ _ _ _ _ _ _ _ y7 (@zm _ _ _ _ _ _ _ _ we (@zm _ _ _ _ _ _ _ _ xn (pv 0) (@zd _ _ _ _)) (@zm _ _ _ _ _ _ _ _ n0 (pv 5) (@zm _ _ _ _ _ _ _ _ we (@zd _ _ _ _) (@zm _ _ _ _ _ _ _ _ n0 (@zd _ _ _ _) (@zm _ _ _ _ _ _ _ _ y7 (@zm _ _ _ _ _ _ _ _ xn (pv 0) (@zd _ _ _ _)) (@zd _ _ _ _)))))) (@zd _ _ _ _)) (fun _ _ => rfl))) (@zj _ _ _ _ _ (zw (i := 7) sc_law_names.nd rfl (Or.inl rfl) (@zm _ _ _ _ _ _ _ _ ie (pv 3) (@zm _ _ _ _ _ _ _ _ y7 (@zm _ _ _ _ _ _ _ _ xn (pv 0) (@zd _ _ _ _)) (@zd _ _ _ _)))) (@zc _ _ _ (wk (pq PySem.F.plainAttrs_list PySem.F.slot_list_append PySem.F.type_list_append rc (pv 4) (za (@zm _ _ _ _ _ _ _ _ ju (@zm _ _ _ _ _ _ _ _ ju (pv 7) (pv 6)) (@zm _ _ _ _ _ _ _ _ ie (pv 3) (@zm _ _ _ _ _ _ _ _ y7 (@zm _ _ _ _ _ _ _ _ xn (pv 0) (@zd _ _ _ _)) (@zd _ _ _ _)))) (@zb _)))))))) rfl @b5);have b3 : PSs (cxOf CX0 P w K mg base ["cell", "many", "letters", "other", "names", "k", "sign", "head"] "_law_names" (zk yd) f cdv A outer s H E).nox ((y0 yd).drop 3) _ := (@nu _ _ _ _ _ _ (zw (i := 4) sc_law_names.nd rfl (Or.inl rfl) (@u6 _ _ _ _ (@zb _))) rfl @b4);have b2 : PSs (cxOf CX0 P w K mg base ["cell", "many", "letters", "other", "names", "k", "sign", "head"] "_law_names" (zk yd) f cdv A outer s H E).nox ((y0 yd).drop 2) _ := (@nu _ _ _ _ _ _ (zw (i := 3) sc_law_names.nd rfl (Or.inl rfl) (@xh _ _ _ _ _ _ _ eh (pv 2) (@zm _ _ _ _ _ _ _ _ y7 (@zm _ _ _ _ _ _ _ _ xn (pv 0) (@zd _ _ _ _)) (@zd _ _ _ _)) (fun _ _ => rfl))) rfl @b3);have b1 : PSs (cxOf CX0 P w K mg base ["cell", "many", "letters", "other", "names", "k", "sign", "head"] "_law_names" (zk yd) f cdv A outer s H E).nox ((y0 yd).drop 1) _ := (@nu _ _ _ _ _ _ (@yq _ _ _ _ _ _ _ _ (@yv _ _ _ _ _ _ _ _ ub (@zm _ _ _ _ _ _ _ _ y7 (pv 0) (@zd _ _ _ _)) (@zd _ _ _ _) (yk _)) (@zc _ _ _ (@zl _ _ _ _ (yl ["k"] ["cell", "many", "letters", "other", "names", "k?", "sign", "head"] rfl (wz rfl B.range (za (pv 1) (@zb _))) (fun _ => (zr (i := 0) (show (["k", "cell", "many", "letters", "other", "names", "k?", "sign", "head"] : List Str).Nodup by decide +kernel) rfl (Or.inl rfl))) (fun _ => (@ya _)) (fun _ => (@zm _ _ _ _ _ _ _ _ ie (@xh _ _ _ _ _ _ _ eh (pv 3) (@zm _ _ _ _ _ _ _ _ y7 (@zm _ _ _ _ _ _ _ _ xn (pv 1) (@zd _ _ _ _)) (@zd _ _ _ _)) (fun _ _ => rfl)) (@zm _ _ _ _ _ _ _ _ we (pv 0) (@zd _ _ _ _)))) rfl (by decide +kernel) rfl rfl))) (@z0 _)) rfl @b2);have b0 : PSs (cxOf CX0 P w K mg base ["cell", "many", "letters", "other", "names", "k", "sign", "head"] "_law_names" (zk yd) f cdv A outer s H E).nox ((y0 yd).drop 0) _ := (@nu _ _ _ _ _ _ (zw (i := 2) sc_law_names.nd rfl (Or.inr rfl) (@ud _ _ _ _)) rfl @b1);have b_ := @zd9 _ _ _ @b0;refine ⟨_, @b_, ?_⟩;rw [show start ["cell", "many", "letters", "other", "names", "k", "sign", "head"] [V.int c, V.int many] = [some (V.int c), some (V.int many), none, none, none, none, none, none] from rfl];simp only [zh, zi, ↓reduceIte];have e5 := yn (c / 5) (show (0 : Int) < 4 by decide);have e7 := yn (c / 7) (show (0 : Int) < 4 by decide);have e78 := yn (c / 78) (show (0 : Int) < 6 by decide);have l1 : ∀ n, (chr1 n).length = 1 := fun n => rfl
    refine ⟨by decide, rfl, ite2 (fun h => ?_) (fun h => ?_)⟩
    . have h := of_decide_eq_true h
      refine ⟨by omega, by omega, fun d => ?_⟩;rw [Zw];refine rn (fun i ys H' => H' = H /\ ys = (yu c i).map V.str) ⟨rfl, rfl⟩ ?_ ?_ ?_
      . rintro i ys H' hi ⟨rfl, rfl⟩
        rw [Za, wm];exact Zd (show i <= 9 by omega) (by decide)
      . rintro i ys H' hi ⟨rfl, rfl⟩
        simp only [zh, zi, ↓reduceIte];have hl1 := dg (Yx (c / 3) (show (26 : Int) ≠ 0 by decide)) (Yg (c / 3) (show (0 : Int) < 26 by decide));refine ⟨⟨by decide, by decide⟩, by decide, by decide, _, hl1, by omega, by omega, ?_, ?_⟩
        . show 1 * _ <= _
          rw [Nat.one_mul];exact Zd (show ((i : Int) + 1).toNat <= 10 by omega) (by decide)
        . rw [lg, vb, if_pos h, Zn, show ((i : Int) + 1).toNat = i + 1 by omega]
          rfl
      . rintro ys H' ⟨rfl, rfl⟩ l hl
        exact q _ l (Same.upd (Same.refl _) hl) hl zf
    . have h : ¬ _ := fun z => h (decide_eq_true z)
      have hl1 := dg (Yx (c / 468) (show (26 : Int) ≠ 0 by decide)) (Yg (c / 468) (show (0 : Int) < 26 by decide));refine ⟨⟨by decide, by decide⟩, by decide, by decide, _, hl1, by decide, fun l hl => ?_⟩;refine ⟨by omega, by omega, ?_⟩;rw [Zw];refine pc (PvNB c many (chr1 (letA (c / 468))) l H) ⟨Same.upd (Same.refl _) hl, zf, _, _, _, rfl⟩ ?_ ?_
      . rintro i σ H' hi ⟨S, hl', t1, t2, t3, rfl⟩
        simp only [zh, zi, ↓reduceIte];have hb := dg (Yx (c / 3 + i * (1 + 2 * (c / 78 % 6))) (show (26 : Int) ≠ 0 by decide)) (Yg (c / 3 + i * (1 + 2 * (c / 78 % 6))) (show (0 : Int) < 26 by decide));refine ⟨⟨by decide, by decide⟩, ⟨by decide, by decide⟩, by decide, .inl ⟨by decide, by decide⟩, .inl ⟨by omega, by omega⟩, by decide, by decide, _, hb, ⟨by decide, by decide⟩, by decide, by omega, by omega, ?_, .inl ⟨rfl, _, .of hl'⟩, ?_, ⟨by decide, by decide⟩, by decide, by omega, by omega, ?_, ?_, _, hl', ?_, Same.upd S hl, ?_, _, _, _, rfl⟩
        . rw [l1]; omega
        . rw [xr, l1]
          exact Zd (show _ <= 20 by show 1 * _ + 1 <= 20; omega) (by decide)
        . rw [l1]; omega
        . rw [ue, xr, xr, l1]
          exact Zd (show _ <= 30 by show 1 * _ + 1 + 1 * _ <= 30; omega) (by decide)
        . rw [Za, wm]
          exact Zh hi (Zd hm (by decide))
        . rw [zf, lg, vb, if_neg h, Zn]
          rfl
      . rintro σ H' ⟨S, hl', t1, t2, t3, rfl⟩
        simp only [zh, zi, ↓reduceIte];exact q _ l S hl hl'
theorem p6 (B : Bt mg) (yo : FnAt P w K mg base "_law_cell" 1 ["script", "k"] (qm K)) (wj : FnAt P w K mg base "_law_number" 1 ["cell", "top"] js) (vj : FnAt P w K mg base "_law_names" 1 ["cell", "many"] kx)
    (D : ze K mg "_law_hands" sk ["script", "places", "top"]) : FnAt P w K mg base "_law_hands" 2 ["script", "places", "top"] (df K) := by
  refine FnAt.of D sc_law_hands (fun vs H Q E h => ?_) (fun f cdv A outer s H vs Q E hr h => ?_)
  . obtain ⟨a, ns, n, top, rfl, _⟩ := h
    rfl
  . obtain ⟨a, ns, n, top, rfl, hS, n1, n4, t0, t1, q⟩ := h
    refine ⟨_, (@zj _ _ _ _ _ (zw (i := 3) sc_law_hands.nd rfl (Or.inl rfl) (@zm _ _ _ _ _ _ _ _ we (@zd _ _ _ _) (@zm _ _ _ _ _ _ _ _ y7 (@zm _ _ _ _ _ _ _ _ xn (zg yo (hr.mono (by decide)) rfl (za (pv 0) (za (@zd _ _ _ _) (@zb _)))) (@zd _ _ _ _)) (@zd _ _ _ _)))) (@zj _ _ _ _ _ (zw (i := 4) sc_law_hands.nd rfl (Or.inl rfl) (zg vj (hr.mono (by decide)) rfl (za (zg yo (hr.mono (by decide)) rfl (za (pv 0) (za (@zd _ _ _ _) (@zb _)))) (za (@zd _ _ _ _) (@zb _))))) (@zj _ _ _ _ _ (zw (i := 5) sc_law_hands.nd rfl (Or.inl rfl) (@u6 _ _ _ _ (@zb _))) (@zj _ _ _ _ _ (zw (i := 6) sc_law_hands.nd rfl (Or.inr rfl) (@zd _ _ _ _)) (@zj _ _ _ _ _ (vc PassesOwn.never rfl (wz rfl B.range (za (pv 3) (@zb _))) (zr (i := 7) sc_law_hands.nd rfl (Or.inl rfl)) (@zj _ _ _ _ _ (zw (i := 8) sc_law_hands.nd rfl (Or.inl rfl) (@zm _ _ _ _ _ _ _ _ we (@zd _ _ _ _) (@zm _ _ _ _ _ _ _ _ y7 (@zm _ _ _ _ _ _ _ _ xn (zg yo (hr.mono (by decide)) rfl (za (pv 0) (za (@zd _ _ _ _) (@zb _)))) (@xh _ _ _ _ _ _ _ qk (@u6 _ _ _ _ (za (@zd _ _ _ _) (za (@zd _ _ _ _) (za (@zd _ _ _ _) (@zb _))))) (pv 7) (fun _ _ => rfl))) (@zd _ _ _ _)))) (@zj _ _ _ _ _ (zw (i := 9) sc_law_hands.nd rfl (Or.inl rfl) (@u6 _ _ _ _ (@zb _))) (@zj _ _ _ _ _ (vc PassesOwn.never rfl (wz rfl B.range (za (pv 8) (@zb _))) (zr (i := 10) sc_law_hands.nd rfl (Or.inl rfl)) (@zj _ _ _ _ _ (wk (pq PySem.F.plainAttrs_list PySem.F.slot_list_append PySem.F.type_list_append rc (pv 9) (za (yl ["j"] ["script", "places", "top", "many", "called", "hands", "spot", "k", "size", "worths", "t"] rfl (wz rfl B.range (za (pv 1) (@zb _))) (fun _ => (zr (i := 0) (show (["j", "script", "places", "top", "many", "called", "hands", "spot", "k", "size", "worths", "t"] : List Str).Nodup by decide +kernel) rfl (Or.inl rfl))) (fun _ => (@ya _)) (fun _ => (zg wj (hr.mono (by decide)) rfl (za (zg yo (hr.mono (by decide)) rfl (za (pv 1) (za (@zm _ _ _ _ _ _ _ _ we (pv 7) (pv 0)) (@zb _)))) (za (pv 3) (@zb _))))) rfl (by decide +kernel) rfl rfl) (@zb _)))) (@zc _ _ _ (zw (i := 6) sc_law_hands.nd rfl (Or.inr rfl) (@zm _ _ _ _ _ _ _ _ we (pv 6) (pv 1)))))) (@zc _ _ _ (wk (pq PySem.F.plainAttrs_list PySem.F.slot_list_append PySem.F.type_list_append rc (pv 5) (@za _ _ _ _ _ (@xy _ _ _ _ _ (@za _ _ _ _ _ (@xh _ _ _ _ _ _ _ qk (pv 4) (pv 7) (fun _ _ => rfl)) (@za _ _ _ _ _ (zg vj (hr.mono (by decide)) rfl (@za _ _ _ _ _ (zg yo (hr.mono (by decide)) rfl (@za _ _ _ _ _ (pv 0) (@za _ _ _ _ _ (@zm _ _ _ _ _ _ _ _ we (@zd _ _ _ _) (pv 7)) (@zb _) (zy nofun)) (zy nofun))) (@za _ _ _ _ _ (pv 8) (@zb _) (zy nofun)) (zy nofun))) (@za _ _ _ _ _ (pv 9) (@zb _) (zy nofun)) (zy nofun)) (zy nofun))) (@zb _) (zy nofun))))))))) (@zc _ _ _ (@zl _ _ _ _ (pv 5)))))))), ?_⟩;rw [show start ["script", "places", "top", "many", "called", "hands", "spot", "k", "size", "worths", "t"] [V.ref a, V.int n, V.int top] = [some (V.ref a), some (V.int n), some (V.int top), none, none, none, none, none, none, none, none] from rfl];simp only [zh, zi, ↓reduceIte];have hN := v7 ns;have h0 := yn (zx ns 0 / 4) (show (0 : Int) < 3 by decide);refine ⟨a, ns, 0, rfl, hS, ?_⟩;simp only [zh, zi, ↓reduceIte];refine ⟨⟨by decide, by decide⟩, by decide, ?_⟩;rw [show 1 + zx ns 0 / 4 % 3 = ((y4 ns : Nat) : Int) by unfold y4; omega];refine ⟨a, ns, 6, rfl, hS, zx ns 6, 3, rfl, by decide, fun H1 cl S1 hcl hcl1 => ?_⟩;simp only [zh, zi, ↓reduceIte];refine ⟨by decide, fun b hb => ?_⟩;refine ⟨by omega, by omega, ?_⟩;rw [Zw];refine pc (PvHB a cl b ns n top H1) ⟨[], _, _, _, _, NewHands.nil (Same.refl _) hb, rfl⟩ ?_ ?_
    . rintro j σ H' hj ⟨xs, t1', t2', t3', t4', G, rfl⟩
      simp only [zh, zi, ↓reduceIte];have SA := S1.trans G.same;refine ⟨a, ns, 1, rfl, SA.seq hS, by decide, fun p1 hp1 => ?_⟩;have S2 : Same H' (upd H' p1 (.lst [V.int 1, V.int 3, V.int 9])) := Same.upd (Same.refl _) hp1;have hl2 : upd H' p1 (.lst [V.int 1, V.int 3, V.int 9]) p1 = some (.lst [V.int 1, V.int 3, V.int 9]) := zf;generalize upd H' p1 (.lst [V.int 1, V.int 3, V.int 9]) = H2 at *
      have hdiv : [V.int 1, V.int 3, V.int 9][j]? = some (V.int (([1, 3, 9] : List Int).getD j 0)) /\ 0 < ([1, 3, 9] : List Int).getD j 0 /\ ([1, 3, 9] : List Int).getD j 0 < 1073741824 := by
        have : ∀ k : _root_.Fin 3, [V.int 1, V.int 3, V.int 9][k.val]? = some (V.int (([1, 3, 9] : List Int).getD k.val 0)) /\ 0 < ([1, 3, 9] : List Int).getD k.val 0 /\ ([1, 3, 9] : List Int).getD k.val 0 < 1073741824 := by decide
        exact this ⟨j, by omega⟩
      refine ⟨_, .of hl2, _, yr hdiv.1, _, rfl, _, rfl, ⟨hdiv.2.1, hdiv.2.2⟩, by decide, by decide, fun g hg => ?_⟩;have hwN := uv ns j;have h3 := yn (zx ns 1 / ([1, 3, 9] : List Int).getD j 0) (show (0 : Int) < 3 by decide);refine ⟨by omega, by omega, ?_⟩;rw [show (1 + zx ns 1 / ([1, 3, 9] : List Int).getD j 0 % 3).toNat = xw ns j from rfl, show 1 + zx ns 1 / ([1, 3, 9] : List Int).getD j 0 % 3 = ((xw ns j : Nat) : Int) by unfold xw; omega];have SB := SA.trans S2;have GG := G.more S2;refine pc (PvGB a cl b g ns n top H2 j) ⟨[], _, NewGrid.nil (Same.refl _) hg, by rw [Nat.zero_mul, Nat.add_zero]⟩ ?_ ?_
      . rintro m σ H5 hm ⟨gs, t4, NG, rfl⟩
        simp only [zh, zi, ↓reduceIte];have So : Same H H5 := SB.trans NG.same;refine ⟨.inl ⟨rfl, _, .of NG.at'⟩, by omega, by omega, fun d => ?_⟩;rw [Zw];refine rn (PvRB ns top H5 (xt ns n j + m * n)) ⟨rfl, rfl⟩ ?_ ?_ ?_
        . rintro i ys H6 hi ⟨rfl, rfl⟩
          rw [Za, kn];exact Zd (show i <= 8 by omega) (by decide)
        . rintro i ys H6 hi ⟨rfl, rfl⟩
          simp only [zh, zi, ↓reduceIte];refine ⟨a, ns, xt ns n j + m * n + i, ?_, So.seq hS, zx ns (xt ns n j + m * n + i), top, rfl, t0, t1, rfl, ?_⟩
          . rw [show ((xt ns n j + m * n : Nat) : Int) + (i : Int) = ((xt ns n j + m * n + i : Nat) : Int) by omega]
          rw [zaw, Zn];rfl
        . rintro ys H6 ⟨rfl, rfl⟩ l hl
          have hgl : g ≠ l := xk NG.at' hl;refine ⟨gs.map V.ref, by rw [zp hgl]; exact NG.at', ?_, ?_⟩
          . rw [Za, NG.lb]
            exact Zh hm (Zd hwN.2 (by decide))
          . have NG2 := NG.laid (c := l) (o := .lst ((rowB ns top (xt ns n j + m * n) n).map V.int)) hl
            have NG3 := NG2.snoc (c := l) (ns := rowB ns top (xt ns n j + m * n) n) (NG.same.free hl) zf (kn ..) (fun z => by
              obtain ⟨k, hk, e⟩ := Zy z;have e1 : gs[k]? = some l := by rw [<- e]; simp [hk]
              have hk2 : k < (vq ns top (xt ns n j) n m).length := by rw [NG.lr, <- NG.lb]; exact hk
              have e2 : (vq ns top (xt ns n j) n m)[k]? = some (vq ns top (xt ns n j) n m)[k] := by simp [hk2]
              have := (NG.row k l _ e1 e2).1
              rw [hl] at this; cases this) (Ne.symm hgl)
            refine ⟨gs ++ [l], some (V.int (m : Nat)), ?_, ?_⟩
            . rw [zal]
              exact NG3
            . rw [show ((xt ns n j + m * n : Nat) : Int) + (n : Int) = ((xt ns n j + (m + 1) * n : Nat) : Int) by rw [Nat.succ_mul]; omega]
      . rintro σ H5 ⟨gs, t4, NG, rfl⟩
        simp only [zh, zi, ↓reduceIte];have S5 := NG.same;have GH := GG.more S5;have hb5 := GH.at';have So : Same H H5 := SB.trans NG.same;have hcl5 : H5 cl = some (.lst ((yu (zx ns 6) 3).map V.str)) := (G.same.trans (S2.trans S5)) _ _ hcl1;refine ⟨.inl ⟨rfl, _, .of hb5⟩, _, .of hcl5, V.str (vb (zx ns 6) j), ?_, ?_⟩
        . refine yr ?_
          rw [Ze, yu, Ze, List.getElem?_range (show j < 3 by omega)];rfl
        refine ⟨a, ns, 3 + j, ?_, So.seq hS, ?_⟩
        . rw [show (3 : Int) + (j : Int) = ((3 + j : Nat) : Int) by omega]
        refine ⟨zx ns (3 + j), xw ns j, rfl, by omega, fun H7 wl S7 hwl hwl7 => ⟨by decide, fun tt htt => ?_⟩⟩;have S8 : Same H7 (upd H7 tt (.tup [V.str (vb (zx ns 6) j), V.ref wl, V.ref g])) := Same.upd (Same.refl _) htt;have htt8 : upd H7 tt (.tup [V.str (vb (zx ns 6) j), V.ref wl, V.ref g]) tt = some (.tup [V.str (vb (zx ns 6) j), V.ref wl, V.ref g]) := zf;generalize upd H7 tt (.tup [V.str (vb (zx ns 6) j), V.ref wl, V.ref g]) = H8 at *;have S58 := S7.trans S8;have G7 := GH.more S7;have G8 := GH.more S58;have hb8 := G8.at';have hd : HandAt H8 ⟨tt, wl, g, gs⟩ (ff ns top n j) := ⟨htt8, S8 _ _ hwl7, S58 _ _ NG.at', by rw [NG.lb]; exact (gb ..).symm, fun i r ms e1 e2 => S58 _ _ (NG.row i r ms e1 e2).1⟩
        have h2 : ∀ y ∈ g :: gs, H2 y = none := fun y hy => by
          rcases ZK.mp hy with e | z
          . rw [e]; exact hg
          . exact NG.nr y z
        have S12 : Same H1 H2 := GG.same
        have h5 : ∀ y ∈ g :: gs, H5 y ≠ none := fun y hy => by
          rcases ZK.mp hy with e | z
          . rw [e, NG.at']; simp
          . obtain ⟨k, hk, e⟩ := Zy z
            have e1 : gs[k]? = some y := by rw [<- e]; simp [hk]
            have hk2 : k < (vq ns top (xt ns n j) n (xw ns j)).length := by rw [NG.lr, <- NG.lb]; exact hk
            have e2 : (vq ns top (xt ns n j) n (xw ns j))[k]? = some (vq ns top (xt ns n j) n (xw ns j))[k] := by simp [hk2]
            rw [(NG.row k y _ e1 e2).1]; simp
        have htt5 : H5 tt = none := S7.free htt;refine ⟨_, hb8, ?_, ?_⟩
        . rw [Za, G.len, wf, Za, ZN]
          exact Zh (show j < 3 by omega) (by decide)
        refine ⟨xs ++ [⟨tt, wl, g, gs⟩], _, _, _, _, ?_, rfl⟩;rw [c9];refine G8.snoc hd (fun y hy => ?_) ?_ (fun y hy => ?_) ?_
        . rcases ZK.mp hy with e | hy
          . rw [e]; exact (S12.trans S5).free htt5
          rcases ZK.mp hy with e | hy
          . rw [e]; exact (S12.trans S5).free hwl
          . exact S12.free (h2 y hy)
        . refine ZR.mpr ⟨fun z => ?_, ZR.mpr ⟨fun z => h5 _ z hwl, ZR.mpr ⟨NG.ne, NG.nd⟩⟩⟩
          rcases ZK.mp (show tt ∈ wl :: g :: gs from z) with e | z
          . rw [e, hwl7] at htt; cases htt
          . exact h5 _ z htt5
        . intro hz
          rcases ZK.mp hy with e | hy
          . rw [e] at hz; exact G7.old _ hz htt
          rcases ZK.mp hy with e | hy
          . rw [e] at hz; exact GH.old _ hz hwl
          . exact GG.old _ hz (h2 y hy)
        . intro hz
          rcases ZK.mp (show b ∈ tt :: wl :: g :: gs from hz) with e | hz
          . rw [<- e, G7.at'] at htt; cases htt
          rcases ZK.mp hz with e | hz
          . rw [<- e, GH.at'] at hwl; cases hwl
          . have := h2 _ hz
            rw [GG.at'] at this; cases this
    . rintro σ H' ⟨xs, t1', t2', t3', t4', G, rfl⟩
      simp only [zh, zi, ↓reduceIte];exact q H' b xs (G.from S1)
end
def w4 (d : HD) (z : Str) : List Int := d.worths.getD (d.words.idxOf z) []
def fg (d : HD) (wt : Int) (z : Str) : List Int := (w4 d z).map fun n => wt * n
def ma (ds : List HD) (ws : List Int) (r : List Str) (i : Nat) : List Int := match ds[i]?, ws[i]?, r[i]? with
  | some d, some w, some z => fg d w z
  | _, _, _ => []
def yy (ds : List HD) (ws : List Int) (r : List Str) (n : Nat) : List (List Int) := (List.range n).map (ma ds ws r)
def y9 (hc : List Int) (ps : List (List Int)) : List Int := ps.foldl (fun t p => List.zipWith (· + ·) t p) hc
theorem o0 (ds : List HD) (ws : List Int) (r : List Str) (n : Nat) : (yy ds ws r n).length = n := by rw [yy, Za, ZN]
theorem cu (ds : List HD) (ws : List Int) (r : List Str) (n : Nat) : yy ds ws r (n + 1) = yy ds ws r n ++ [ma ds ws r n] := by rw [yy, ZV, Zn]; rfl
theorem cw (hc : List Int) (ps : List (List Int)) (p : List Int) : y9 hc (ps ++ [p]) = List.zipWith (· + ·) (y9 hc ps) p := by rw [y9, List.foldl_append]; rfl
theorem qg {n : Nat} : ∀ (ps : List (List Int)) (hc : List Int), hc.length = n -> (∀ p ∈ ps, p.length = n) -> (y9 hc ps).length = n
  | [], hc, h, _ => h
  | p :: ps, hc, h, hp => by
    refine qg ps _ ?_ fun q hq => hp q (Zv _ hq)
    rw [Yj, h, hp p ZA, YH]
theorem eu : ∀ {zs : List Str} {m : Nat} {z : Str}, zs[m]? = some z -> zs.idxOf z <= m
  | [], m, z, h => by simp at h
  | y :: zs, 0, z, h => by
    simp at h;subst h;simp
  | y :: zs, m + 1, z, h => by
    rw [List.idxOf_cons]
    cases y == z with
    | true => exact ZE _
    | false => exact Yi (eu (by simpa using h))
theorem aa (y z : Str) : eqV (V.str y) (V.str z) = decide (y = z) := rfl
theorem zau {zs : List Str} {z : Str} (h : z ∈ zs) : FirstAt (zs.map V.str) (V.str z) (zs.idxOf z) := by
  have hl := Zz.mpr h;refine ⟨rfl, ?_, ⟨V.str z, ?_, ?_⟩, fun m y hm e => ?_⟩
  . rw [ZL]
    intro x hx;obtain ⟨y, _, rfl⟩ := Zp.mp hx;rfl
  . rw [Ze, Zb hl, List.getElem_idxOf]
    rfl
  . rw [aa]
    exact decide_eq_true rfl
  . rw [Ze] at e
    have hml : m < zs.length := by omega
    rw [Zb hml] at e;cases e;rw [aa, decide_eq_false];intro ez;have := Zz.mpr h
    have hle : zs.idxOf z <= m := by
      exact eu (by rw [Zb hml, ez])
    omega
def rp (ds : List HD) (r : List Str) : Prop := r.length = ds.length /\ ∀ (i : Nat) (d : HD) (z : Str), ds[i]? = some d -> r[i]? = some z -> z ∈ d.words
def jk (K : Fg) : Sp := fun vs H Q _ => ∃ (t : Addr) (d : HD) (w g : Addr) (gs : List Addr) (z : Str), vs = [.ref t, .str z] /\ HHand H t d w g gs /\ z ∈ d.words /\ d.worths.length = d.words.length /\ ∀ r, H r = some (.tup ((w4 d z).map V.int)) -> Q (.ref r) H
def zb5 (K : Fg) : Sp := fun vs H Q _ => ∃ (t : Addr) (d : HD) (w g : Addr) (gs : List Addr) (wt : Int) (z : Str), vs = [.ref t, .int wt, .str z] /\ HHand H t d w g gs /\ z ∈ d.words /\ d.worths.length = d.words.length /\ (∀ r ∈ d.worths, r.length <= 8) /\ yw wt /\ (∀ r ∈ d.worths, ∀ i ∈ r, yw i) /\ ∀ H' l, Same H H' -> H' l = some (.lst ((fg d wt z).map V.int)) -> Q (.ref l) H'
def PvPart (H : Hp) (wt : Int) (ns : List Int) (i : Nat) (ys : List V) (H' : Hp) : Prop := H' = H /\ ys = ((ns.take i).map fun n => wt * n).map V.int
structure IntsAt (H : Hp) (ls : List Addr) (ps : List (List Int)) : Prop where
  len : ls.length = ps.length
  at' : ∀ (i : Nat) (l : Addr) (p : List Int), ls[i]? = some l -> ps[i]? = some p -> H l = some (.lst (p.map V.int))
theorem IntsAt.mono {H H' : Hp} {ls : List Addr} {ps : List (List Int)} (S : Same H H') (h : IntsAt H ls ps) : IntsAt H' ls ps := ⟨h.len, fun i l p e1 e2 => S _ _ (h.at' i l p e1 e2)⟩
theorem IntsAt.snoc {H : Hp} {ls : List Addr} {ps : List (List Int)} {l : Addr} {p : List Int} (h : IntsAt H ls ps) (hl : H l = some (.lst (p.map V.int))) : IntsAt H (ls ++ [l]) (ps ++ [p]) := by
  refine ⟨by simp [h.len], fun i a q e1 e2 => ?_⟩
  by_cases hi : i < ls.length
  . rw [Zg hi] at e1
    rw [Zg (by rw [<- h.len]; exact hi)] at e2;exact h.at' i a q e1 e2
  . rw [Zf (ZD.mp hi)] at e1
    rw [Zf (by rw [<- h.len]; exact ZD.mp hi)] at e2
    have h0 : i - ls.length = 0 := by
      have := (Zc.mp e1).1;simp at this;omega
    rw [h0] at e1;rw [<- h.len, h0] at e2;simp at e1 e2;subst e1 e2;exact hl
def su (K : Fg) : Sp := fun vs H Q _ => ∃ (p o h l r : Addr) (hs : List Addr) (outs : List Str) (ds : List HD) (ws : List Int) (row : List Str), vs = [.ref p, .ref l, .ref r] /\ HHouse H p o h hs outs ds /\ GoodHouse outs ds /\ H l = some (.lst (ws.map V.int)) /\ ws.length = ds.length /\ (∀ i ∈ ws, yw i /\ 1 <= i) /\ SqT K H r (row.map V.str) /\ rp ds row /\
  ∀ H' l' ls, Same H H' -> H' l' = some (.lst (ls.map V.ref)) -> IntsAt H' ls (yy ds ws row ds.length) -> Q (.ref l') H'
def zdv (H : Hp) (ds : List HD) (ws : List Int) (row : List Str) (i : Nat) (ys : List V) (H' : Hp) : Prop := Same H H' /\ ∃ ls : List Addr, ys = ls.map V.ref /\ IntsAt H' ls (yy ds ws row i)
def i6 (K : Fg) : Sp := fun vs H Q _ => ∃ (p o h l m : Addr) (hs : List Addr) (outs : List Str) (ds : List HD) (ws hc : List Int), vs = [.ref p, .ref l, .ref m] /\ HHouse H p o h hs outs ds /\ GoodHouse outs ds /\ H l = some (.lst (ws.map V.int)) /\ ws.length = ds.length /\ (∀ i ∈ ws, yw i /\ 1 <= i) /\ H m = some (.lst (hc.map V.int)) /\ hc.length = outs.length /\ (∀ i ∈ hc, yw i) /\ ∀ H', Same H H' -> Q .non H'
def za1 (K : Fg) : Sp := fun vs H Q _ => ∃ (p o h l : Addr) (hs : List Addr) (outs : List Str) (ds : List HD) (ws : List Int), vs = [.ref p, .ref l] /\ HHouse H p o h hs outs ds /\ GoodHouse outs ds /\ H l = some (.lst (ws.map V.int)) /\ ws.length = ds.length /\ (∀ i ∈ ws, yw i /\ 1 <= i) /\ ∀ H', Same H H' -> Q (.bl true) H'
def zbu (K : Fg) : Sp := fun vs H Q _ => ∃ (p o h m : Addr) (hs : List Addr) (outs : List Str) (ds : List HD) (hc : List Int), vs = [.ref p, .ref m] /\ HHouse H p o h hs outs ds /\ GoodHouse outs ds /\ H m = some (.lst (hc.map V.int)) /\ hc.length = outs.length /\ (∀ i ∈ hc, yw i) /\ ∀ H', Same H H' -> Q (.bl true) H'
def ou (K : Fg) : Sp := fun vs H Q _ => ∃ (p o h l m r : Addr) (hs : List Addr) (outs : List Str) (ds : List HD) (ws hc : List Int) (row : List Str), vs = [.ref p, .ref l, .ref m, .ref r] /\ HHouse H p o h hs outs ds /\ GoodHouse outs ds /\ H l = some (.lst (ws.map V.int)) /\ ws.length = ds.length /\ (∀ i ∈ ws, yw i /\ 1 <= i) /\ H m = some (.lst (hc.map V.int)) /\ hc.length = outs.length /\ (∀ i ∈ hc, yw i) /\ SqT K H r (row.map V.str) /\ rp ds row /\
  ∀ H' l', Same H H' -> H l' = none -> H' l' = some (.lst ((y9 hc (yy ds ws row ds.length)).map V.int)) -> Q (.ref l') H'
def PvSc (p l m r lp : Addr) (H0 H : Hp) (ls : List Addr) (ps : List (List Int)) (hc : List Int) (i : Nat) (σ : L2.St) (H' : Hp) : Prop := Same H H' /\ ∃ (t : Addr) (v : Option V), H0 t = none /\ H' t = some (.lst ((y9 hc (ps.take i)).map V.int)) /\ σ = [some (.ref p), some (.ref l), some (.ref m), some (.ref r), some (.ref t), v]
def PvZw (H : Hp) (as bs : List Int) (i : Nat) (ys : List V) (H' : Hp) : Prop := Same H H' /\ ys = (List.zipWith (· + ·) (as.take i) (bs.take i)).map V.int
theorem zen {as bs : List Int} {i : Nat} {x y : Int} (h1 : as[i]? = some x) (h2 : bs[i]? = some y) : List.zipWith (· + ·) (as.take (i + 1)) (bs.take (i + 1)) = List.zipWith (· + ·) (as.take i) (bs.take i) ++ [x + y] := by
  have hl1 := (Zc.mp h1).1;have hl2 := (Zc.mp h2).1;rw [Zq, Zq, h1, h2];exact List.zipWith_append (by rw [Zj, Zj]; omega)
theorem ni {outs : List Str} {ds : List HD} (G : GoodHouse outs ds) {ws : List Int} {row : List Str} (lw : ws.length = ds.length) (R : rp ds row) {i : Nat} (hi : i < ds.length) : (ma ds ws row i).length = outs.length := by
  have e1 : ds[i]? = some ds[i] := Zb hi;have e2 : ws[i]? = some (ws[i]'(by omega)) := Zb (by omega);have e3 : row[i]? = some (row[i]'(by rw [R.1]; exact hi)) := Zb (by rw [R.1]; exact hi);have hz := R.2 i _ _ e1 e3;have hm := Zl hi;unfold ma;rw [e1, e2, e3]
  show (fg _ _ _).length = _
  rw [fg, Za];have hx := Zz.mpr hz;have hr : (ds[i]).words.idxOf (row[i]'(by rw [R.1]; exact hi)) < (ds[i]).worths.length := by rw [G.rows _ hm]; exact hx
  rw [w4, Zk, Zb hr];exact G.cols _ hm _ (Zl hr)
section
variable {P : Program} {w : World} {K : Fg} {mg : Str -> Option Value} {base : Heap} {a : Ad}
theorem gj (D : ze K mg "outcomes_of" um ["house"]) : FnAt P w K mg base "outcomes_of" 1 ["house"] (va K 0) := by
  refine FnAt.of D ik (fun vs H Q E h => ?_) (fun f cdv A outer s H vs Q E hr h => ?_)
  . obtain ⟨t, us, v, rfl, _⟩ := h
    rfl
  . obtain ⟨t, us, v, rfl, ht, e, q⟩ := h
    refine ⟨_, (@zc _ _ _ (@zl _ _ _ _ (@xh _ _ _ _ _ _ _ wa (pv 0) (@zd _ _ _ _) (fun _ _ => rfl)))), ?_⟩;rw [show start ["house"] [V.ref t] = [some (V.ref t)] from rfl];simp only [zh, zi, ↓reduceIte];exact ⟨_, ht, _, yr (j := 0) e, q⟩
theorem k9 (D : ze K mg "worths_of_hand" x0 ["hand"]) : FnAt P w K mg base "worths_of_hand" 1 ["hand"] (va K 2) := by
  refine FnAt.of D rk (fun vs H Q E h => ?_) (fun f cdv A outer s H vs Q E hr h => ?_)
  . obtain ⟨t, us, v, rfl, _⟩ := h
    rfl
  . obtain ⟨t, us, v, rfl, ht, e, q⟩ := h
    refine ⟨_, (@zc _ _ _ (@zl _ _ _ _ (@xh _ _ _ _ _ _ _ wa (pv 0) (@zd _ _ _ _) (fun _ _ => rfl)))), ?_⟩;rw [show start ["hand"] [V.ref t] = [some (V.ref t)] from rfl];simp only [zh, zi, ↓reduceIte];exact ⟨_, ht, _, yr (j := 2) e, q⟩
theorem p7 (ye : FnAt P w K mg base "words_of_hand" 1 ["hand"] (va K 1)) (xg : FnAt P w K mg base "worths_of_hand" 1 ["hand"] (va K 2)) (D : ze K mg "worths_by" sf ["hand", "word"]) : FnAt P w K mg base "worths_by" 2 ["hand", "word"] (jk K) := by
  refine FnAt.of D fi (fun vs H Q E h => ?_) (fun f cdv A outer s H vs Q E hr h => ?_)
  . obtain ⟨t, d, wd, g, gs, z, rfl, _⟩ := h
    rfl
  . obtain ⟨t, d, wd, g, gs, z, rfl, hK, hz, hl, q⟩ := h
    refine ⟨_, (@zc _ _ _ (@zl _ _ _ _ (@xh _ _ _ _ _ _ _ wa (zg xg (hr.mono (by decide)) rfl (za (pv 0) (@zb _))) (pe_bmT PySem.F.plainAttrs_tuple PySem.F.slot_tuple_index PySem.F.type_tuple_index zby (zg ye (hr.mono (by decide)) rfl (za (pv 0) (@zb _))) (za (pv 1) (@zb _))) (fun _ _ => rfl)))), ?_⟩;rw [show start ["hand", "word"] [V.ref t, V.str z] = [some (V.ref t), some (V.str z)] from rfl];simp only [zh, zi, ↓reduceIte];have hx := Zz.mpr hz;have hr : d.words.idxOf z < d.worths.length := by rw [hl]; exact hx
    obtain ⟨r, er⟩ : ∃ r, gs[d.words.idxOf z]? = some r := ⟨gs[d.words.idxOf z]'(by rw [hK.len]; exact hr), by simp⟩;have hrow := hK.row _ r _ er (Zb hr);refine ⟨t, _, _, rfl, .of hK.tup, rfl, t, _, _, rfl, .of hK.tup, rfl, ?_⟩;refine ⟨⟨wd, rfl, _, .of hK.words⟩, wd, rfl, _, .of hK.words, _, zau hz, g, rfl, _, .of hK.grid, _, yr (v := V.ref r) (by rw [Ze, er]; rfl), q r ?_⟩;rw [w4, Zk, Zb hr];exact hrow
theorem dc {d : HD} {z : Str} (h : ∀ r ∈ d.worths, r.length <= 8) : (w4 d z).length <= 8 := by
  rw [w4, Zk]
  cases e : d.worths[d.words.idxOf z]? with
  | none => exact ZE _
  | some r => exact h r (Zi e)
theorem mm (p7 : FnAt P w K mg base "worths_by" 2 ["hand", "word"] (jk K)) (D : ze K mg "part_of" pp ["hand", "weight", "word"]) : FnAt P w K mg base "part_of" 3 ["hand", "weight", "word"] (zb5 K) := by
  refine FnAt.of D zae (fun vs H Q E h => ?_) (fun f cdv A outer s H vs Q E hr h => ?_)
  . obtain ⟨t, d, wd, g, gs, wt, z, rfl, _⟩ := h
    rfl
  . obtain ⟨t, d, wd, g, gs, wt, z, rfl, hK, hz, hl, h8, hwt, hwn, q⟩ := h
    have hlen := dc (z := z) h8;refine ⟨_, (@zc _ _ _ (@zl _ _ _ _ (yl ["worth"] ["hand", "weight", "word"] rfl (@fv _ _ _ _ (zg p7 (hr.mono (by decide)) rfl (za (pv 0) (za (pv 2) (@zb _))))) (fun _ => (zr (i := 0) (show (["worth", "hand", "weight", "word"] : List Str).Nodup by decide +kernel) rfl (Or.inl rfl))) (fun _ => (@ya _)) (fun _ => (@zm _ _ _ _ _ _ _ _ zeu (pv 2) (pv 0))) rfl (by decide +kernel) rfl rfl))), ?_⟩;rw [show start ["hand", "weight", "word"] [V.ref t, V.int wt, V.str z] = [some (V.ref t), some (V.int wt), some (V.str z)] from rfl];simp only [zh, zi, ↓reduceIte];refine ⟨t, d, wd, g, gs, z, rfl, hK, hz, hl, fun r hrr => ⟨r, rfl, ⟨_, .of hrr⟩, fun dd => ?_⟩⟩;refine fz (xs := (w4 d z).map V.int) (PvPart H wt (w4 d z)) ⟨rfl, rfl⟩ ?_ ?_ ?_
    . rintro i ys H2 hi ⟨rfl, rfl⟩
      refine ⟨?_, .of hrr⟩;rw [Za, Za, Zj];exact Zd (ZB _ _) (Zd hlen (by decide))
    . rintro i y ys H2 hy ⟨rfl, rfl⟩
      obtain ⟨x, hx, rfl⟩ := yf hy;simp only [zh, zi, ↓reduceIte]
      have hgx : yw x := by
        have hm := Zi hx;rw [w4, Zk] at hm
        cases e : d.worths[d.words.idxOf z]? with
        | none => rw [e] at hm; cases hm
        | some r => rw [e] at hm; exact hwn r (Zi e) x hm
      refine ⟨⟨⟨by have := hwt.1; omega, by have := hwt.2; omega⟩, by have := hgx.1; omega, by have := hgx.2; omega⟩, rfl, ?_⟩;rw [Zq, hx, Zn, Zn];rfl
    . rintro ys H2 ⟨rfl, rfl⟩ l hll
      rw [Za, Zt];exact q _ l (Same.upd (Same.refl _) hll) zf
theorem xz (B : Bt mg) (f_hands_of : FnAt P w K mg base "hands_of" 1 ["house"] (va K 1)) (mm : FnAt P w K mg base "part_of" 3 ["hand", "weight", "word"] (zb5 K)) (D : ze K mg "parts_of" qe ["house", "weights", "row"]) : FnAt P w K mg base "parts_of" 4 ["house", "weights", "row"] (su K) := by
  refine FnAt.of D cp (fun vs H Q E h => ?_) (fun f cdv A outer s H vs Q E hr h => ?_)
  . obtain ⟨p, o, h, l, r, hs, outs, ds, ws, row, rfl, _⟩ := h
    rfl
  . obtain ⟨p, o, h, l, r, hs, outs, ds, ws, row, rfl, hH, G, hw, lw, gw, hrow, R, q⟩ := h
    refine ⟨_, (@zc _ _ _ (@zl _ _ _ _ (yl ["hand", "weight", "word"] ["house", "weights", "row"] rfl (zer rfl B.zip (za (zg f_hands_of (hr.mono (by decide)) rfl (za (pv 0) (@zb _))) (za (pv 1) (za (pv 2) (@zb _))))) (fun _ => (jb rfl (w9 (zr (i := 0) (show (["hand", "weight", "word", "house", "weights", "row"] : List Str).Nodup by decide +kernel) rfl (Or.inl rfl)) (w9 (zr (i := 1) (show (["hand", "weight", "word", "house", "weights", "row"] : List Str).Nodup by decide +kernel) rfl (Or.inl rfl)) (w9 (zr (i := 2) (show (["hand", "weight", "word", "house", "weights", "row"] : List Str).Nodup by decide +kernel) rfl (Or.inl rfl)) (@mr _)))))) (fun _ => (@ya _)) (fun _ => (zg mm (hr.mono (by decide)) rfl (za (pv 0) (za (pv 1) (za (pv 2) (@zb _)))))) rfl (by decide +kernel) rfl rfl))), ?_⟩;rw [show start ["house", "weights", "row"] [V.ref p, V.ref l, V.ref r] = [some (V.ref p), some (V.ref l), some (V.ref r)] from rfl];simp only [zh, zi, ↓reduceIte];have h4 := G.hands.2;refine ⟨p, _, _, rfl, .of hH.tup, rfl, h, rfl, ?_⟩
    have all : ∀ H', Same H H' -> v5 K H' [h, l, r] [hs.map V.ref, ws.map V.int, row.map V.str] := fun H' S => ⟨rfl, fun j a xs e1 e2 => by
      match j with
      | 0 => simp at e1 e2; subst e1 e2; exact .inr (.of (S _ _ hH.hands))
      | 1 => simp at e1 e2; subst e1 e2; exact .inl (.of (S _ _ hw))
      | 2 => simp at e1 e2; subst e1 e2; exact .inr (S.seqT hrow)
      | j + 3 => simp at e1⟩
    refine ⟨⟨_, all H (Same.refl _)⟩, fun dd => ?_⟩;refine zax (xss := [hs.map V.ref, ws.map V.int, row.map V.str]) (n := ds.length) (zdv H ds ws row) ⟨Same.refl _, [], rfl, rfl, fun i l p e => by simp at e⟩ (fun xs hx => ?_) ⟨hs.map V.ref, by simp, by rw [Za]; exact hH.hand.1⟩ ?_ ?_ ?_
    . simp only [ZK, Zx, or_false] at hx
      rcases hx with rfl | rfl | rfl
      . rw [Za, hH.hand.1]; exact Zm _
      . rw [Za, lw]; exact Zm _
      . rw [Za, R.1]; exact Zm _
    . rintro i ys H2 hi ⟨S, ls, rfl, hI⟩
      refine ⟨?_, all H2 S⟩;rw [Za, hI.len, o0];exact Zd hi (Zd h4 (by decide))
    . rintro i vs ys H2 T hi lv hv hT ⟨S, ls, rfl, hI⟩
      have e0 := hv 0 _ rfl;have e1 := hv 1 _ rfl;have e2 := hv 2 _ rfl;have hd : ds[i]? = some ds[i] := Zb hi;obtain ⟨t, ht⟩ : ∃ t, hs[i]? = some t := ⟨hs[i]'(by rw [hH.hand.1]; exact hi), by simp⟩;obtain ⟨wt, hwt⟩ : ∃ t, ws[i]? = some t := ⟨ws[i]'(by rw [lw]; exact hi), by simp⟩;obtain ⟨z, hz⟩ : ∃ t, row[i]? = some t := ⟨row[i]'(by rw [R.1]; exact hi), by simp⟩;rw [Ze, ht] at e0;rw [Ze, hwt] at e1;rw [Ze, hz] at e2
      have ev : vs = [V.ref t, V.int wt, V.str z] := by
        match vs, lv with
        | [x, y, u], _ =>
          simp at e0 e1 e2;rw [<- e0, <- e1, <- e2]
      subst ev;have S1 : Same H2 (upd H2 T (.tup [V.ref t, V.int wt, V.str z])) := Same.upd (Same.refl _) hT;simp only [zh, zi, ↓reduceIte];refine ⟨_, .of zf, rfl, ?_⟩;generalize upd H2 T (.tup [V.ref t, V.int wt, V.str z]) = H3 at *;simp only [zh, zi, ↓reduceIte];obtain ⟨wd, g, gs, hk⟩ := (hH.hand.mono (S.trans S1)).2 i t _ ht hd;have hm := Zl hi;have hG := G.hand hm;have ho8 := G.outs1.2;refine ⟨t, ds[i], wd, g, gs, wt, z, rfl, hk, R.2 i _ z hd hz, hG.rows, fun r' hr' => by rw [(hG.cols r' hr').1]; exact ho8, (gw wt (Zi hwt)).1, fun r' hr' => (hG.cols r' hr').2, fun H4 l4 S4 hl4 => ?_⟩;refine ⟨S.trans (S1.trans S4), ls ++ [l4], by simp, ?_⟩;rw [cu];refine (hI.mono (S1.trans S4)).snoc ?_;rw [hl4, ma, hd, hwt, hz]
    . rintro ys H2 ⟨S, ls, rfl, hI⟩ l2 hl2
      exact q _ l2 ls (S.trans (Same.upd (Same.refl _) hl2)) zf (hI.mono (Same.upd (Same.refl _) hl2))
theorem wo (B : Bt mg) (f_outcomes_of : FnAt P w K mg base "outcomes_of" 1 ["house"] (va K 0)) (yp : FnAt P w K mg base "is_grid_row" 3 ["thing", "width"] qRow) (D : ze K mg "are_handicaps" wu ["house", "thing"]) : FnAt P w K mg base "are_handicaps" 4 ["house", "thing"] (zbu K) := by
  refine FnAt.of D qw (fun vs H Q E h => ?_) (fun f cdv A outer s H vs Q E hr h => ?_)
  . obtain ⟨p, o, h, m, hs, outs, ds, hc, rfl, _⟩ := h
    rfl
  . obtain ⟨p, o, h, m, hs, outs, ds, hc, rfl, hH, G, hm, lh, gh, q⟩ := h
    refine ⟨_, (@zc _ _ _ (@zl _ _ _ _ (zg yp (hr.mono (by decide)) rfl (za (pv 1) (za (zn zz rfl B.len xm (za (zg f_outcomes_of (hr.mono (by decide)) rfl (za (pv 0) (@zb _))) (@zb _))) (@zb _)))))), ?_⟩;rw [show start ["house", "thing"] [V.ref p, V.ref m] = [some (V.ref p), some (V.ref m)] from rfl];simp only [zh, zi, ↓reduceIte];refine ⟨p, _, _, rfl, .of hH.tup, rfl, o, rfl, _, .inr (.of hH.outs), ?_⟩;rw [Za];exact ⟨m, hc, outs.length, rfl, hm, lh, G.outs1.2, gh, q⟩
theorem ve (B : Bt mg) (f_hands_of : FnAt P w K mg base "hands_of" 1 ["house"] (va K 1)) (yp : FnAt P w K mg base "is_grid_row" 3 ["thing", "width"] qRow) (D : ze K mg "are_weights" vf ["house", "thing"]) : FnAt P w K mg base "are_weights" 4 ["house", "thing"] (za1 K) := by
  refine FnAt.of D on (fun vs H Q E h => ?_) (fun f cdv A outer s H vs Q E hr h => ?_)
  . obtain ⟨p, o, h, l, hs, outs, ds, ws, rfl, _⟩ := h
    rfl
  . obtain ⟨p, o, h, l, hs, outs, ds, ws, rfl, hH, G, hl, lw, gw, q⟩ := h
    refine ⟨_, (@zc _ _ _ (@zl _ _ _ _ (@uf _ _ _ _ _ _ _ (zg yp (hr.mono (by decide)) rfl (za (pv 1) (za (zn zz rfl B.len xm (za (zg f_hands_of (hr.mono (by decide)) rfl (za (pv 0) (@zb _))) (@zb _))) (@zb _)))) (@u9 _ _ _ _ _ (zn (wx rfl) rfl B.all sy (za (yl ["weight"] ["house", "thing"] rfl (@yh _ _ _ _ (pv 1)) (fun _ => (zr (i := 0) (show (["weight", "house", "thing"] : List Str).Nodup by decide +kernel) rfl (Or.inl rfl))) (fun _ => (@ya _)) (fun _ => (@ql _ _ _ _ _ _ _ _ op_ge (pv 0) (@zd _ _ _ _) (yk _))) rfl (by decide +kernel) rfl rfl) (@zb _))))))), ?_⟩;rw [show start ["house", "thing"] [V.ref p, V.ref l] = [some (V.ref p), some (V.ref l)] from rfl];simp only [zh, zi, ↓reduceIte];have h4 := G.hands.2;refine ⟨p, _, _, rfl, .of hH.tup, rfl, h, rfl, _, .inr (.of hH.hands), ?_⟩;rw [Za, hH.hand.1];refine ⟨l, ws, ds.length, rfl, hl, lw, by omega, fun i hi => (gw i hi).1, fun H1 S1 => ?_⟩;have hl1 := S1 _ _ hl;refine ⟨_, rfl, iteT ⟨⟨_, .of hl1⟩, fun d => ?_⟩⟩;refine yz (xs := ws.map V.int) (PvAT H1) ⟨Same.refl _, rfl⟩ ?_ ?_ ?_
    . rintro i ys H2 hi ⟨S, rfl⟩
      rw [Za] at hi;exact ⟨by rw [t9]; exact Zd hi (Zd (show ws.length <= 8 by omega) (by decide)), S.seq (.of hl1)⟩
    . rintro i x ys H2 hx ⟨S, rfl⟩
      obtain ⟨y, hy, rfl⟩ := yf hx;simp only [zh, zi, ↓reduceIte];have := (gw y (Zi hy)).2;rw [decide_eq_true (show y ≥ 1 from this)];exact ⟨S, uo i⟩
    . rintro ys H2 ⟨S, rfl⟩ l2 hl2
      refine ⟨_, .of zf, ?_⟩;rw [t6];exact q _ (S1.trans (S.trans (Same.upd (Same.refl _) hl2)))
theorem wg (B : Bt mg) (C : Ct K mg a) (ve : FnAt P w K mg base "are_weights" 4 ["house", "thing"] (za1 K)) (wo : FnAt P w K mg base "are_handicaps" 4 ["house", "thing"] (zbu K)) (D : ze K mg "refuse_weights" x9 ["house", "weights", "handicaps"]) : FnAtX P w K mg base "refuse_weights" 5 ["house", "weights", "handicaps"] (i6 K) := by
  refine FnAtX.of D rj (fun vs H Q E h => ?_) (fun f cdv A outer s H vs Q E hr h => ?_)
  . obtain ⟨p, o, h, l, m, hs, outs, ds, ws, hc, rfl, _⟩ := h
    rfl
  . obtain ⟨p, o, h, l, m, hs, outs, ds, ws, hc, rfl, hH, G, hl, lw, gw, hm, lh, gh, q⟩ := h
    refine ⟨_, (@zj _ _ _ _ _ (@yq _ _ _ _ _ _ _ _ (@xu _ _ _ _ (wb (zg ve (hr.mono (by decide)) rfl (za (pv 0) (za (pv 1) (@zb _)))))) (@zc _ _ _ (tz rfl C.q_NoWeight.toErr rfl C.m_NoWeight (vi rfl) (za (@ud _ _ _ _) (@zb _)))) (@z0 _)) (@zc _ _ _ (@yq _ _ _ _ _ _ _ _ (@xu _ _ _ _ (wb (zg wo (hr.mono (by decide)) rfl (za (pv 0) (za (pv 2) (@zb _)))))) (@zc _ _ _ (tz rfl C.q_NoWeight.toErr rfl C.m_NoWeight (vi rfl) (za (@ud _ _ _ _) (@zb _)))) (@z0 _)))), ?_⟩;rw [show start ["house", "weights", "handicaps"] [V.ref p, V.ref l, V.ref m] = [some (V.ref p), some (V.ref l), some (V.ref m)] from rfl];simp only [zh, zi, ↓reduceIte];refine ⟨p, o, h, l, hs, outs, ds, ws, rfl, hH, G, hl, lw, gw, fun H1 S1 => ?_⟩;refine ⟨true, rfl, iteF ⟨p, o, h, m, hs, outs, ds, hc, rfl, hH.mono S1, G, S1 _ _ hm, lh, gh, fun H2 S2 => ?_⟩⟩;exact ⟨true, rfl, iteF (q H2 (S1.trans S2))⟩
theorem x8 (B : Bt mg) (C : Ct K mg a) (wg : FnAtX P w K mg base "refuse_weights" 5 ["house", "weights", "handicaps"] (i6 K)) (xz : FnAt P w K mg base "parts_of" 4 ["house", "weights", "row"] (su K)) (D : ze K mg "scores" qz ["house", "weights", "handicaps", "row"]) : FnAtX P w K mg base "scores" 6 ["house", "weights", "handicaps", "row"] (ou K) := by
  refine FnAtX.of D sc_scores (fun vs H Q E h => ?_) (fun f cdv A outer s H vs Q E hr h => ?_)
  . obtain ⟨p, o, h, l, m, r, hs, outs, ds, ws, hc, row, rfl, _⟩ := h
    rfl
  . obtain ⟨p, o, h, l, m, r, hs, outs, ds, ws, hc, row, rfl, hH, G, hl, lw, gw, hm, lh, gh, hrow, R, q⟩ := h
    refine ⟨_, (@zj _ _ _ _ _ (wk (wc wg (hr.mono (by decide)) (v6 rfl) rfl (za (pv 0) (za (pv 1) (za (pv 2) (@zb _)))))) (@zj _ _ _ _ _ (PS.nox (zw (i := 4) sc_scores.nd rfl (Or.inl rfl) (yj tf rfl B.list vz (za (pv 2) (@zb _))))) (@zj _ _ _ _ _ (PS.nox (vc PassesOwn.never rfl (@yh _ _ _ _ (zg xz (hr.mono (by decide)) rfl (za (pv 0) (za (pv 1) (za (pv 3) (@zb _)))))) (zr (i := 5) sc_scores.nd rfl (Or.inl rfl)) (@zc _ _ _ (il (i := 4) ["total", "number"] ["house", "weights", "handicaps", "row", "totals", "part"] sc_scores.nd rfl rfl rfl (di rfl B.zip (za (pv 4) (za (pv 5) (@zb _)))) (fun _ => (jb rfl (w9 (zr (i := 0) (show (["total", "number", "house", "weights", "handicaps", "row", "totals", "part"] : List Str).Nodup by decide +kernel) rfl (Or.inl rfl)) (w9 (zr (i := 1) (show (["total", "number", "house", "weights", "handicaps", "row", "totals", "part"] : List Str).Nodup by decide +kernel) rfl (Or.inl rfl)) (@mr _))))) (fun _ => (@ya _)) (fun _ => (@zm _ _ _ _ _ _ _ _ we (pv 0) (pv 1))) rfl (by decide +kernel) rfl rfl rfl)))) (@zc _ _ _ (PS.nox (@zl _ _ _ _ (pv 4))))))), ?_⟩;rw [show start ["house", "weights", "handicaps", "row", "totals", "part"] [V.ref p, V.ref l, V.ref m, V.ref r] = [some (V.ref p), some (V.ref l), some (V.ref m), some (V.ref r), none, none] from rfl];simp only [zh, zi, ↓reduceIte];refine ⟨p, o, h, l, m, hs, outs, ds, ws, hc, rfl, hH, G, hl, lw, gw, hm, lh, gh, fun H1 S1 => ?_⟩;simp only [zh, zi, ↓reduceIte];refine ⟨_, .inl (.of (S1 _ _ hm)), fun t ht => ?_⟩;have S2 : Same H1 (upd H1 t (.lst (hc.map V.int))) := Same.upd (Same.refl _) ht;have t2 : upd H1 t (.lst (hc.map V.int)) t = some (.lst (hc.map V.int)) := zf;generalize upd H1 t (.lst (hc.map V.int)) = H2 at *;have S12 := S1.trans S2;refine ⟨p, o, h, l, r, hs, outs, ds, ws, row, rfl, hH.mono S12, G, S12 _ _ hl, lw, gw, S12.seqT hrow, R, fun H3 lp ls S3 hlp hI => ⟨lp, rfl, ⟨_, .of hlp⟩, ?_⟩⟩;have pl : (yy ds ws row ds.length).length = ds.length := o0 _ _ _ _
    have pw : ∀ q ∈ yy ds ws row ds.length, q.length = outs.length := fun q hq => by
      obtain ⟨i, hi, rfl⟩ := Zp.mp hq;exact ni G lw R (ZP.mp hi)
    generalize yy ds ws row ds.length = ps at *;refine sd (xs := ls.map V.ref) (PvSc p l m r lp H H3 ls ps hc) ⟨Same.refl _, t, _, S1.free ht, S3 _ _ t2, rfl⟩ ?_ ?_ ?_
    . rintro i σ H4 hi ⟨S4, t4, v, hn4, ht4, rfl⟩
      exact .of (S4 _ _ hlp)
    . rintro i x σ H4 hx ⟨S4, t4, v, hn4, ht4, rfl⟩
      obtain ⟨c, hcx, rfl⟩ := yf hx;have hi : i < ps.length := by have := (Zc.mp hcx).1; have := hI.len; omega
      have ep : ps[i]? = some ps[i] := Zb hi;have hp4 := S4 _ _ (hI.at' i c _ hcx ep);have lp4 := pw _ (Zl hi);have ls4 : (y9 hc (ps.take i)).length = outs.length := qg _ _ lh fun q hq => pw q (List.mem_of_mem_take hq)
      have ho8 := G.outs1.2;generalize ps[i] = pt at *;simp only [zh, zi, ↓reduceIte];refine ⟨⟨_, .of ht4⟩, ⟨_, .of hp4⟩, fun dd => ?_⟩;refine d5 (xs := (y9 hc (ps.take i)).map V.int) (zs := pt.map V.int) (PvZw H4 (y9 hc (ps.take i)) pt) ⟨Same.refl _, rfl⟩ ?_ ?_ ?_
      . rintro j ys H5 hj ⟨S5, rfl⟩
        refine ⟨?_, .of (S5 _ _ ht4), .of (S5 _ _ hp4)⟩;rw [Za, Yj, Zj, Zj];exact Zd (show _ <= 8 by omega) (by decide)
      . rintro j x z ys H5 T hx hz hT ⟨S5, rfl⟩
        rw [Ze] at hx hz
        obtain ⟨x', hx'⟩ : ∃ y, (y9 hc (ps.take i))[j]? = some y := by
          cases e : (y9 hc (ps.take i))[j]? with
          | none => rw [e] at hx; cases hx
          | some y => exact ⟨y, rfl⟩
        obtain ⟨z', hz'⟩ : ∃ y, pt[j]? = some y := by
          cases e : pt[j]? with
          | none => rw [e] at hz; cases hz
          | some y => exact ⟨y, rfl⟩
        rw [hx'] at hx;rw [hz'] at hz;cases hx;cases hz;have S6 : Same H5 (upd H5 T (.tup [V.int x', V.int z'])) := Same.upd (Same.refl _) hT;simp only [zh, zi, ↓reduceIte];refine ⟨_, .of zf, rfl, ?_⟩;generalize upd H5 T (.tup [V.int x', V.int z']) = H6 at *;simp only [zh, zi, ↓reduceIte];refine ⟨S5.trans S6, ?_⟩;rw [zen hx' hz', Zn];rfl
      . rintro ys H5 ⟨S5, rfl⟩ t5 ht5
        have e1 : (y9 hc (ps.take i)).take outs.length = y9 hc (ps.take i) := ZG (by omega);have e2 : pt.take outs.length = pt := ZG (by omega);rw [Za, Za, ls4, lp4, YH, e1, e2];refine ⟨S4.trans (S5.trans (Same.upd (Same.refl _) ht5)), t5, _, ?_, ?_, rfl⟩
        . exact (S12.trans (S3.trans (S4.trans S5))).free ht5
        . rw [zf, Zq, ep]
          show _ = some (HO.lst ((y9 hc (ps.take i ++ [pt])).map V.int))
          rw [cw]
    . rintro σ H4 ⟨S4, t4, v, hn4, ht4, rfl⟩
      simp only [zh, zi, ↓reduceIte];rw [Za, hI.len, Zt] at ht4;exact q H4 t4 (S12.trans (S3.trans S4)) hn4 ht4
end
def bi : Sp := fun vs H Q _ => ∃ (b : Addr) (xs : List HX) (ds : List HD), vs = [.ref b] /\ HandsL H b xs ds /\ ds.length <= 4 /\ (∀ d ∈ ds, d.words.length <= 8) /\ ∀ H' l as, Same H H' -> H l = none -> RwsAt H' l as (yi (ds.map HD.words)) -> Q (.ref l) H'
def PvRL (b : Addr) (ds : List HD) (H : Hp) (i : Nat) (σ : L2.St) (H' : Hp) : Prop := ∃ (l : Addr) (as : List Addr) (v1 v2 v3 v4 : Option V), H l = none /\ RwsAt H' l as (yi ((ds.map HD.words).take i)) /\ Same H H' /\ σ = [some (.ref b), some (.ref l), v1, v2, v3, v4]
def PvRL2 (b l t p : Addr) (rs : List (List Str)) (ws : List Str) (H : Hp) (i : Nat) (σ : L2.St) (H' : Hp) : Prop := ∃ (as' : List Addr) (v3 v4 : Option V), H' p = some (.lst (as'.map V.ref)) /\ TupsAt H' as' (xl (rs.take i) ws) /\ Same H H' /\ σ = [some (.ref b), some (.ref l), some (.ref t), some (.ref p), v3, v4]
def PvRL3 (b l t p c : Addr) (rs : List (List Str)) (r ws : List Str) (H : Hp) (i j : Nat) (σ : L2.St) (H' : Hp) : Prop := ∃ (as' : List Addr) (v4 : Option V), H' p = some (.lst (as'.map V.ref)) /\ TupsAt H' as' (xl (rs.take i) ws ++ xp r (ws.take j)) /\ Same H H' /\ σ = [some (.ref b), some (.ref l), some (.ref t), some (.ref p), some (.ref c), v4]
def x6 (ns : List Int) (m : Nat) : List Int := (List.range m).map fun k => 1 + ((numB (zx ns (44 + k)) (10 ^ 59)).natAbs : Int)
def xi (ns : List Int) (m : Nat) : List Int := (List.range m).map fun k => numB (zx ns (47 + k)) (10 ^ 59)
theorem gt (ns : List Int) (m : Nat) : x6 ns (m + 1) = x6 ns m ++ [1 + ((numB (zx ns (44 + m)) (10 ^ 59)).natAbs : Int)] := by rw [x6, ZV, Zn]; rfl
theorem jv (ns : List Int) (m : Nat) : xi ns (m + 1) = xi ns m ++ [numB (zx ns (47 + m)) (10 ^ 59)] := by rw [xi, ZV, Zn]; rfl
theorem mj (ns : List Int) (m : Nat) : (x6 ns m).length = m := by rw [x6, Za, ZN]
theorem oq (ns : List Int) (m : Nat) : (xi ns m).length = m := by rw [xi, Za, ZN]
theorem gk (ns : List Int) (m : Nat) : ∀ i ∈ x6 ns m, yw i /\ 1 <= i := fun i hi => by
  obtain ⟨k, _, rfl⟩ := Zp.mp hi;have := io (zx ns (44 + k)) (show (10 : Int) ^ 18 <= 10 ^ 59 by decide);refine ⟨⟨?_, ?_⟩, ?_⟩
  . show -(10 ^ 60) < _; omega
  . show _ < (10 : Int) ^ 60; omega
  . omega
theorem jd (ns : List Int) (m : Nat) : ∀ i ∈ xi ns m, yw i := fun i hi => by
  obtain ⟨k, _, rfl⟩ := Zp.mp hi;have := io (zx ns (47 + k)) (show (10 : Int) ^ 18 <= 10 ^ 59 by decide);refine ⟨?_, ?_⟩
  . show -(10 ^ 60) < _; omega
  . show _ < (10 : Int) ^ 60; omega
def qf (K : Fg) (f : List Int -> Nat -> List Int) : Sp := fun vs H Q _ => ∃ (a : Addr) (ns : List Int) (m : Nat), vs = [.ref a, .int m] /\ SqL K H a (ns.map V.int) /\ m <= 8 /\ ∀ H' l, Same H H' -> H' l = some (.lst ((f ns m).map V.int)) -> Q (.ref l) H'
def PvWt (H : Hp) (f : Nat -> List Int) (i : Nat) (ys : List V) (H' : Hp) : Prop := H' = H /\ ys = (f i).map V.int
theorem zd7 {n j : Nat} (h : j < n) : ixN n (j : Int) = some j := by
  unfold ixN;simp [h]
section
variable {P : Program} {w : World} {K : Fg} {mg : Str -> Option Value} {base : Heap} {a : Ad}
theorem rh (B : Bt mg) (yo : FnAt P w K mg base "_law_cell" 1 ["script", "k"] (qm K)) (wj : FnAt P w K mg base "_law_number" 1 ["cell", "top"] js) (D : ze K mg "_law_weights" uk ["script", "many"]) : FnAt P w K mg base "_law_weights" 2 ["script", "many"] (qf K x6) := by
  refine FnAt.of D j9 (fun vs H Q E h => ?_) (fun f cdv A outer s H vs Q E hr h => ?_)
  . obtain ⟨a, ns, m, rfl, _⟩ := h
    rfl
  . obtain ⟨a, ns, m, rfl, hS, h8, q⟩ := h
    refine ⟨_, (@zc _ _ _ (@zl _ _ _ _ (yl ["k"] ["script", "many"] rfl (wz rfl B.range (za (pv 1) (@zb _))) (fun _ => (zr (i := 0) (show (["k", "script", "many"] : List Str).Nodup by decide +kernel) rfl (Or.inl rfl))) (fun _ => (@ya _)) (fun _ => (@zm _ _ _ _ _ _ _ _ we (@zd _ _ _ _) (zn kg rfl B.abs f8 (za (zg wj (hr.mono (by decide)) rfl (za (zg yo (hr.mono (by decide)) rfl (za (pv 1) (za (@zm _ _ _ _ _ _ _ _ we (@zd _ _ _ _) (pv 0)) (@zb _)))) (za (@zm _ _ _ _ _ _ _ _ ug (@zd _ _ _ _) (@zd _ _ _ _)) (@zb _)))) (@zb _))))) rfl (by decide +kernel) rfl rfl))), ?_⟩;rw [show start ["script", "many"] [V.ref a, V.int m] = [some (V.ref a), some (V.int m)] from rfl];simp only [zh, zi, ↓reduceIte];refine ⟨by omega, by omega, fun d => ?_⟩;rw [Zw];refine rn (PvWt H (x6 ns)) ⟨rfl, rfl⟩ ?_ ?_ ?_
    . rintro i ys H2 hi ⟨rfl, rfl⟩
      rw [Za, mj];exact Zd hi (Zd h8 (by decide))
    . rintro i ys H2 hi ⟨rfl, rfl⟩
      simp only [zh, zi, ↓reduceIte];refine ⟨a, ns, 44 + i, ?_, hS, ?_⟩
      . rw [show (44 : Int) + (i : Int) = ((44 + i : Nat) : Int) by omega]
      refine ⟨⟨by decide, by decide, by decide⟩, zx ns (44 + i), 10 ^ 59, rfl, by decide, by decide, _, rfl, rfl, ?_⟩;rw [gt, Zn]
      congr 3
      split <;> omega
    . rintro ys H2 ⟨rfl, rfl⟩ l hl
      exact q _ l (Same.upd (Same.refl _) hl) zf
theorem u8 (B : Bt mg) (yo : FnAt P w K mg base "_law_cell" 1 ["script", "k"] (qm K)) (wj : FnAt P w K mg base "_law_number" 1 ["cell", "top"] js) (D : ze K mg "_law_handicaps" vo ["script", "places"]) : FnAt P w K mg base "_law_handicaps" 2 ["script", "places"] (qf K xi) := by
  refine FnAt.of D k8 (fun vs H Q E h => ?_) (fun f cdv A outer s H vs Q E hr h => ?_)
  . obtain ⟨a, ns, m, rfl, _⟩ := h
    rfl
  . obtain ⟨a, ns, m, rfl, hS, h8, q⟩ := h
    refine ⟨_, (@zc _ _ _ (@zl _ _ _ _ (yl ["j"] ["script", "places"] rfl (wz rfl B.range (za (pv 1) (@zb _))) (fun _ => (zr (i := 0) (show (["j", "script", "places"] : List Str).Nodup by decide +kernel) rfl (Or.inl rfl))) (fun _ => (@ya _)) (fun _ => (zg wj (hr.mono (by decide)) rfl (za (zg yo (hr.mono (by decide)) rfl (za (pv 1) (za (@zm _ _ _ _ _ _ _ _ we (@zd _ _ _ _) (pv 0)) (@zb _)))) (za (@zm _ _ _ _ _ _ _ _ ug (@zd _ _ _ _) (@zd _ _ _ _)) (@zb _))))) rfl (by decide +kernel) rfl rfl))), ?_⟩;rw [show start ["script", "places"] [V.ref a, V.int m] = [some (V.ref a), some (V.int m)] from rfl];simp only [zh, zi, ↓reduceIte];refine ⟨by omega, by omega, fun d => ?_⟩;rw [Zw];refine rn (PvWt H (xi ns)) ⟨rfl, rfl⟩ ?_ ?_ ?_
    . rintro i ys H2 hi ⟨rfl, rfl⟩
      rw [Za, oq];exact Zd hi (Zd h8 (by decide))
    . rintro i ys H2 hi ⟨rfl, rfl⟩
      simp only [zh, zi, ↓reduceIte];refine ⟨a, ns, 47 + i, ?_, hS, ?_⟩
      . rw [show (47 : Int) + (i : Int) = ((47 + i : Nat) : Int) by omega]
      refine ⟨⟨by decide, by decide, by decide⟩, zx ns (47 + i), 10 ^ 59, rfl, by decide, by decide, rfl, ?_⟩;rw [jv, Zn];rfl
    . rintro ys H2 ⟨rfl, rfl⟩ l hl
      exact q _ l (Same.upd (Same.refl _) hl) zf
theorem oy (D : ze K mg "_law_rows" qd ["hands"]) : FnAt P w K mg base "_law_rows" 1 ["hands"] bi := by
  refine FnAt.of D sc_law_rows (fun vs H Q E h => ?_) (fun f cdv A outer s H vs Q E hr h => ?_)
  . obtain ⟨b, xs, ds, rfl, _⟩ := h
    rfl
  . obtain ⟨b, xs, ds, rfl, hH, h4, h8, q⟩ := h
    refine ⟨_, (@zj _ _ _ _ _ (@zw _ _ 1 _ _ _ _ sc_law_rows.nd rfl (Or.inl rfl) (@u6 _ _ _ _ (@za _ _ _ _ _ (@xy _ _ _ _ _ (@zb _)) (@zb _) (zy nofun))) rfl (Or.inl rfl)) (@zj _ _ _ _ _ (vc PassesOwn.never rfl (@yh _ _ _ _ (pv 0)) (zr (i := 2) sc_law_rows.nd rfl (Or.inl rfl)) (@zj _ _ _ _ _ (zw (i := 3) sc_law_rows.nd rfl (Or.inl rfl) (@u6 _ _ _ _ (@zb _))) (@zj _ _ _ _ _ (vc PassesOwn.never rfl (@yh _ _ _ _ (pv 1)) (zr (i := 4) sc_law_rows.nd rfl (Or.inl rfl)) (@zc _ _ _ (vc PassesOwn.never rfl (@yh _ _ _ _ (@xh _ _ _ _ _ _ _ wa (pv 2) (@zd _ _ _ _) (fun _ _ => rfl))) (zr (i := 5) sc_law_rows.nd rfl (Or.inl rfl)) (@zc _ _ _ (wk (pq PySem.F.plainAttrs_list PySem.F.slot_list_append PySem.F.type_list_append rc (pv 3) (za (@zm _ _ _ _ _ _ _ _ ai (pv 4) (@xy _ _ _ _ _ (za (pv 5) (@zb _)))) (@zb _)))))))) (@zc _ _ _ (zw (i := 1) sc_law_rows.nd rfl (Or.inl rfl) (pv 3)))))) (@zc _ _ _ (@zl _ _ _ _ (pv 1))))), ?_⟩;rw [show start ["hands", "rows", "hand", "longer_ones", "row", "word"] [V.ref b] = [some (V.ref b), none, none, none, none, none] from rfl];simp only [zh, zi, ↓reduceIte];refine ⟨by decide, fun c hc => ⟨by decide, fun p hp => ?_⟩⟩;have S1 : Same H (upd H c (.tup [])) := Same.upd (Same.refl _) hc;have h1 : upd H c (.tup []) c = some (.tup []) := zf;generalize upd H c (.tup []) = H1 at *;have S2 : Same H1 (upd H1 p (.lst [V.ref c])) := Same.upd (Same.refl _) hp;have h2 : upd H1 p (.lst [V.ref c]) p = some (.lst [V.ref c]) := zf;generalize upd H1 p (.lst [V.ref c]) = H2 at *;have S := S1.trans S2;refine ⟨⟨_, .of (S _ _ hH.at')⟩, ?_⟩;refine sd (xs := xs.map fun x => V.ref x.t) (PvRL b ds H) ⟨p, [c], _, _, _, _, S1.free hp, ⟨h2, TupsAt.one (S2 _ _ h1)⟩, S, rfl⟩ ?_ ?_ ?_
    . rintro i σ H' hi ⟨l, as, v1, v2, v3, v4, hl, hR, S', rfl⟩
      exact .of (S' _ _ hH.at')
    . rintro i x σ H' hx ⟨l, as, v1, v2, v3, v4, hl, hR, S', rfl⟩
      obtain ⟨t, ht, rfl⟩ := yf hx;have hi : i < ds.length := by have := (Zc.mp ht).1; have := hH.len; omega
      have ed : ds[i]? = some ds[i] := Zb hi;have hd := (hH.mono S').hand i t _ ht ed;have ew : (ds.map HD.words)[i]? = some ds[i].words := by rw [Ze, ed]; rfl
      have hw8 := h8 _ (Zl hi)
      have few := kj (wss := ds.map HD.words) (by rw [Za]; exact h4) (fun ws hws => by
        obtain ⟨d, hd, rfl⟩ := Zp.mp hws
        exact h8 d hd) i (by rw [Za]; omega)
      have hwid : ∀ r ∈ yi ((ds.map HD.words).take i), r.length <= 8 := fun r hr => by
        have := l8 (ds.map HD.words) i (by rw [Za]; omega) r hr;omega
      simp only [zh, zi, ↓reduceIte];refine ⟨by decide, fun p2 hp2 => ?_⟩;have S3 : Same H' (upd H' p2 (.lst [])) := Same.upd (Same.refl _) hp2;have R3 := hR.mono S3;have hw3 := (hd.mono S3);generalize hrs : yi ((ds.map HD.words).take i) = rs at *;generalize hwds : ds[i].words = ws at *;have hpn : H p2 = none := S'.free hp2;refine ⟨⟨_, .of R3.lst⟩, ?_⟩;refine sd (xs := as.map V.ref) (PvRL2 b l t.t p2 rs ws H') ⟨[], _, _, zf, TupsAt.nil, S3, rfl⟩ ?_ ?_ ?_
      . rintro j σ H4 hj ⟨as', u3, u4, a1, a2, S4, rfl⟩
        exact .of (S4 _ _ hR.lst)
      . rintro j y σ H4 hy ⟨as', u3, u4, a1, a2, S4, rfl⟩
        obtain ⟨cc, hcc, rfl⟩ := yf hy;have hjl : j < rs.length := by have := (Zc.mp hcc).1; have := hR.tups.len; omega
        have er : rs[j]? = some rs[j] := Zb hjl;have hrow := hR.tups.at' j cc _ hcc er;have hr8 := hwid _ (Zl hjl);generalize rs[j] = rr at *;have hd4 := hd.mono S4;simp only [zh, zi, ↓reduceIte];refine ⟨_, .of hd4.tup, _, yr (j := 1) rfl, t.w, rfl, ⟨_, .of hd4.words⟩, ?_⟩;refine sd (xs := ws.map V.str) (PvRL3 b l t.t p2 cc rs rr ws H' j) ⟨as', _, a1, by rw [List.take_zero, xp, Yt, ZU]; exact a2, S4, rfl⟩ ?_ ?_ ?_
        . rintro m σ H5 hm ⟨bs, u4, b1, b2, S5, rfl⟩
          have := (hd.mono S5).words;rw [hwds] at this;exact .of this
        . rintro m y σ H5 hy ⟨bs, u4, b1, b2, S5, rfl⟩
          obtain ⟨z, hz, rfl⟩ := yf hy;simp only [zh, zi, ↓reduceIte];refine ⟨.inl ⟨rfl, _, .of b1⟩, by decide, fun e he => ?_⟩;have S6 : Same H5 (upd H5 e (.tup [V.str z])) := Same.upd (Same.refl _) he;refine ⟨_, (S5.trans S6) _ _ hrow, _, zf, ?_, fun H7 e7 S7 h7 => ?_⟩
          . rw [Za]
            exact Zd (show _ <= 9 by simp; omega) (by decide)
          have S57 := S6.trans S7;refine ⟨_, S57 _ _ b1, ?_, bs ++ [e7], _, by rw [zf, Zn]; rfl, ?_, Same.upd (S5.trans S57) hp2, rfl⟩
          . rw [Za, b2.len, Zo, se, rb, Zj, Zj]
            have : min j rs.length * ws.length <= 4096 * 8 := Yl (by omega) hw8;exact Yk (show _ <= 4096 * 8 + 8 by omega) (by decide)
          . rw [Zq, hz]
            show TupsAt _ _ (_ ++ xp rr (ws.take m ++ [z]))
            rw [xp, Zn, <- List.append_assoc];exact ((b2.mono S57).append (TupsAt.one (by rw [h7]; simp))).past (S57 _ _ b1)
        . rintro σ H5 ⟨bs, u4, b1, b2, S5, rfl⟩
          refine ⟨bs, _, _, b1, ?_, S5, rfl⟩;rw [Za, Zt] at b2;rw [Zq, er]
          show TupsAt _ _ (xl (rs.take j ++ [rr]) ws)
          rw [jj];exact b2
      . rintro σ H4 ⟨as', u3, u4, a1, a2, S4, rfl⟩
        simp only [zh, zi, ↓reduceIte];rw [Za, hR.tups.len, Zt] at a2;refine ⟨p2, as', _, _, _, _, hpn, ⟨a1, ?_⟩, S'.trans S4, rfl⟩;rw [w6 ew, hrs];exact a2
    . rintro σ H' ⟨l, as, v1, v2, v3, v4, hl, hR, S', rfl⟩
      simp only [zh, zi, ↓reduceIte];rw [Za, hH.len, ZG (by rw [Za]; omega)] at hR;exact q H' l as S' hl hR
end
def sh (ts : List Int) : Nat := ts.idxOf (ts.max?.getD 0)
def ng (ts p : List Int) : List Int := List.zipWith (· - ·) ts p
def jl (ts p : List Int) : Int := (ng ts p).max?.getD 0 - (ng ts p).getD (sh ts) 0
theorem zb4 {ts : List Int} {m : Int} (h1 : m ∈ ts) (h2 : ∀ a ∈ ts, a <= m) : ts.max?.getD 0 = m := by
  have : ts.max? = some m := Ys.mpr ⟨h1, h2⟩;rw [this];rfl
theorem i0 : ∀ {zs : List Int} {m : Nat} {z : Int}, zs[m]? = some z -> zs.idxOf z <= m
  | [], m, z, h => by simp at h
  | y :: zs, 0, z, h => by
    simp at h;subst h;simp
  | y :: zs, m + 1, z, h => by
    rw [List.idxOf_cons]
    cases y == z with
    | true => exact ZE _
    | false => exact Yi (i0 (by simpa using h))
theorem bg (y z : Int) : eqV (V.int y) (V.int z) = decide (y = z) := by
  show (y == z) = decide (y = z)
  by_cases h : y = z
  . subst h; simp
  . simp [h]
theorem zbh {zs : List Int} {z : Int} (h : z ∈ zs) : FirstAt (zs.map V.int) (V.int z) (zs.idxOf z) := by
  have hl := Zz.mpr h;refine ⟨rfl, ?_, ⟨V.int z, ?_, ?_⟩, fun m y hm e => ?_⟩
  . rw [ZL]
    intro x hx;obtain ⟨y, _, rfl⟩ := Zp.mp hx;rfl
  . rw [Ze, Zb hl, List.getElem_idxOf]
    rfl
  . rw [bg]
    exact decide_eq_true rfl
  . rw [Ze] at e
    have hml : m < zs.length := by omega
    rw [Zb hml] at e;cases e;rw [bg, decide_eq_false];intro ez;have hle : zs.idxOf z <= m := i0 (by rw [Zb hml, ez]);omega
def jm (K : Fg) : Sp := fun vs H Q _ => ∃ (t : Addr) (ts : List Int), vs = [.ref t] /\ SqL K H t (ts.map V.int) /\ 0 < ts.length /\ Q (.int (sh ts)) H
def j7 (K : Fg) : Sp := fun vs H Q _ => ∃ (t l : Addr) (ts p : List Int), vs = [.ref t, .ref l] /\ H t = some (.lst (ts.map V.int)) /\ H l = some (.lst (p.map V.int)) /\ 0 < ts.length /\ ts.length = p.length /\ ts.length <= 8 /\ ∀ H', Same H H' -> Q (.int (jl ts p)) H'
def PvRest (H : Hp) (as bs : List Int) (i : Nat) (ys : List V) (H' : Hp) : Prop := Same H H' /\ ys = (List.zipWith (· - ·) (as.take i) (bs.take i)).map V.int
theorem zds {as bs : List Int} {i : Nat} {x y : Int} (h1 : as[i]? = some x) (h2 : bs[i]? = some y) : List.zipWith (· - ·) (as.take (i + 1)) (bs.take (i + 1)) = List.zipWith (· - ·) (as.take i) (bs.take i) ++ [x - y] := by
  have hl1 := (Zc.mp h1).1;have hl2 := (Zc.mp h2).1;rw [Zq, Zq, h1, h2];exact List.zipWith_append (by rw [Zj, Zj]; omega)
def ef (K : Fg) : Sp := fun vs H Q _ => ∃ (p o h l m r : Addr) (hs : List Addr) (outs : List Str) (ds : List HD) (ws hc : List Int) (row : List Str), vs = [.ref p, .ref l, .ref m, .ref r] /\ HHouse H p o h hs outs ds /\ GoodHouse outs ds /\ H l = some (.lst (ws.map V.int)) /\ ws.length = ds.length /\ (∀ i ∈ ws, yw i /\ 1 <= i) /\ H m = some (.lst (hc.map V.int)) /\ hc.length = outs.length /\ (∀ i ∈ hc, yw i) /\ SqT K H r (row.map V.str) /\ rp ds row /\
  ∀ H' l', Same H H' -> H' l' = some (.lst (((yy ds ws row ds.length).map (jl (y9 hc (yy ds ws row ds.length)))).map V.int)) -> Q (.ref l') H'
def PvPv (H : Hp) (ts : List Int) (ps : List (List Int)) (i : Nat) (ys : List V) (H' : Hp) : Prop := Same H H' /\ ys = ((ps.take i).map (jl ts)).map V.int
section
variable {P : Program} {w : World} {K : Fg} {mg : Str -> Option Value} {base : Heap} {a : Ad}
theorem x5 (B : Bt mg) (D : ze K mg "best_place" tm ["totals"]) : FnAt P w K mg base "best_place" 1 ["totals"] (jm K) := by
  refine FnAt.of D gz (fun vs H Q E h => ?_) (fun f cdv A outer s H vs Q E hr h => ?_)
  . obtain ⟨t, ts, rfl, _⟩ := h
    rfl
  . obtain ⟨t, ts, rfl, ht, h0, q⟩ := h
    refine ⟨_, (@zc _ _ _ (@zl _ _ _ _ (pq PySem.F.plainAttrs_list PySem.F.slot_list_index PySem.F.type_list_index zbo (pv 0) (za (zn (iy rfl) rfl B.max zck (za (pv 0) (@zb _))) (@zb _))))), ?_⟩;rw [show start ["totals"] [V.ref t] = [some (V.ref t)] from rfl];simp only [zh, zi, ↓reduceIte];refine ⟨.inl ⟨rfl, _, ht⟩, _, ht, h0, fun m hm1 hm2 => ⟨_, ht, _, zbh hm1, ?_⟩⟩;rw [sh, zb4 hm1 hm2] at q;exact q
theorem oj (B : Bt mg) (x5 : FnAt P w K mg base "best_place" 1 ["totals"] (jm K)) (D : ze K mg "pivot" mq ["totals", "part"]) : FnAt P w K mg base "pivot" 2 ["totals", "part"] (j7 K) := by
  refine FnAt.of D sc_pivot (fun vs H Q E h => ?_) (fun f cdv A outer s H vs Q E hr h => ?_)
  . obtain ⟨t, l, ts, p, rfl, _⟩ := h
    rfl
  . obtain ⟨t, l, ts, p, rfl, ht, hl, h0, hlen, h8, q⟩ := h
    refine ⟨_, (@zj _ _ _ _ _ (il (i := 2) ["total", "number"] ["totals", "part", "rest"] sc_pivot.nd rfl rfl rfl (di rfl B.zip (za (pv 0) (za (pv 1) (@zb _)))) (fun _ => (jb rfl (w9 (zr (i := 0) (show (["total", "number", "totals", "part", "rest"] : List Str).Nodup by decide +kernel) rfl (Or.inl rfl)) (w9 (zr (i := 1) (show (["total", "number", "totals", "part", "rest"] : List Str).Nodup by decide +kernel) rfl (Or.inl rfl)) (@mr _))))) (fun _ => (@ya _)) (fun _ => (@zm _ _ _ _ _ _ _ _ uy (pv 0) (pv 1))) rfl (by decide +kernel) rfl rfl rfl) (@zc _ _ _ (@zl _ _ _ _ (@zm _ _ _ _ _ _ _ _ uy (zn (iy rfl) rfl B.max zck (za (pv 2) (@zb _))) (@xh _ _ _ _ _ _ _ qk (pv 2) (zg x5 (hr.mono (by decide)) rfl (za (pv 0) (@zb _))) (fun _ _ => rfl)))))), ?_⟩;rw [show start ["totals", "part", "rest"] [V.ref t, V.ref l] = [some (V.ref t), some (V.ref l), none] from rfl];simp only [zh, zi, ↓reduceIte];refine ⟨⟨_, .of ht⟩, ⟨_, .of hl⟩, fun dd => ?_⟩;refine d5 (xs := ts.map V.int) (zs := p.map V.int) (PvRest H ts p) ⟨Same.refl _, rfl⟩ ?_ ?_ ?_
    . rintro j ys H5 hj ⟨S5, rfl⟩
      refine ⟨?_, .of (S5 _ _ ht), .of (S5 _ _ hl)⟩;rw [Za, Yj, Zj, Zj];exact Zd (show _ <= 8 by omega) (by decide)
    . rintro j x z ys H5 T hx hz hT ⟨S5, rfl⟩
      rw [Ze] at hx hz
      obtain ⟨x', hx'⟩ : ∃ y, ts[j]? = some y := by
        cases e : ts[j]? with
        | none => rw [e] at hx; cases hx
        | some y => exact ⟨y, rfl⟩
      obtain ⟨z', hz'⟩ : ∃ y, p[j]? = some y := by
        cases e : p[j]? with
        | none => rw [e] at hz; cases hz
        | some y => exact ⟨y, rfl⟩
      rw [hx'] at hx;rw [hz'] at hz;cases hx;cases hz;have S6 : Same H5 (upd H5 T (.tup [V.int x', V.int z'])) := Same.upd (Same.refl _) hT;simp only [zh, zi, ↓reduceIte];refine ⟨_, .of zf, rfl, ?_⟩;generalize upd H5 T (.tup [V.int x', V.int z']) = H6 at *;simp only [zh, zi, ↓reduceIte];refine ⟨S5.trans S6, ?_⟩;rw [zds hx' hz', Zn];rfl
    . rintro ys H5 ⟨S5, rfl⟩ c hc
      have e1 : ts.take ts.length = ts := Zt;have e2 : p.take ts.length = p := ZG (by omega);rw [Za, Za, <- hlen, YH, e1, e2];have S6 : Same H5 (upd H5 c (.lst ((List.zipWith (· - ·) ts p).map V.int))) := Same.upd (Same.refl _) hc;have h6 : upd H5 c (.lst ((List.zipWith (· - ·) ts p).map V.int)) c = some (.lst ((ng ts p).map V.int)) := zf;generalize upd H5 c (.lst ((List.zipWith (· - ·) ts p).map V.int)) = H6 at *;have lr : (ng ts p).length = ts.length := by rw [ng, Yj]; omega
      have S := S5.trans S6;refine ⟨_, .of h6, by omega, fun m hm1 hm2 => ?_⟩;refine ⟨t, ts, rfl, .of (S _ _ ht), h0, ?_⟩
      have hbl : sh ts < ts.length := by
        have : ts.max?.getD 0 ∈ ts := by
          cases e : ts.max? with
          | none => rw [List.max?_eq_none_iff] at e; rw [e] at h0; cases h0
          | some x => exact (Ys.mp e).1
        exact Zz.mpr this
      obtain ⟨n, en⟩ : ∃ n, (ng ts p)[sh ts]? = some n := ⟨(ng ts p)[sh ts]'(by omega), by simp⟩;refine ⟨_, _, rfl, .of h6, _, yr (v := V.int n) (by rw [Ze, en]; rfl), _, rfl, ?_⟩;have := q H6 S
      rwa [jl, zb4 hm1 hm2, Zk, en] at this
theorem l9 (B : Bt mg) (C : Ct K mg a) (x8 : FnAtX P w K mg base "scores" 6 ["house", "weights", "handicaps", "row"] (ou K)) (oj : FnAt P w K mg base "pivot" 2 ["totals", "part"] (j7 K)) (xz : FnAt P w K mg base "parts_of" 4 ["house", "weights", "row"] (su K)) (D : ze K mg "pivots" qv ["house", "weights", "handicaps", "row"]) : FnAtX P w K mg base "pivots" 7 ["house", "weights", "handicaps", "row"] (ef K) := by
  refine FnAtX.of D sc_pivots (fun vs H Q E h => ?_) (fun f cdv A outer s H vs Q E hr h => ?_)
  . obtain ⟨p, o, h, l, m, r, hs, outs, ds, ws, hc, row, rfl, _⟩ := h
    rfl
  . obtain ⟨p, o, h, l, m, r, hs, outs, ds, ws, hc, row, rfl, hH, G, hl, lw, gw, hm, lh, gh, hrow, R, q⟩ := h
    refine ⟨_, (@zj _ _ _ _ _ (zw (i := 4) sc_pivots.nd rfl (Or.inr rfl) (wc x8 (hr.mono (by decide)) (v6 rfl) rfl (za (pv 0) (za (pv 1) (za (pv 2) (za (pv 3) (@zb _))))))) (@zc _ _ _ (PS.nox (@zl _ _ _ _ (yl ["part"] ["house", "weights", "handicaps", "row", "totals"] rfl (@yh _ _ _ _ (zg xz (hr.mono (by decide)) rfl (za (pv 0) (za (pv 1) (za (pv 3) (@zb _)))))) (fun _ => (zr (i := 0) (show (["part", "house", "weights", "handicaps", "row", "totals"] : List Str).Nodup by decide +kernel) rfl (Or.inl rfl))) (fun _ => (@ya _)) (fun _ => (zg oj (hr.mono (by decide)) rfl (za (pv 5) (za (pv 0) (@zb _))))) rfl (by decide +kernel) rfl rfl))))), ?_⟩;rw [show start ["house", "weights", "handicaps", "row", "totals"] [V.ref p, V.ref l, V.ref m, V.ref r] = [some (V.ref p), some (V.ref l), some (V.ref m), some (V.ref r), none] from rfl];simp only [zh, zi, ↓reduceIte];refine ⟨p, o, h, l, m, r, hs, outs, ds, ws, hc, row, rfl, hH, G, hl, lw, gw, hm, lh, gh, hrow, R, fun H1 t S1 _ ht => ?_⟩;simp only [zh, zi, ↓reduceIte];refine ⟨p, o, h, l, r, hs, outs, ds, ws, row, rfl, hH.mono S1, G, S1 _ _ hl, lw, gw, S1.seqT hrow, R, fun H2 lp ls S2 hlp hI => ⟨lp, rfl, ⟨_, .of hlp⟩, fun dd => ?_⟩⟩;have pl : (yy ds ws row ds.length).length = ds.length := o0 _ _ _ _
    have pw : ∀ q ∈ yy ds ws row ds.length, q.length = outs.length := fun q hq => by
      obtain ⟨i, hi, rfl⟩ := Zp.mp hq;exact ni G lw R (ZP.mp hi)
    have hsl : (y9 hc (yy ds ws row ds.length)).length = outs.length := qg _ _ lh pw;generalize y9 hc (yy ds ws row ds.length) = ts at *;generalize yy ds ws row ds.length = ps at *;have ho := G.outs1;have h4 := G.hands.2;refine yz (xs := ls.map V.ref) (PvPv H2 ts ps) ⟨Same.refl _, rfl⟩ ?_ ?_ ?_
    . rintro i ys H3 hi ⟨S3, rfl⟩
      rw [Za] at hi;refine ⟨?_, .of (S3 _ _ hlp)⟩;rw [Za, Za, Zj];exact Zd (ZB _ _) (by rw [pl]; exact Zd h4 (by decide))
    . rintro i x ys H3 hx ⟨S3, rfl⟩
      obtain ⟨c, hcx, rfl⟩ := yf hx;have hi : i < ps.length := by have := (Zc.mp hcx).1; have := hI.len; omega
      have ep : ps[i]? = some ps[i] := Zb hi;have lp4 := pw _ (Zl hi);simp only [zh, zi, ↓reduceIte];refine ⟨t, c, ts, ps[i], rfl, S3 _ _ (S2 _ _ ht), S3 _ _ (hI.at' i c _ hcx ep), by omega, by omega, by omega, fun H4 S4 => ⟨S3.trans S4, ?_⟩⟩;rw [Zq, ep, Zn, Zn];rfl
    . rintro ys H3 ⟨S3, rfl⟩ l3 hl3
      rw [Za, hI.len, Zt];exact q _ l3 (S1.trans (S2.trans (S3.trans (Same.upd (Same.refl _) hl3)))) zf
end
def nw (outs : List Str) (ds : List HD) (ws hc : List Int) (row : List Str) : Str := outs.getD (sh (y9 hc (yy ds ws row ds.length))) ⟨#[]⟩
def sr (r : List Str) : List Key := r.map Sum.inr
theorem zbp (r : List Str) : (sr r).map kV = r.map V.str := by
  rw [sr, YJ];rfl
theorem zad {r q : List Str} (h : sr r = sr q) : r = q := by
  induction r generalizing q with
  | nil => cases q with
    | nil => rfl
    | cons _ _ => cases h
  | cons x xs ih => cases q with
    | nil => cases h
    | cons y ys =>
      rw [sr, sr, ZM, ZM] at h
      injection h with h1 h2
      injection h1 with h1
      rw [h1, ih h2]
def ra (f : List Str -> Str) (rs : List (List Str)) : List (List Key × V) := rs.map fun r => (sr r, V.str (f r))
theorem cm (f : List Str -> Str) (rs : List (List Str)) : (ra f rs).map (·.1) = rs.map sr := by rw [ra, YJ]; rfl
theorem zb3 {f : List Str -> Str} {rs : List (List Str)} (h : rs.Nodup) : ((ra f rs).map (·.1)).Nodup := by
  rw [cm];exact YD.mpr (List.Pairwise.imp (fun {a b} hab e => hab (zad e)) h)
theorem zdc {ts : List Int} (h0 : 0 < ts.length) : sh ts < ts.length := by
  have : ts.max?.getD 0 ∈ ts := by
    cases e : ts.max? with
    | none => rw [List.max?_eq_none_iff] at e; rw [e] at h0; cases h0
    | some x => exact (Ys.mp e).1
  exact Zz.mpr this
theorem l6 {ds : List HD} {row : List Str} (h : row ∈ yi (ds.map HD.words)) : rp ds row := by
  have hpk := rowsP_iff.mp h;refine ⟨by rw [hpk.1, Za], fun k d z e1 e2 => ?_⟩;obtain ⟨u, h1, h2⟩ := hpk.2 k d.words (by rw [Ze, e1]; rfl);rw [e2] at h1;cases h1;exact h2
def i4 (K : Fg) : Sp := fun vs H Q _ => ∃ (p o h l m r : Addr) (hs : List Addr) (outs : List Str) (ds : List HD) (ws hc : List Int) (row : List Str), vs = [.ref p, .ref l, .ref m, .ref r] /\ HHouse H p o h hs outs ds /\ GoodHouse outs ds /\ H l = some (.lst (ws.map V.int)) /\ ws.length = ds.length /\ (∀ i ∈ ws, yw i /\ 1 <= i) /\ H m = some (.lst (hc.map V.int)) /\ hc.length = outs.length /\ (∀ i ∈ hc, yw i) /\ SqT K H r (row.map V.str) /\ rp ds row /\
  ∀ H', Same H H' -> Q (.str (nw outs ds ws hc row)) H'
def ll (K : Fg) : Sp := fun vs H Q _ => ∃ (p o h l m : Addr) (hs : List Addr) (outs : List Str) (ds : List HD) (ws hc : List Int), vs = [.ref p, .ref l, .ref m] /\ HHouse H p o h hs outs ds /\ GoodHouse outs ds /\ H l = some (.lst (ws.map V.int)) /\ ws.length = ds.length /\ (∀ i ∈ ws, yw i /\ 1 <= i) /\ H m = some (.lst (hc.map V.int)) /\ hc.length = outs.length /\ (∀ i ∈ hc, yw i) /\
  ∀ H' t, Same H H' -> H' t = some (.dT (ra (nw outs ds ws hc) (yi (ds.map HD.words)))) -> Q (.ref t) H'
def PvBT (H : Hp) (f : List Str -> Str) (rs : List (List Str)) (i : Nat) (ys : List V) (H' : Hp) : Prop := Same H H' /\ ∃ Ts : List Addr, ys = Ts.map V.ref /\ ur H' Ts (ra f (rs.take i))
theorem la {H H' : Hp} {Ts : List Addr} {kvs : List (List Key × V)} (S : Same H H') (h : ur H Ts kvs) : ur H' Ts kvs := ⟨h.len, fun i T kv e1 e2 => by
  obtain ⟨b, h1, h2⟩ := h.at' i T kv e1 e2
  exact ⟨b, S _ _ h1, S _ _ h2⟩⟩
theorem c7 {H : Hp} {Ts : List Addr} {kvs : List (List Key × V)} {T b : Addr} {kv : List Key × V} (h : ur H Ts kvs) (hT : H T = some (.tup [.ref b, kv.2])) (hb : H b = some (.tup (kv.1.map kV))) : ur H (Ts ++ [T]) (kvs ++ [kv]) := by
  refine ⟨by simp [h.len], fun i a q e1 e2 => ?_⟩
  by_cases hi : i < Ts.length
  . rw [Zg hi] at e1
    rw [Zg (by rw [<- h.len]; exact hi)] at e2;exact h.at' i a q e1 e2
  . rw [Zf (ZD.mp hi)] at e1
    rw [Zf (by rw [<- h.len]; exact ZD.mp hi)] at e2
    have h0 : i - Ts.length = 0 := by
      have := (Zc.mp e1).1;simp at this;omega
    rw [h0] at e1;rw [<- h.len, h0] at e2;simp at e1 e2;subst e1 e2;exact ⟨b, hT, hb⟩
section
variable {P : Program} {w : World} {K : Fg} {mg : Str -> Option Value} {base : Heap} {a : Ad}
theorem ww (B : Bt mg) (f_outcomes_of : FnAt P w K mg base "outcomes_of" 1 ["house"] (va K 0)) (x5 : FnAt P w K mg base "best_place" 1 ["totals"] (jm K)) (x8 : FnAtX P w K mg base "scores" 6 ["house", "weights", "handicaps", "row"] (ou K)) (D : ze K mg "best_outcome" wv ["house", "weights", "handicaps", "row"]) : FnAtX P w K mg base "best_outcome" 7 ["house", "weights", "handicaps", "row"] (i4 K) := by
  refine FnAtX.of D p0 (fun vs H Q E h => ?_) (fun f cdv A outer s H vs Q E hr h => ?_)
  . obtain ⟨p, o, h, l, m, r, hs, outs, ds, ws, hc, row, rfl, _⟩ := h
    rfl
  . obtain ⟨p, o, h, l, m, r, hs, outs, ds, ws, hc, row, rfl, hH, G, hl, lw, gw, hm, lh, gh, hrow, R, q⟩ := h
    refine ⟨_, (@zc _ _ _ (@zl _ _ _ _ (@xh _ _ _ _ _ _ _ wa (zg f_outcomes_of (hr.mono (by decide)) rfl (za (pv 0) (@zb _))) (zg x5 (hr.mono (by decide)) rfl (za (wc x8 (hr.mono (by decide)) (v6 rfl) rfl (za (pv 0) (za (pv 1) (za (pv 2) (za (pv 3) (@zb _)))))) (@zb _))) (fun _ _ => rfl)))), ?_⟩;rw [show start ["house", "weights", "handicaps", "row"] [V.ref p, V.ref l, V.ref m, V.ref r] = [some (V.ref p), some (V.ref l), some (V.ref m), some (V.ref r)] from rfl];simp only [zh, zi, ↓reduceIte];refine ⟨p, _, _, rfl, .of hH.tup, rfl, ?_⟩;refine ⟨p, o, h, l, m, r, hs, outs, ds, ws, hc, row, rfl, hH, G, hl, lw, gw, hm, lh, gh, hrow, R, fun H1 t S1 _ ht => ?_⟩
    have pw : ∀ q ∈ yy ds ws row ds.length, q.length = outs.length := fun q hq => by
      obtain ⟨i, hi, rfl⟩ := Zp.mp hq;exact ni G lw R (ZP.mp hi)
    have hsl : (y9 hc (yy ds ws row ds.length)).length = outs.length := qg _ _ lh pw;have ho := G.outs1;have hbl : sh (y9 hc (yy ds ws row ds.length)) < outs.length := by rw [<- hsl]; exact zdc (by omega)
    have hq := q H1 S1;rw [nw, Zk, Zb hbl] at hq;exact ⟨t, _, rfl, .of ht, by omega, o, rfl, _, _, rfl, .of (S1 _ _ hH.outs), _, yr (v := V.str outs[sh (y9 hc (yy ds ws row ds.length))]) (by rw [Ze, Zb hbl]; rfl), hq⟩
theorem qt (B : Bt mg) (re : FnAt P w K mg base "rows_of" 3 ["house"] (kr K)) (ww : FnAtX P w K mg base "best_outcome" 7 ["house", "weights", "handicaps", "row"] (i4 K)) (D : ze K mg "best_table" vv ["house", "weights", "handicaps"]) : FnAtX P w K mg base "best_table" 8 ["house", "weights", "handicaps"] (ll K) := by
  refine FnAtX.of D nn (fun vs H Q E h => ?_) (fun f cdv A outer s H vs Q E hr h => ?_)
  . obtain ⟨p, o, h, l, m, hs, outs, ds, ws, hc, rfl, _⟩ := h
    rfl
  . obtain ⟨p, o, h, l, m, hs, outs, ds, ws, hc, rfl, hH, G, hl, lw, gw, hm, lh, gh, q⟩ := h
    refine ⟨_, (@zc _ _ _ (@zl _ _ _ _ (yj (jx rfl (hu11 hr)) rfl B.dict b9 (za (fw rfl ["row"] ["house", "weights", "handicaps"] rfl (@yh _ _ _ _ (zg re (hr.mono (by decide)) rfl (za (pv 0) (@zb _)))) (fun _ => (zr (i := 0) (show (["row", "house", "weights", "handicaps"] : List Str).Nodup by decide +kernel) rfl (Or.inl rfl))) (fun _ => (@ya _)) (fun _ _ => (@xy _ _ _ _ _ (za (pv 0) (za (wc ww (hr.mono (by decide)) sw rfl (za (pv 1) (za (pv 2) (za (pv 3) (za (pv 0) (@zb _)))))) (@zb _))))) rfl (by decide +kernel) rfl rfl) (@zb _))))), ?_⟩;rw [show start ["house", "weights", "handicaps"] [V.ref p, V.ref l, V.ref m] = [some (V.ref p), some (V.ref l), some (V.ref m)] from rfl];simp only [zh, zi, ↓reduceIte];have h4 := G.hands.2;have h8 : ∀ d ∈ ds, d.words.length <= 8 := fun d hd => (G.words1 d hd).2
    refine ⟨p, o, h, hs, outs, ds, rfl, hH.k, h4, h8, fun H1 rl as S1 _ R1 => ⟨rl, rfl, ⟨_, .of R1.lst⟩, fun dd => ?_⟩⟩
    have few := kj (wss := ds.map HD.words) (by rw [Za]; exact h4) (fun ws hws => by
      obtain ⟨d, hd, rfl⟩ := Zp.mp hws
      exact h8 d hd) _ (Zm _)
    rw [Zt] at few
    have nd : (yi (ds.map HD.words)).Nodup := c6 fun vs hvs => by
      obtain ⟨d, hd, rfl⟩ := Zp.mp hvs;exact (G.hand hd).wordsD
    have hin : ∀ r ∈ yi (ds.map HD.words), rp ds r := fun r hr => l6 hr
    generalize yi (ds.map HD.words) = rs at *;refine yz (xs := as.map V.ref) (PvBT H1 (nw outs ds ws hc) rs) ⟨Same.refl _, [], rfl, rfl, fun i T kv e => by simp at e⟩ ?_ ?_ ?_
    . rintro i ys H2 hi ⟨S2, Ts, rfl, hP⟩
      refine ⟨?_, .of (S2 _ _ R1.lst)⟩;rw [Za, hP.len, ra, Za, Zj];exact Zd (ZB _ _) (Zd few (by decide))
    . rintro i x ys H2 hx ⟨S2, Ts, rfl, hP⟩
      obtain ⟨c, hcx, rfl⟩ := yf hx;have hi : i < rs.length := by have := (Zc.mp hcx).1; have := R1.tups.len; omega
      have er : rs[i]? = some rs[i] := Zb hi;have hrow := S2 _ _ (R1.tups.at' i c _ hcx er);have hR := hin _ (Zl hi);have S12 := S1.trans S2;simp only [zh, zi, ↓reduceIte];refine ⟨p, o, h, l, m, c, hs, outs, ds, ws, hc, rs[i], rfl, hH.mono S12, G, S12 _ _ hl, lw, gw, S12 _ _ hm, lh, gh, .of hrow, hR, fun H3 S3 => ⟨by decide, fun T hT => ?_⟩⟩;have S4 : Same H3 (upd H3 T (.tup [V.ref c, V.str (nw outs ds ws hc rs[i])])) := Same.upd (Same.refl _) hT;refine ⟨S2.trans (S3.trans S4), Ts ++ [T], by simp, ?_⟩;rw [Zq, er]
      show ur _ _ (ra _ (rs.take i ++ [rs[i]]))
      rw [ra, Zn];exact c7 (la (S3.trans S4) hP) (b := c) zf (by rw [zbp]; exact (S3.trans S4) _ _ hrow)
    . rintro ys H2 ⟨S2, Ts, rfl, hP⟩ l2 hl2
      rw [Za, R1.tups.len, Zt] at hP;have S3 : Same H2 (upd H2 l2 (.lst (Ts.map V.ref))) := Same.upd (Same.refl _) hl2;refine ⟨Ts, zf, _, la S3 hP, fun t ht => ?_⟩;rw [zcd (zb3 nd)];exact q _ t (S1.trans (S2.trans (S3.trans (Same.upd (Same.refl _) ht)))) zf
end
def zc7 (T : String) : Prop := kit0 T "int" = some false \/ (kit0 T "int" = some true /\ kit0 T "bool" = some true)
def OtherTh (K : Fg) (H : Hp) (x : V) : Prop := ∃ T, TyOf K H x (.type T) /\ zc7 T
theorem TyOf.mono1 {K : Fg} {H H' : Hp} {x : V} {T : Value} (S : Same H H') (h : TyOf K H x T) : TyOf K H' x T := by
  cases h with
  | non => exact .non
  | bl x => exact .bl x
  | int x => exact .int x
  | str x => exact .str x
  | flt x => exact .flt x
  | lst e => exact .lst (S _ _ e)
  | frz e => exact .frz (S _ _ e)
  | tup e => exact .tup (S _ _ e)
  | dK e => exact .dK (S _ _ e)
  | dT e => exact .dT (S _ _ e)
  | ins e cl ha hn htk hm => exact .ins (S _ _ e) cl ha hn htk hm
theorem OtherTh.mono {K : Fg} {H H' : Hp} {x : V} (S : Same H H') (h : OtherTh K H x) : OtherTh K H' x := by
  obtain ⟨T, t, n⟩ := h;exact ⟨T, TyOf.mono1 S t, n⟩
def dz (K : Fg) : Sp := fun vs H Q _ => ∃ x, vs = [x] /\ ((∃ i, x = .int i /\ Q (.bl true) H) \/ (OtherTh K H x /\ Q (.bl false) H))
def Thing (K : Fg) (H : Hp) (x : V) : Prop := (∃ i, x = .int i) \/ ((∀ i, x ≠ .int i) /\ OtherTh K H x)
theorem Thing.mono {K : Fg} {H H' : Hp} {x : V} (S : Same H H') (h : Thing K H x) : Thing K H' x := h.imp id fun ⟨z, h⟩ => ⟨z, h.mono S⟩
theorem zeg : kit0 "list" "list" = some true := by decide +kernel
theorem zeh : kit0 "int" "int" = some true := by decide +kernel
theorem zei : kit0 "int" "bool" = some false := by decide +kernel
theorem zed : kit0 "tuple" "list" = some false := by decide +kernel
theorem zdm : kit0 "NoneType" "list" = some false := by decide +kernel
theorem zdt : kit0 "NoneType" "int" = some false := by decide +kernel
theorem zdy : kit0 "str" "int" = some false := by decide +kernel
theorem ze3 : kit0 "bool" "int" = some true := by decide +kernel
theorem zeq : kit0 "bool" "bool" = some true := by decide +kernel
theorem tu {K : Fg} {H : Hp} (ns : List Int) : ∀ y ∈ ns.map V.int, Thing K H y := fun y hy => by
  obtain ⟨i, _, rfl⟩ := Zp.mp hy;exact .inl ⟨i, rfl⟩
def okV : V -> Bool | .int i => decide (-(10 ^ 60) < i) && decide (i < 10 ^ 60) | _ => false
def oneV : V -> Bool | .int i => decide (i ≥ 1) | _ => false
theorem zee {i : Int} (h : yw i) : okV (.int i) = true := by
  show (decide (-(10 ^ 60) < i) && decide (i < 10 ^ 60)) = true
  rw [decide_eq_true h.1, decide_eq_true h.2];rfl
def RowIs (K : Fg) (H : Hp) (x : V) (n : Nat) (b : Bool) : Prop := (b = false /\ ∃ T, TyOf K H x (.type T) /\ kit0 T "list" = some false) \/
  ∃ l xs, x = .ref l /\ H l = some (.lst xs) /\ xs.length <= 8 /\ (∀ y ∈ xs, Thing K H y) /\ b = (decide (xs.length = n) && xs.all okV)
def WtsIs (K : Fg) (H : Hp) (x : V) (n : Nat) (b : Bool) : Prop := (b = false /\ ∃ T, TyOf K H x (.type T) /\ kit0 T "list" = some false) \/
  ∃ l xs, x = .ref l /\ H l = some (.lst xs) /\ xs.length <= 8 /\ (∀ y ∈ xs, Thing K H y) /\ b = ((decide (xs.length = n) && xs.all okV) && xs.all oneV)
theorem RowIs.mono {K : Fg} {H H' : Hp} {x : V} {n : Nat} {b : Bool} (S : Same H H') (h : RowIs K H x n b) : RowIs K H' x n b := by
  rcases h with ⟨e, T, t, k⟩ | ⟨l, xs, e, hl, h8, hy, hb⟩
  . exact .inl ⟨e, T, TyOf.mono1 S t, k⟩
  . exact .inr ⟨l, xs, e, S _ _ hl, h8, fun y h => (hy y h).mono S, hb⟩
theorem WtsIs.mono {K : Fg} {H H' : Hp} {x : V} {n : Nat} {b : Bool} (S : Same H H') (h : WtsIs K H x n b) : WtsIs K H' x n b := by
  rcases h with ⟨e, T, t, k⟩ | ⟨l, xs, e, hl, h8, hy, hb⟩
  . exact .inl ⟨e, T, TyOf.mono1 S t, k⟩
  . exact .inr ⟨l, xs, e, S _ _ hl, h8, fun y h => (hy y h).mono S, hb⟩
theorem zcf {ns : List Int} (h : ∀ i ∈ ns, yw i) : (ns.map V.int).all okV = true := by
  rw [Yw, ZL];exact fun i hi => zee (h i hi)
theorem zfb {ns : List Int} (h : ∀ i ∈ ns, 1 <= i) : (ns.map V.int).all oneV = true := by
  rw [Yw, ZL];exact fun i hi => decide_eq_true (h i hi)
theorem RowIs.good {K : Fg} {H : Hp} {l : Addr} {ns : List Int} {n : Nat} (hl : H l = some (.lst (ns.map V.int))) (ln : ns.length = n) (n8 : n <= 8) (g : ∀ i ∈ ns, yw i) : RowIs K H (.ref l) n true := by
  refine .inr ⟨l, _, rfl, hl, by rw [Za]; omega, tu ns, ?_⟩;rw [zcf g, Za, decide_eq_true ln];rfl
theorem WtsIs.good {K : Fg} {H : Hp} {l : Addr} {ns : List Int} {n : Nat} (hl : H l = some (.lst (ns.map V.int))) (ln : ns.length = n) (n8 : n <= 8) (g : ∀ i ∈ ns, yw i /\ 1 <= i) : WtsIs K H (.ref l) n true := by
  refine .inr ⟨l, _, rfl, hl, by rw [Za]; omega, tu ns, ?_⟩;rw [zcf fun i hi => (g i hi).1, zfb fun i hi => (g i hi).2, Za, decide_eq_true ln];rfl
theorem RowIs.wts {K : Fg} {H : Hp} {x : V} {n : Nat} (h : RowIs K H x n false) : WtsIs K H x n false := by
  rcases h with h | ⟨l, xs, e, hl, h8, hy, hb⟩
  . exact .inl h
  . exact .inr ⟨l, xs, e, hl, h8, hy, by rw [<- hb]; rfl⟩
def cb (K : Fg) : Sp := fun vs H Q _ => ∃ x, vs = [x] /\ Thing K H x /\ Q (.bl (okV x)) H
def fm (K : Fg) : Sp := fun vs H Q _ => ∃ (x : V) (n : Nat) (b : Bool), vs = [x, .int n] /\ RowIs K H x n b /\ ∀ H', Same H H' -> Q (.bl b) H'
def PvOk (H : Hp) (xs : List V) (i : Nat) (ys : List V) (H' : Hp) : Prop := H' = H /\ ys = ((xs.take i).map okV).map V.bl
def PvOne (H : Hp) (xs : List V) (i : Nat) (ys : List V) (H' : Hp) : Prop := H' = H /\ ys = ((xs.take i).map oneV).map V.bl
def bn (K : Fg) : Sp := fun vs H Q _ => ∃ (p o h : Addr) (hs : List Addr) (outs : List Str) (ds : List HD) (x : V) (b : Bool), vs = [.ref p, x] /\ HHouse H p o h hs outs ds /\ RowIs K H x outs.length b /\ ∀ H', Same H H' -> Q (.bl b) H'
def bo (K : Fg) : Sp := fun vs H Q _ => ∃ (p o h : Addr) (hs : List Addr) (outs : List Str) (ds : List HD) (x : V) (b : Bool), vs = [.ref p, x] /\ HHouse H p o h hs outs ds /\ WtsIs K H x ds.length b /\ ∀ H', Same H H' -> Q (.bl b) H'
def zb2 (a : Ad) (K : Fg) : Sp := fun vs H Q E => ∃ (p o h : Addr) (hs : List Addr) (outs : List Str) (ds : List HD) (x y : V) (b c : Bool), vs = [.ref p, x, y] /\ HHouse H p o h hs outs ds /\ WtsIs K H x ds.length b /\ RowIs K H y outs.length c /\
  ((b && c) = true -> ∀ H', Same H H' -> Q .non H') /\ ((b && c) = false -> ∀ H', Same H H' -> E (.ref a.NoWeight) none H')
def BadW (K : Fg) (H : Hp) (p : Addr) (x y : V) (n : Nat) : Prop := ∃ (o h : Addr) (hs : List Addr) (outs : List Str) (ds : List HD) (b c : Bool), HHouse H p o h hs outs ds /\ GoodHouse outs ds /\ ds.length = n /\ WtsIs K H x ds.length b /\ RowIs K H y outs.length c /\ (b && c) = false
theorem BadW.mono {K : Fg} {H H' : Hp} {p : Addr} {x y : V} {n : Nat} (S : Same H H') (h : BadW K H p x y n) : BadW K H' p x y n := by
  obtain ⟨o, h, hs, outs, ds, b, c, h1, g, h2, h3, h4, h5⟩ := h;exact ⟨o, h, hs, outs, ds, b, c, h1.mono S, g, h2, h3.mono S, h4.mono S, h5⟩
def rf (a : Ad) (K : Fg) : Sp := fun vs H Q E => ∃ (p : Addr) (x y z : V) (n : Nat), vs = [.ref p, x, y, z] /\ BadW K H p x y n /\ ∀ H', Same H H' -> E (.ref a.NoWeight) none H'
def zcl (a : Ad) (K : Fg) : Sp := fun vs H Q E => ∃ (p : Addr) (x y : V) (n : Nat), vs = [.ref p, x, y] /\ BadW K H p x y n /\ ∀ H', Same H H' -> E (.ref a.NoWeight) none H'
theorem me : ∀ {l : List Nat}, (∀ x ∈ l, 1 <= x) -> 1 <= l.prod
  | [], _ => Zm _
  | x :: l, h => by
    rw [List.prod_cons];exact Yl (h x ZA) (me fun y hy => h y (Zv _ hy))
section
variable {P : Program} {w : World} {K : Fg} {mg : Str -> Option Value} {base : Heap} {a : Ad}
theorem av (B : Bt mg) (D : ze K mg "is_whole" ux ["thing"]) : FnAt P w K mg base "is_whole" 1 ["thing"] (dz K) := by
  refine FnAt.of D lc (fun vs H Q E h => ?_) (fun f cdv A outer s H vs Q E hr h => ?_)
  . obtain ⟨x, rfl, _⟩ := h
    rfl
  . obtain ⟨x, rfl, h⟩ := h
    refine ⟨_, (@zc _ _ _ (@zl _ _ _ _ (@uf _ _ _ _ _ _ _ (zn xf rfl B.isinstance yb (za (pv 0) (za (ul rfl B.int zch) (@zb _)))) (@u9 _ _ _ _ _ (@za8 _ _ _ _ (zn xf rfl B.isinstance yb (za (pv 0) (za (ul rfl B.bool b7) (@zb _))))))))), ?_⟩;rw [show start ["thing"] [x] = [some x] from rfl];simp only [zh, zi, ↓reduceIte]
    rcases h with ⟨i, rfl, q⟩ | ⟨⟨T, ht, hn⟩, q⟩
    . exact ⟨_, .int _, true, zeh, iteT ⟨_, .int _, false, zei, q⟩⟩
    . rcases hn with hn | ⟨h1, h2⟩
      . exact ⟨_, ht, false, hn, iteF q⟩
      . exact ⟨_, ht, true, h1, iteT ⟨_, ht, true, h2, q⟩⟩
theorem dq (B : Bt mg) (uw : FnAt P w K mg base "is_whole" 1 ["thing"] (dz K)) (D : ze K mg "is_bounded" vt ["thing"]) : FnAt P w K mg base "is_bounded" 2 ["thing"] (cb K) := by
  refine FnAt.of D nt (fun vs H Q E h => ?_) (fun f cdv A outer s H vs Q E hr h => ?_)
  . obtain ⟨x, rfl, _⟩ := h
    rfl
  . obtain ⟨x, rfl, h, q⟩ := h
    refine ⟨_, (@zc _ _ _ (@zl _ _ _ _ (@uf _ _ _ _ _ _ _ (zg uw (hr.mono (by decide)) rfl (za (pv 0) (@zb _))) (@u9 _ _ _ _ _ (@ql _ _ _ _ _ _ _ _ g8 (zn kg rfl B.abs f8 (za (pv 0) (@zb _))) (@zm _ _ _ _ _ _ _ _ ug (@zd _ _ _ _) (@zd _ _ _ _)) (yk _)))))), ?_⟩;rw [show start ["thing"] [x] = [some x] from rfl];simp only [zh, zi, ↓reduceIte]
    rcases h with ⟨i, rfl⟩ | ⟨hno, h⟩
    . refine ⟨_, rfl, .inl ⟨i, rfl, _, rfl, iteT ⟨_, rfl, ⟨by decide, by decide, by decide⟩, ?_⟩⟩⟩
      have e : decide ((if i < 0 then -i else i) < (10 : Int) ^ 60) = okV (.int i) := by
        show _ = (decide (-(10 ^ 60) < i) && decide (i < 10 ^ 60))
        by_cases h1 : -(10 ^ 60) < i /\ i < 10 ^ 60
        . rw [decide_eq_true h1.1, decide_eq_true h1.2, decide_eq_true (by split <;> omega)]
          rfl
        . rw [decide_eq_false (by split <;> omega)]
          by_cases h2 : -(10 ^ 60) < i
          . rw [decide_eq_false (fun z => h1 ⟨h2, z⟩), Bool.and_false]
          . rw [decide_eq_false h2, Bool.false_and]
      rw [<- e] at q;exact q
    . refine ⟨_, rfl, .inr ⟨h, _, rfl, iteF ?_⟩⟩
      have e : okV x = false := by
        cases x with
        | int i => exact absurd rfl (hno i)
        | _ => rfl
      rw [e] at q;exact q
theorem gl (B : Bt mg) (vy : FnAt P w K mg base "is_bounded" 2 ["thing"] (cb K)) (D : ze K mg "is_grid_row" vd ["thing", "width"]) : FnAt P w K mg base "is_grid_row" 3 ["thing", "width"] (fm K) := by
  refine FnAt.of D og (fun vs H Q E h => ?_) (fun f cdv A outer s H vs Q E hr h => ?_)
  . obtain ⟨x, n, b, rfl, _⟩ := h
    rfl
  . obtain ⟨x, n, b, rfl, h, q⟩ := h
    refine ⟨_, (@zj _ _ _ _ _ (@yq _ _ _ _ _ _ _ _ (PW.pt (@o7 _ _ _ _ _ _ _ (@xu _ _ _ _ (wb (zn xf rfl B.isinstance yb (za (pv 0) (za (ul rfl B.list vz) (@zb _)))))) (@qy _ _ _ _ (@yv _ _ _ _ _ _ _ _ fe (zn zz rfl B.len xm (za (pv 0) (@zb _))) (pv 1) (yk _))))) (@zc _ _ _ (@zl _ _ _ _ (@vp _ _ _ _))) (@z0 _)) (@zc _ _ _ (@zl _ _ _ _ (zn (wx rfl) rfl B.all sy (za (yl ["worth"] ["thing", "width"] rfl (@yh _ _ _ _ (pv 0)) (fun _ => (zr (i := 0) (show (["worth", "thing", "width"] : List Str).Nodup by decide +kernel) rfl (Or.inl rfl))) (fun _ => (@ya _)) (fun _ => (zg vy (hr.mono (by decide)) rfl (za (pv 0) (@zb _)))) rfl (by decide +kernel) rfl rfl) (@zb _)))))), ?_⟩;rw [show start ["thing", "width"] [x, V.int n] = [some x, some (V.int n)] from rfl];simp only [zh, zi, ↓reduceIte]
    rcases h with ⟨rfl, T, ht, hk⟩ | ⟨l, xs, rfl, hl, h8, hth, rfl⟩
    . exact ⟨_, ht, false, hk, iteT (q H (Same.refl _))⟩
    . refine ⟨_, .lst hl, true, zeg, iteF ⟨_, rfl, _, .inl (.of hl), rfl, ite2 (fun z => ?_) (fun z => ?_)⟩⟩
      . have e : ¬ xs.length = n := fun e => by rw [e] at z; simp at z
        rw [decide_eq_false e] at q;exact q H (Same.refl _)
      . have e : xs.length = n := by
          by_cases e : xs.length = n
          . exact e
          . exact absurd (by simp; omega) z
        rw [decide_eq_true e, Bool.true_and] at q;refine ⟨_, rfl, ⟨_, .of hl⟩, fun d => ?_⟩;refine yz (xs := xs) (PvOk H xs) ⟨rfl, rfl⟩ ?_ ?_ ?_
        . rintro i ys H2 hi ⟨rfl, rfl⟩
          refine ⟨?_, .of hl⟩;rw [Za, Za, Zj];exact Zd (show _ <= 8 by omega) (by decide)
        . rintro i x ys H2 hx ⟨rfl, rfl⟩
          simp only [zh, zi, ↓reduceIte];refine ⟨x, rfl, hth x (Zi hx), rfl, ?_⟩;rw [Zq, hx, Zn, Zn];rfl
        . rintro ys H2 ⟨rfl, rfl⟩ l1 hl1
          rw [Zt];refine ⟨xs.map okV, .of zf, ?_⟩;have ea : (xs.map okV).all id = xs.all okV := by rw [Yw]; rfl
          rw [ea];exact q _ (Same.upd (Same.refl _) hl1)
theorem je (B : Bt mg) (f_outcomes_of : FnAt P w K mg base "outcomes_of" 1 ["house"] (va K 0)) (yp : FnAt P w K mg base "is_grid_row" 3 ["thing", "width"] (fm K)) (D : ze K mg "are_handicaps" wu ["house", "thing"]) : FnAt P w K mg base "are_handicaps" 4 ["house", "thing"] (bn K) := by
  refine FnAt.of D qw (fun vs H Q E h => ?_) (fun f cdv A outer s H vs Q E hr h => ?_)
  . obtain ⟨p, o, h, hs, outs, ds, x, b, rfl, _⟩ := h
    rfl
  . obtain ⟨p, o, h, hs, outs, ds, x, b, rfl, hH, hx, q⟩ := h
    refine ⟨_, (@zc _ _ _ (@zl _ _ _ _ (zg yp (hr.mono (by decide)) rfl (za (pv 1) (za (zn zz rfl B.len xm (za (zg f_outcomes_of (hr.mono (by decide)) rfl (za (pv 0) (@zb _))) (@zb _))) (@zb _)))))), ?_⟩;rw [show start ["house", "thing"] [V.ref p, x] = [some (V.ref p), some x] from rfl];simp only [zh, zi, ↓reduceIte];refine ⟨p, _, _, rfl, .of hH.tup, rfl, o, rfl, _, .inr (.of hH.outs), ?_⟩;rw [Za];exact ⟨x, outs.length, b, rfl, hx, q⟩
theorem g0 (B : Bt mg) (f_hands_of : FnAt P w K mg base "hands_of" 1 ["house"] (va K 1)) (yp : FnAt P w K mg base "is_grid_row" 3 ["thing", "width"] (fm K)) (D : ze K mg "are_weights" vf ["house", "thing"]) : FnAt P w K mg base "are_weights" 4 ["house", "thing"] (bo K) := by
  refine FnAt.of D on (fun vs H Q E h => ?_) (fun f cdv A outer s H vs Q E hr h => ?_)
  . obtain ⟨p, o, h, hs, outs, ds, x, b, rfl, _⟩ := h
    rfl
  . obtain ⟨p, o, h, hs, outs, ds, x, b, rfl, hH, hx, q⟩ := h
    refine ⟨_, (@zc _ _ _ (@zl _ _ _ _ (@uf _ _ _ _ _ _ _ (zg yp (hr.mono (by decide)) rfl (za (pv 1) (za (zn zz rfl B.len xm (za (zg f_hands_of (hr.mono (by decide)) rfl (za (pv 0) (@zb _))) (@zb _))) (@zb _)))) (@u9 _ _ _ _ _ (zn (wx rfl) rfl B.all sy (za (yl ["weight"] ["house", "thing"] rfl (@yh _ _ _ _ (pv 1)) (fun _ => (zr (i := 0) (show (["weight", "house", "thing"] : List Str).Nodup by decide +kernel) rfl (Or.inl rfl))) (fun _ => (@ya _)) (fun _ => (@ql _ _ _ _ _ _ _ _ op_ge (pv 0) (@zd _ _ _ _) (yk _))) rfl (by decide +kernel) rfl rfl) (@zb _))))))), ?_⟩;rw [show start ["house", "thing"] [V.ref p, x] = [some (V.ref p), some x] from rfl];simp only [zh, zi, ↓reduceIte];refine ⟨p, _, _, rfl, .of hH.tup, rfl, h, rfl, _, .inr (.of hH.hands), ?_⟩;rw [Za, hH.hand.1]
    rcases hx with ⟨rfl, T, ht, hk⟩ | ⟨l, xs, rfl, hl, h8, hth, rfl⟩
    . exact ⟨x, ds.length, false, rfl, .inl ⟨rfl, T, ht, hk⟩, fun H1 S1 => ⟨_, rfl, iteF (q H1 S1)⟩⟩
    . refine ⟨.ref l, ds.length, _, rfl, .inr ⟨l, xs, rfl, hl, h8, hth, rfl⟩, fun H1 S1 => ⟨_, rfl, ite2 (fun y => ?_) (fun y => ?_)⟩⟩
      . rw [y, Bool.true_and] at q
        have hl1 := S1 _ _ hl;have hok := (Bool.and_eq_true_iff.mp y).2;refine ⟨_, rfl, ⟨_, .of hl1⟩, fun d => ?_⟩;refine yz (xs := xs) (PvOne H1 xs) ⟨rfl, rfl⟩ ?_ ?_ ?_
        . rintro i ys H2 hi ⟨rfl, rfl⟩
          refine ⟨?_, .of hl1⟩;rw [Za, Za, Zj];exact Zd (show _ <= 8 by omega) (by decide)
        . rintro i x ys H2 hx ⟨rfl, rfl⟩
          have hs := ZL.mp hok x (Zi hx)
          obtain ⟨k, rfl⟩ : ∃ k, x = .int k := by
            cases x with
            | int k => exact ⟨k, rfl⟩
            | _ => cases hs
          simp only [zh, zi, ↓reduceIte];refine ⟨rfl, ?_⟩;rw [Zq, hx, Zn, Zn];rfl
        . rintro ys H2 ⟨rfl, rfl⟩ l1 hl1'
          rw [Zt];refine ⟨xs.map oneV, .of zf, ?_⟩;have ea : (xs.map oneV).all id = xs.all oneV := by rw [Yw]; rfl
          rw [ea];exact q _ (S1.trans (Same.upd (Same.refl _) hl1'))
      . rw [Bool.eq_false_iff.mpr y, Bool.false_and] at q
        exact q H1 S1
theorem km (B : Bt mg) (C : Ct K mg a) (ve : FnAt P w K mg base "are_weights" 4 ["house", "thing"] (bo K)) (wo : FnAt P w K mg base "are_handicaps" 4 ["house", "thing"] (bn K)) (D : ze K mg "refuse_weights" x9 ["house", "weights", "handicaps"]) : FnAtX P w K mg base "refuse_weights" 5 ["house", "weights", "handicaps"] (zb2 a K) := by
  refine FnAtX.of D rj (fun vs H Q E h => ?_) (fun f cdv A outer s H vs Q E hr h => ?_)
  . obtain ⟨p, o, h, hs, outs, ds, x, y, b, c, rfl, _⟩ := h
    rfl
  . obtain ⟨p, o, h, hs, outs, ds, x, y, b, c, rfl, hH, hx, hy, q0, q1⟩ := h
    refine ⟨_, (@zj _ _ _ _ _ (@yq _ _ _ _ _ _ _ _ (@xu _ _ _ _ (wb (zg ve (hr.mono (by decide)) rfl (za (pv 0) (za (pv 1) (@zb _)))))) (@zc _ _ _ (tz rfl C.q_NoWeight.toErr rfl C.m_NoWeight (vi rfl) (za (@ud _ _ _ _) (@zb _)))) (@z0 _)) (@zc _ _ _ (@yq _ _ _ _ _ _ _ _ (@xu _ _ _ _ (wb (zg wo (hr.mono (by decide)) rfl (za (pv 0) (za (pv 2) (@zb _)))))) (@zc _ _ _ (tz rfl C.q_NoWeight.toErr rfl C.m_NoWeight (vi rfl) (za (@ud _ _ _ _) (@zb _)))) (@z0 _)))), ?_⟩;rw [show start ["house", "weights", "handicaps"] [V.ref p, x, y] = [some (V.ref p), some x, some y] from rfl];simp only [zh, zi, ↓reduceIte];refine ⟨p, o, h, hs, outs, ds, x, b, rfl, hH, hx, fun H1 S1 => ?_⟩;refine ⟨b, rfl, ?_⟩
    cases b with
    | false => exact ite2 (fun _ => ⟨by decide, q1 rfl H1 S1⟩) fun z => absurd rfl z
    | true =>
      refine iteF ⟨p, o, h, hs, outs, ds, y, c, rfl, hH.mono S1, hy.mono S1, fun H2 S2 => ⟨c, rfl, ?_⟩⟩
      cases c with
      | false => exact ite2 (fun _ => ⟨by decide, q1 rfl H2 (S1.trans S2)⟩) fun z => absurd rfl z
      | true => exact iteF (q0 rfl H2 (S1.trans S2))
theorem zcu (B : Bt mg) (wg : FnAtX P w K mg base "refuse_weights" 5 ["house", "weights", "handicaps"] (zb2 a K)) (xz : FnAt P w K mg base "parts_of" 4 ["house", "weights", "row"] (su K)) (D : ze K mg "scores" qz ["house", "weights", "handicaps", "row"]) : FnAtX P w K mg base "scores" 6 ["house", "weights", "handicaps", "row"] (rf a K) := by
  refine FnAtX.of D sc_scores (fun vs H Q E h => ?_) (fun f cdv A outer s H vs Q E hr h => ?_)
  . obtain ⟨p, x, y, z, n, rfl, _⟩ := h
    rfl
  . obtain ⟨p, x, y, z, n, rfl, ⟨o, h, hs, outs, ds, b, c, hH, G, hn, hx, hy, hbc⟩, q⟩ := h
    refine ⟨_, (@zj _ _ _ _ _ (wk (wc wg (hr.mono (by decide)) (v6 rfl) rfl (za (pv 0) (za (pv 1) (za (pv 2) (@zb _)))))) (@zj _ _ _ _ _ (PS.nox (zw (i := 4) sc_scores.nd rfl (Or.inl rfl) (yj tf rfl B.list vz (za (pv 2) (@zb _))))) (@zj _ _ _ _ _ (PS.nox (vc PassesOwn.never rfl (@yh _ _ _ _ (zg xz (hr.mono (by decide)) rfl (za (pv 0) (za (pv 1) (za (pv 3) (@zb _)))))) (zr (i := 5) sc_scores.nd rfl (Or.inl rfl)) (@zc _ _ _ (il (i := 4) ["total", "number"] ["house", "weights", "handicaps", "row", "totals", "part"] sc_scores.nd rfl rfl rfl (di rfl B.zip (za (pv 4) (za (pv 5) (@zb _)))) (fun _ => (jb rfl (w9 (zr (i := 0) (show (["total", "number", "house", "weights", "handicaps", "row", "totals", "part"] : List Str).Nodup by decide +kernel) rfl (Or.inl rfl)) (w9 (zr (i := 1) (show (["total", "number", "house", "weights", "handicaps", "row", "totals", "part"] : List Str).Nodup by decide +kernel) rfl (Or.inl rfl)) (@mr _))))) (fun _ => (@ya _)) (fun _ => (@zm _ _ _ _ _ _ _ _ we (pv 0) (pv 1))) rfl (by decide +kernel) rfl rfl rfl)))) (@zc _ _ _ (PS.nox (@zl _ _ _ _ (pv 4))))))), ?_⟩;rw [show start ["house", "weights", "handicaps", "row", "totals", "part"] [V.ref p, x, y, z] = [some (V.ref p), some x, some y, some z, none, none] from rfl];simp only [zh, zi, ↓reduceIte];exact ⟨p, o, h, hs, outs, ds, x, y, b, c, rfl, hH, hx, hy, (fun e => by rw [hbc] at e; cases e), fun _ H1 S1 => q H1 S1⟩
theorem zdd (B : Bt mg) (x8 : FnAtX P w K mg base "scores" 6 ["house", "weights", "handicaps", "row"] (rf a K)) (oj : FnAt P w K mg base "pivot" 2 ["totals", "part"] (j7 K)) (xz : FnAt P w K mg base "parts_of" 4 ["house", "weights", "row"] (su K)) (D : ze K mg "pivots" qv ["house", "weights", "handicaps", "row"]) : FnAtX P w K mg base "pivots" 7 ["house", "weights", "handicaps", "row"] (rf a K) := by
  refine FnAtX.of D sc_pivots (fun vs H Q E h => ?_) (fun f cdv A outer s H vs Q E hr h => ?_)
  . obtain ⟨p, x, y, z, n, rfl, _⟩ := h
    rfl
  . obtain ⟨p, x, y, z, n, rfl, hb, q⟩ := h
    refine ⟨_, (@zj _ _ _ _ _ (zw (i := 4) sc_pivots.nd rfl (Or.inr rfl) (wc x8 (hr.mono (by decide)) (v6 rfl) rfl (za (pv 0) (za (pv 1) (za (pv 2) (za (pv 3) (@zb _))))))) (@zc _ _ _ (PS.nox (@zl _ _ _ _ (yl ["part"] ["house", "weights", "handicaps", "row", "totals"] rfl (@yh _ _ _ _ (zg xz (hr.mono (by decide)) rfl (za (pv 0) (za (pv 1) (za (pv 3) (@zb _)))))) (fun _ => (zr (i := 0) (show (["part", "house", "weights", "handicaps", "row", "totals"] : List Str).Nodup by decide +kernel) rfl (Or.inl rfl))) (fun _ => (@ya _)) (fun _ => (zg oj (hr.mono (by decide)) rfl (za (pv 5) (za (pv 0) (@zb _))))) rfl (by decide +kernel) rfl rfl))))), ?_⟩;rw [show start ["house", "weights", "handicaps", "row", "totals"] [V.ref p, x, y, z] = [some (V.ref p), some x, some y, some z, none] from rfl];simp only [zh, zi, ↓reduceIte];exact ⟨p, x, y, z, n, rfl, hb, q⟩
theorem ig (B : Bt mg) (f_outcomes_of : FnAt P w K mg base "outcomes_of" 1 ["house"] (va K 0)) (x5 : FnAt P w K mg base "best_place" 1 ["totals"] (jm K)) (x8 : FnAtX P w K mg base "scores" 6 ["house", "weights", "handicaps", "row"] (rf a K)) (D : ze K mg "best_outcome" wv ["house", "weights", "handicaps", "row"]) : FnAtX P w K mg base "best_outcome" 7 ["house", "weights", "handicaps", "row"] (rf a K) := by
  refine FnAtX.of D p0 (fun vs H Q E h => ?_) (fun f cdv A outer s H vs Q E hr h => ?_)
  . obtain ⟨p, x, y, z, n, rfl, _⟩ := h
    rfl
  . obtain ⟨p, x, y, z, n, rfl, hb, q⟩ := h
    have ⟨o, h, hs, outs, ds, b, c, hH, G, hn, hx, hy, hbc⟩ := hb;refine ⟨_, (@zc _ _ _ (@zl _ _ _ _ (@xh _ _ _ _ _ _ _ wa (zg f_outcomes_of (hr.mono (by decide)) rfl (za (pv 0) (@zb _))) (zg x5 (hr.mono (by decide)) rfl (za (wc x8 (hr.mono (by decide)) (v6 rfl) rfl (za (pv 0) (za (pv 1) (za (pv 2) (za (pv 3) (@zb _)))))) (@zb _))) (fun _ _ => rfl)))), ?_⟩;rw [show start ["house", "weights", "handicaps", "row"] [V.ref p, x, y, z] = [some (V.ref p), some x, some y, some z] from rfl];simp only [zh, zi, ↓reduceIte];refine ⟨p, _, _, rfl, .of hH.tup, rfl, ?_⟩;exact ⟨p, x, y, z, n, rfl, hb, q⟩
theorem dk (B : Bt mg) (re : FnAt P w K mg base "rows_of" 3 ["house"] (kr K)) (ww : FnAtX P w K mg base "best_outcome" 7 ["house", "weights", "handicaps", "row"] (rf a K)) (D : ze K mg "best_table" vv ["house", "weights", "handicaps"]) : FnAtX P w K mg base "best_table" 8 ["house", "weights", "handicaps"] (zcl a K) := by
  refine FnAtX.of D nn (fun vs H Q E h => ?_) (fun f cdv A outer s H vs Q E hr h => ?_)
  . obtain ⟨p, x, y, n, rfl, _⟩ := h
    rfl
  . obtain ⟨p, x, y, n, rfl, hb, q⟩ := h
    have ⟨o, h, hs, outs, ds, b, c, hH, G, hn, hx, hy, hbc⟩ := hb;refine ⟨_, (@zc _ _ _ (@zl _ _ _ _ (yj (jx rfl (hu11 hr)) rfl B.dict b9 (za (fw rfl ["row"] ["house", "weights", "handicaps"] rfl (@yh _ _ _ _ (zg re (hr.mono (by decide)) rfl (za (pv 0) (@zb _)))) (fun _ => (zr (i := 0) (show (["row", "house", "weights", "handicaps"] : List Str).Nodup by decide +kernel) rfl (Or.inl rfl))) (fun _ => (@ya _)) (fun _ _ => (@xy _ _ _ _ _ (za (pv 0) (za (wc ww (hr.mono (by decide)) sw rfl (za (pv 1) (za (pv 2) (za (pv 3) (za (pv 0) (@zb _)))))) (@zb _))))) rfl (by decide +kernel) rfl rfl) (@zb _))))), ?_⟩;rw [show start ["house", "weights", "handicaps"] [V.ref p, x, y] = [some (V.ref p), some x, some y] from rfl];simp only [zh, zi, ↓reduceIte];have h4 := G.hands.2;have h8 : ∀ d ∈ ds, d.words.length <= 8 := fun d hd => (G.words1 d hd).2
    refine ⟨p, o, h, hs, outs, ds, rfl, hH.k, h4, h8, fun H1 rl as S1 _ R1 => ⟨rl, rfl, ⟨_, .of R1.lst⟩, fun dd => ?_⟩⟩
    have hpos : 0 < as.length := by
      rw [R1.tups.len, gf, YJ]
      exact me fun x hx => by
        obtain ⟨d, hd, rfl⟩ := Zp.mp hx;exact (G.words1 d hd).1
    refine yz (xs := as.map V.ref) (fun i ys H' => i = 0 /\ ys = [] /\ H' = H1) ⟨rfl, rfl, rfl⟩ ?_ ?_ ?_
    . rintro i ys H2 hi ⟨rfl, rfl, rfl⟩
      exact ⟨ZE _, .of R1.lst⟩
    . rintro i z ys H2 hz ⟨rfl, rfl, rfl⟩
      simp only [zh, zi, ↓reduceIte];exact ⟨p, x, y, z, n, rfl, hb.mono S1, fun H3 S3 => q H3 (S1.trans S3)⟩
    . rintro ys H2 ⟨e, _⟩
      rw [Za] at e;omega
end
def az (K : Fg) : Sp := fun vs H Q _ => ∃ (a : Addr) (ns : List Int), vs = [.ref a] /\ SqL K H a (ns.map V.int) /\ ns.length <= 63 /\ ∀ H', Q (.bl true) H'
theorem zbm {K : Fg} {f : Addr} {fd : FuncData} (F : Fun K "law" "law" pi f fd) (s : Shared) (u : Value) : BindsTo s fd ⟨[u], []⟩ [("script", u)] := by
  obtain ⟨oc, od, kV, doc, pm, an, cdv, ct, osl, rfl, lk, hcd⟩ := F.ex;exact .of_eq rfl
def BentIs (K : Fg) (H : Hp) (x : V) (n : Nat) (L : Int) : Prop := (∃ T, TyOf K H x (.type T) /\ kit0 T "list" = some false) \/ ∃ l xs, x = .ref l /\ H l = some (.lst xs) /\ xs.length <= 8 /\ (∀ y ∈ xs, Thing K H y) /\ (xs.length ≠ n \/ ∃ y ∈ xs, okV y = false \/ y = .int (L - 1))
theorem BentIs.row {K : Fg} {H : Hp} {x : V} {n : Nat} (h : BentIs K H x n (1 - 10 ^ 60)) : RowIs K H x n false := by
  rcases h with ⟨T, t, k⟩ | ⟨l, xs, e, hl, h8, hy, hb⟩
  . exact .inl ⟨rfl, T, t, k⟩
  . refine .inr ⟨l, xs, e, hl, h8, hy, ?_⟩
    rcases hb with z | ⟨y, ym, z⟩
    . rw [decide_eq_false z]; rfl
    . have : xs.all okV = false := by
        rw [YE];refine ⟨y, ym, ?_⟩
        rcases z with z | rfl
        . rw [z]; decide
        . decide
      rw [this, Bool.and_false]
theorem BentIs.wts {K : Fg} {H : Hp} {x : V} {n : Nat} (h : BentIs K H x n 1) : WtsIs K H x n false := by
  rcases h with ⟨T, t, k⟩ | ⟨l, xs, e, hl, h8, hy, hb⟩
  . exact .inl ⟨rfl, T, t, k⟩
  . refine .inr ⟨l, xs, e, hl, h8, hy, ?_⟩
    rcases hb with z | ⟨y, ym, z | rfl⟩
    . rw [decide_eq_false z]; rfl
    . have : xs.all okV = false := by
        rw [YE];exact ⟨y, ym, by rw [z]; decide⟩
      rw [this, Bool.and_false];rfl
    . have : xs.all oneV = false := by
        rw [YE];exact ⟨_, ym, by decide⟩
      rw [this, Bool.and_false]
def spS3 (a : Ad) (K : Fg) (b : Bool) : Sp := if b then rf a K else ou K
def spT3 (a : Ad) (K : Fg) (b : Bool) : Sp := if b then zcl a K else ll K
def spV3 (a : Ad) (K : Fg) (b : Bool) : Sp := if b then rf a K else ef K
def Good52 (K : Fg) (H : Hp) (p : Addr) (x y : V) (r : Addr) : Prop := ∃ (o h l m : Addr) (hs : List Addr) (outs : List Str) (ds : List HD) (ws hc : List Int) (row : List Str), x = .ref l /\ y = .ref m /\ HHouse H p o h hs outs ds /\ GoodHouse outs ds /\ H l = some (.lst (ws.map V.int)) /\ ws.length = ds.length /\ (∀ i ∈ ws, yw i /\ 1 <= i) /\ H m = some (.lst (hc.map V.int)) /\ hc.length = outs.length /\ (∀ i ∈ hc, yw i) /\ SqT K H r (row.map V.str) /\ rp ds row
theorem Good52.mono {K : Fg} {H H' : Hp} {p : Addr} {x y : V} {r : Addr} (S : Same H H') (h : Good52 K H p x y r) : Good52 K H' p x y r := by
  obtain ⟨o, h, l, m, hs, outs, ds, ws, hc, row, e1, e2, hH, G, hl, lw, gw, hm, lh, gh, hr, R⟩ := h;exact ⟨o, h, l, m, hs, outs, ds, ws, hc, row, e1, e2, hH.mono S, G, S _ _ hl, lw, gw, S _ _ hm, lh, gh, S.seqT hr, R⟩
def oi (b : Bool) : List V := if b then [.bl true, .bl true, .bl false] else []
def za4 (a : Ad) (K : Fg) (b : Bool) : Sp := fun vs H Q _ => ∃ (way : Nat) (p : Addr) (x y : V) (r : Addr), vs = [.int way, .ref p, x, y, .ref r] /\ (if b then ∃ n, BadW K H p x y n else Good52 K H p x y r) /\ ∀ H' t, Same H H' -> H' t = some (.tup (oi b)) -> Q (.ref t) H'
def J52 (a : Ad) (H4 : Hp) (σ0 : L2.St) (b : Bool) (σ : L2.St) (c : Value) (H' : Hp) : Prop := Same H4 H' /\ σ = σ0 /\ c = .ref a.NoWeight /\ b = true
theorem i7 (b : Bool) : (oi b).all yx = true := by cases b <;> rfl
theorem zel (b : Bool) : eqVs (oi b) (oi b) = true := by cases b <;> rfl
def PvW52 (a hb p du r : Addr) (x y : V) (c : Int) (n : Nat) (H : Hp) (i : Nat) (σ : L2.St) (H' : Hp) : Prop := Same H H' /\ ∃ v : Option V, σ = [some (.ref a), some (.int n), some (.ref hb), some (.ref p), some x, some y, some (.int c), some (.ref du), some (.ref r), v]
def ag (K : Fg) : Sp := fun vs H Q _ => ∃ (l : Addr) (ns : List Int) (n : Nat) (c L : Int), vs = [.ref l, .int c, .int L] /\ H l = some (.lst (ns.map V.int)) /\ ns.length = n /\ 1 <= n /\ n <= 7 /\ ∀ H' x, Same H H' -> BentIs K H' x n L -> Q x H'
section
variable {P : Program} {w : World} {K : Fg} {mg : Str -> Option Value} {base : Heap} {a : Ad}
theorem rm (B : Bt mg) (D : ze K mg "_law_bent" v8 ["some", "cell", "least_one"]) : FnAt P w K mg base "_law_bent" 1 ["some", "cell", "least_one"] (ag K) := by
  refine FnAt.of D sc_law_bent (fun vs H Q E h => ?_) (fun f cdv A outer s H vs Q E hr h => ?_)
  . obtain ⟨l, ns, n, c, L, rfl, _⟩ := h
    rfl
  . obtain ⟨l, ns, n, c, L, rfl, hl, ln, n1, n7, q⟩ := h
    have hy := yn (c / 4) (show (0 : Int) < 10 by decide);have hj := yn c (show (0 : Int) < n by omega);obtain ⟨jn, hjn⟩ : ∃ jn : Nat, c % (n : Int) = jn := ⟨(c % (n : Int)).toNat, by omega⟩
    have rest : ∃ tr, PSs (cxOf CX0 P w K mg base ["some", "cell", "least_one", "place", "way", "bent"] "_law_bent" (zk v8) f cdv A outer s H E).nox ((y0 v8).drop 4) tr /\
        ∀ (H1 : Hp) (b : Addr) (xs : List V) (wy : Int), Same H H1 -> H b = none -> H1 b = some (.lst xs) -> xs.length = n -> 0 <= wy -> wy < 10 -> (wy < 6 -> BentIs K H1 (.ref b) n L) -> (6 <= wy -> xs = ns.map V.int) ->
          tr { nx := fun _ H' => Q .non H', rt := Q } [some (.ref l), some (.int c), some (.int L), some (.int jn), some (.int wy), some (.ref b)] H1 := by
      refine ⟨_, (zj (@yq _ _ _ _ _ _ _ _ (@yv _ _ _ _ _ _ _ _ ub (pv 4) (@zd _ _ _ _) (yk _)) (@zc _ _ _ (wk (pq PySem.F.plainAttrs_list PySem.F.slot_list_append PySem.F.type_list_append rc (pv 5) (za (@zd _ _ _ _) (@zb _))))) (@z0 _))
      (zj (@yq _ _ _ _ _ _ _ _ (@yv _ _ _ _ _ _ _ _ ub (pv 4) (@zd _ _ _ _) (yk _)) (@zc _ _ _ (wk (pq PySem.F.plainAttrs_list PySem.F.slot_list_pop PySem.F.type_list_pop zda (pv 5) (za (pv 3) (@zb _))))) (@z0 _))
      (zj (@yq _ _ _ _ _ _ _ _ (@yv _ _ _ _ _ _ _ _ ub (pv 4) (@zd _ _ _ _) (yk _)) (@zc _ _ _ (@zl _ _ _ _ (yj xv rfl B.tuple xx (za (pv 0) (@zb _))))) (@z0 _))
      (zj (@yq _ _ _ _ _ _ _ _ (@yv _ _ _ _ _ _ _ _ ub (pv 4) (@zd _ _ _ _) (yk _)) (@zc _ _ _ (@zl _ _ _ _ (@zbr _ _ _))) (@z0 _))
      (zc (@zl _ _ _ _ (pv 5))))))), fun H1 b xs wy S1 nb hb lx w0 w10 hbad hgood => ?_⟩
      simp only [zh, zi, ↓reduceIte];refine ⟨rfl, ite2 (fun z => ?_) fun z6 => ⟨rfl, ite2 (fun z => ?_) fun z7 => ⟨rfl, ite2 (fun z => ?_) fun z8 => ⟨rfl, ite2 (fun z => ?_) fun z9 => ?_⟩⟩⟩⟩
      . have e := of_decide_eq_true z
        have hx := hgood (by omega);refine ⟨.inl ⟨rfl, _, .of hb⟩, xs, hb, by rw [lx]; exact Yk (show n <= 8 by omega) (by decide), rfl, ite2 (fun z => absurd (of_decide_eq_true z) (by omega)) fun _ => ⟨rfl, ite2 (fun z => absurd (of_decide_eq_true z) (by omega)) fun _ => ⟨rfl, ite2 (fun z => absurd (of_decide_eq_true z) (by omega)) fun _ => ?_⟩⟩⟩;refine q _ _ (Same.upd S1 nb) (.inr ⟨b, _, rfl, zf, by rw [Zo, lx]; show n + 1 <= 8; omega, fun y hy => ?_, .inl (by rw [Zo, lx]; show n + 1 ≠ n; omega)⟩);rw [hx] at hy
        rcases ZH.mp hy with y' | y'
        . exact tu ns y y'
        . exact .inl ⟨1, ZC.mp y'⟩
      . have e := of_decide_eq_true z
        have hx := hgood (by omega);have hjl : jn < xs.length := by omega
        refine ⟨.inl ⟨rfl, _, .of hb⟩, xs, hb, by omega, by omega, jn, ?_, ⟨xs[jn], Zb hjl⟩, rfl, ite2 (fun z => absurd (of_decide_eq_true z) (by omega)) fun _ => ⟨rfl, ite2 (fun z => absurd (of_decide_eq_true z) (by omega)) fun _ => ?_⟩⟩
        . simp only [seqIndex?]
          rw [if_neg (show ¬ ((jn : Int) < 0) by omega), decide_eq_true (show 0 <= (jn : Int) by omega), decide_eq_true (show (jn : Int) < (xs.length : Int) by omega)];simp
        refine q _ _ (Same.upd S1 nb) (.inr ⟨b, _, rfl, zf, by rw [List.length_eraseIdx_of_lt hjl]; omega, fun y hy => ?_, .inl (by rw [List.length_eraseIdx_of_lt hjl]; omega)⟩);have := List.mem_of_mem_eraseIdx hy;rw [hx] at this;exact tu ns y this
      . have e := of_decide_eq_true z
        exact ⟨_, .of (S1 _ _ hl), fun p hp => q _ _ (S1.trans (Same.upd (Same.refl _) hp)) (.inl ⟨_, .tup zf, zed⟩)⟩
      . have e := of_decide_eq_true z
        exact q _ _ S1 (.inl ⟨_, .non, zdm⟩)
      . refine q H1 _ S1 (hbad ?_)
        have h6 : ¬ wy = 6 := fun e => z6 (decide_eq_true e)
        have h7 : ¬ wy = 7 := fun e => z7 (decide_eq_true e)
        have h8 : ¬ wy = 8 := fun e => z8 (decide_eq_true e)
        have h9 : ¬ wy = 9 := fun e => z9 (decide_eq_true e)
        omega
    obtain ⟨tr, hrest, hR⟩ := rest
    refine ⟨_, (zj (zw (i := 3) sc_law_bent.nd rfl (Or.inl rfl) (@zm _ _ _ _ _ _ _ _ y7 (pv 1) (zn zz rfl B.len xm (za (pv 0) (@zb _)))))
      (zj (zw (i := 4) sc_law_bent.nd rfl (Or.inl rfl) (@zm _ _ _ _ _ _ _ _ y7 (@zm _ _ _ _ _ _ _ _ xn (pv 1) (@zd _ _ _ _)) (@zd _ _ _ _)))
      (zj (zw (i := 5) sc_law_bent.nd rfl (Or.inl rfl) (yj tf rfl B.list vz (za (pv 0) (@zb _))))
      (zj (@yq _ _ _ _ _ _ _ _ (@yv _ _ _ _ _ _ _ _ g8 (pv 4) (@zd _ _ _ _) (yk _)) (@zc _ _ _ (ps_asg (@xh _ _ _ _ _ _ _ qk (@u6 _ _ _ _ (@za _ _ _ _ _ (@zm _ _ _ _ _ _ _ _ uy (pv 2) (@zd _ _ _ _)) (@za _ _ _ _ _ (@zm _ _ _ _ _ _ _ _ ug (@zd _ _ _ _) (@zd _ _ _ _)) (@za _ _ _ _ _ (@vp _ _ _ _) (@za _ _ _ _ _ (@zbr _ _ _) (@za _ _ _ _ _ (@ud _ _ _ _) (@za _ _ _ _ _ (@zm _ _ _ _ _ _ _ _ uy (@zd _ _ _ _) (@zm _ _ _ _ _ _ _ _ ug (@zd _ _ _ _) (@zd _ _ _ _))) (@zb _) (zy nofun)) (zy nofun)) (zy nofun)) (zy nofun)) (zy nofun)) (zy nofun))) (pv 4) (fun _ _ => rfl)) (pg_sub (pv 5) (pv 3) zdg))) (@z0 _))
      hrest)))), ?_⟩
    rw [show start ["some", "cell", "least_one", "place", "way", "bent"] [V.ref l, V.int c, V.int L] = [some (V.ref l), some (V.int c), some (V.int L), none, none, none] from rfl];simp only [zh, zi, ↓reduceIte];refine ⟨_, .inl (.of hl), by rw [Za, ln]; omega, ⟨by decide, by decide⟩, by decide, _, .inl (.of hl), fun b hb => ?_⟩;rw [Za, ln, hjn];have S1 : Same H (upd H b (.lst (ns.map V.int))) := Same.upd (Same.refl _) hb;have t1 : upd H b (.lst (ns.map V.int)) b = some (.lst (ns.map V.int)) := zf;generalize upd H b (.lst (ns.map V.int)) = H1 at *;refine ite2 (fun z => ?_) fun z => ?_
    . have z' := of_decide_eq_true z
      refine ⟨⟨by decide, by decide, by decide⟩, ⟨by decide, by decide, by decide⟩, by decide, fun p2 hp2 => ?_⟩;have S3 : Same H1 (upd H1 p2 (HO.lst [V.int (L - 1), V.int (10 ^ Int.toNat 60), V.bl true, V.non, V.str (Str.ofString "1"), V.int (0 - 10 ^ Int.toNat 60)])) := Same.upd (Same.refl _) hp2;have t3 : upd H1 p2 (HO.lst [V.int (L - 1), V.int (10 ^ Int.toNat 60), V.bl true, V.non, V.str (Str.ofString "1"), V.int (0 - 10 ^ Int.toNat 60)]) p2 = some (HO.lst [V.int (L - 1), V.int (10 ^ Int.toNat 60), V.bl true, V.non, V.str (Str.ofString "1"), V.int (0 - 10 ^ Int.toNat 60)]) := zf;generalize upd H1 p2 (HO.lst [V.int (L - 1), V.int (10 ^ Int.toNat 60), V.bl true, V.non, V.str (Str.ofString "1"), V.int (0 - 10 ^ Int.toNat 60)]) = H3 at *
      have all6 : ∀ y ∈ [V.int (L - 1), V.int (10 ^ Int.toNat 60), V.bl true, V.non, V.str (Str.ofString "1"), V.int (0 - 10 ^ Int.toNat 60)], (okV y = false \/ y = .int (L - 1)) /\ ∀ H' : Hp, Thing K H' y := fun y hy => by
        simp only [ZK, Zx, or_false] at hy
        rcases hy with rfl | rfl | rfl | rfl | rfl | rfl
        . exact ⟨.inr rfl, fun _ => .inl ⟨_, rfl⟩⟩
        . exact ⟨.inl (by decide), fun _ => .inl ⟨_, rfl⟩⟩
        . exact ⟨.inl rfl, fun H' => .inr ⟨(fun i z => by cases z), _, .bl true, .inr ⟨ze3, zeq⟩⟩⟩
        . exact ⟨.inl rfl, fun H' => .inr ⟨(fun i z => by cases z), _, .non, .inl zdt⟩⟩
        . exact ⟨.inl rfl, fun H' => .inr ⟨(fun i z => by cases z), _, .str _, .inl zdy⟩⟩
        . exact ⟨.inl (by decide), fun _ => .inl ⟨_, rfl⟩⟩
      obtain ⟨wn, hwn⟩ : ∃ wn : Nat, c / 4 % 10 = wn := ⟨(c / 4 % 10).toNat, by omega⟩;have hw6 : wn < [V.int (L - 1), V.int (10 ^ Int.toNat 60), V.bl true, V.non, V.str (Str.ofString "1"), V.int (0 - 10 ^ Int.toNat 60)].length := by show wn < 6; omega
      have ew := Zb hw6;obtain ⟨b6, th6⟩ := all6 _ (Zl hw6);generalize [V.int (L - 1), V.int (10 ^ Int.toNat 60), V.bl true, V.non, V.str (Str.ofString "1"), V.int (0 - 10 ^ Int.toNat 60)][wn] = y6 at *;have hb3 := S3 _ _ t1;refine ⟨_, .of t3, y6, by rw [hwn]; exact yr ew, _, hb3, jn, by rw [Za, ln]; exact zd7 (by omega), ?_⟩
      have th4 : ∀ y ∈ (ns.map V.int).set jn y6, Thing K (upd H3 b (.lst ((ns.map V.int).set jn y6))) y := fun y hy => by
        rcases List.mem_or_eq_of_mem_set hy with z | z
        . exact tu ns y z
        . rw [z]
          exact th6 _
      refine hR _ b _ _ (Same.upd (S1.trans S3) hb) hb zf (by rw [Yd, Za]; exact ln) hy.1 hy.2 (fun _ => .inr ⟨b, _, rfl, zf, by rw [Yd, Za]; omega, th4, .inr ⟨y6, List.mem_set (by rw [Za]; omega) y6, b6⟩⟩) fun e => absurd e (by omega)
    . have z' : ¬ c / 4 % 10 < 6 := fun e => z (decide_eq_true e)
      exact hR H1 b _ _ S1 hb t1 (by rw [Za]; exact ln) hy.1 hy.2 (fun e => absurd e z') fun _ => rfl
theorem uj (b : Bool) (B : Bt mg) (C : Ct K mg a) (x8 : FnAtX P w K mg base "scores" 6 ["house", "weights", "handicaps", "row"] (spS3 a K b)) (qt : FnAtX P w K mg base "best_table" 8 ["house", "weights", "handicaps"] (spT3 a K b)) (l9 : FnAtX P w K mg base "pivots" 7 ["house", "weights", "handicaps", "row"] (spV3 a K b)) (D : ze K mg "_law_refused" uh ["way", "house", "weights", "handicaps", "row"]) : FnAt P w K mg base "_law_refused" 9 ["way", "house", "weights", "handicaps", "row"] (za4 a K b) := by
  refine FnAt.of D sc_law_refused (fun vs H Q E h => ?_) (fun f cdv A outer s H vs Q E hr h => ?_)
  . obtain ⟨way, p, x, y, r, rfl, _⟩ := h
    rfl
  . obtain ⟨way, p, x, y, r, rfl, hc, q⟩ := h
    refine ⟨_, (@zj _ _ _ _ _ (zw (i := 5) sc_law_refused.nd rfl (Or.inl rfl) (@xy _ _ _ _ _ (@zb _))) (@zj _ _ _ _ _ (zca (i := 6) C.q_TrueError.toErr rfl C.m_TrueError sc_law_refused.nd rfl rfl (fun J pn => (@zc _ _ _ (@yq _ _ _ _ _ _ _ _ (@yv _ _ _ _ _ _ _ _ ub (pv 0) (@zd _ _ _ _) (yk _)) (@zc _ _ _ (wk (wc x8 (hr.mono (by decide)) sw rfl (za (pv 1) (za (pv 2) (za (pv 3) (za (pv 4) (@zb _)))))))) (@zc _ _ _ (@yq _ _ _ _ _ _ _ _ (@yv _ _ _ _ _ _ _ _ ub (pv 0) (@zd _ _ _ _) (yk _)) (@zc _ _ _ (wk (wc qt (hr.mono (by decide)) sw rfl (za (pv 1) (za (pv 2) (za (pv 3) (@zb _))))))) (@zc _ _ _ (wk (wc l9 (hr.mono (by decide)) sw rfl (za (pv 1) (za (pv 2) (za (pv 3) (za (pv 4) (@zb _))))))))))))) (fun e => (@zj _ _ _ _ _ (zw (i := 7) sc_law_refused.nd rfl (Or.inl rfl) (zn gq rfl B.isinstance yb (@za _ _ _ _ _ (pv 6) (@za _ _ _ _ _ (@xy _ _ _ _ _ (@za _ _ _ _ _ (vk (v := .ref a.NoHouse) rfl C.m_NoHouse rfl) (@za _ _ _ _ _ (vk (v := .ref a.NoMenu) rfl C.m_NoMenu rfl) (@za _ _ _ _ _ (vk (v := .ref a.NoPays) rfl C.m_NoPays rfl) (@za _ _ _ _ _ (vk (v := .ref a.NoRow) rfl C.m_NoRow rfl) (@za _ _ _ _ _ (vk (v := .ref a.NoRule) rfl C.m_NoRule rfl) (@za _ _ _ _ _ (vk (v := .ref a.NoShare) rfl C.m_NoShare rfl) (@za _ _ _ _ _ (vk (v := .ref a.NoStand) rfl C.m_NoStand rfl) (@za _ _ _ _ _ (vk (v := .ref a.NoWord) rfl C.m_NoWord rfl) (@zb _) (zy nofun)) (zy nofun)) (zy nofun)) (zy nofun)) (zy nofun)) (zy nofun)) (zy nofun)) (zy nofun))) (@zb _) (zy nofun)) (zy nofun)))) (@zc _ _ _ (zw (i := 5) sc_law_refused.nd rfl (Or.inl rfl) (@xy _ _ _ _ _ (za (zn fq rfl B.isinstance yb (za (pv 6) (za (vk (v := .ref a.NoWeight) rfl C.m_NoWeight rfl) (@zb _)))) (za (zn d4 rfl B.isinstance yb (za (pv 6) (za (ul rfl B.ValueError gy) (@zb _)))) (za (pv 7) (@zb _)))))))))) (@zc _ _ _ (@zl _ _ _ _ (pv 5))))), ?_⟩;rw [show start ["way", "house", "weights", "handicaps", "row", "told", "e", "others"] [V.int way, V.ref p, x, y, V.ref r] = [some (V.int way), some (V.ref p), some x, some y, some (V.ref r), none, none, none] from rfl];simp only [zh, zi, ↓reduceIte];refine ⟨by decide, fun t ht => ?_⟩;have S1 : Same H (upd H t (.tup [])) := Same.upd (Same.refl _) ht;have ht1 : upd H t (.tup []) t = some (.tup []) := zf;generalize upd H t (.tup []) = H1 at *;refine ⟨J52 a H1 [some (V.int way), some (V.ref p), some x, some y, some (V.ref r), some (V.ref t), none, none] b, fun pn => ?_, fun σ1 c H2 hJ => ?_⟩
    . cases b with
      | true =>
        obtain ⟨n, hb⟩ : ∃ n, BadW K H p x y n := hc;have hb1 := hb.mono S1;refine ⟨rfl, ite2 (fun _ => ⟨p, x, y, .ref r, n, rfl, hb1, fun H2 S2 => ⟨S2, rfl, rfl, rfl⟩⟩) fun _ => ⟨rfl, ite2 (fun _ => ⟨p, x, y, n, rfl, hb1, fun H2 S2 => ⟨S2, rfl, rfl, rfl⟩⟩) fun _ => ⟨p, x, y, .ref r, n, rfl, hb1, fun H2 S2 => ⟨S2, rfl, rfl, rfl⟩⟩⟩⟩
      | false =>
        have hg : Good52 K H p x y r := hc;obtain ⟨o, h, l, m, hs, outs, ds, ws, hw, row, rfl, rfl, hH, G, hl, lw, gw, hm, lh, gh, hr', R⟩ := hg.mono S1;refine ⟨rfl, ite2 (fun _ => ⟨p, o, h, l, m, r, hs, outs, ds, ws, hw, row, rfl, hH, G, hl, lw, gw, hm, lh, gh, hr', R, fun H2 l' S2 _ _ => q H2 t (S1.trans S2) (S2 _ _ ht1)⟩) fun _ => ⟨rfl, ite2 (fun _ => ⟨p, o, h, l, m, hs, outs, ds, ws, hw, rfl, hH, G, hl, lw, gw, hm, lh, gh, fun H2 l' S2 _ => q H2 t (S1.trans S2) (S2 _ _ ht1)⟩) fun _ => ⟨p, o, h, l, m, r, hs, outs, ds, ws, hw, row, rfl, hH, G, hl, lw, gw, hm, lh, gh, hr', R, fun H2 l' S2 _ => q H2 t (S1.trans S2) (S2 _ _ ht1)⟩⟩⟩
    . obtain ⟨S2, rfl, rfl, rfl⟩ := hJ
      refine ⟨_, rfl, C.q_NoWeight.toErr, C.s_NoWeight_TrueError, fun e ea hea => ?_⟩;simp only [zh, zi, ↓reduceIte];refine ⟨by decide, fun p2 hp2 => ?_⟩;have Sa : Same H2 (upd H2 ea (ExcO ea a.NoWeight)) := Same.upd (Same.refl _) hea;have Sb : Same (upd H2 ea (ExcO ea a.NoWeight)) (upd (upd H2 ea (ExcO ea a.NoWeight)) p2 (.tup [V.ref a.NoHouse, V.ref a.NoMenu, V.ref a.NoPays, V.ref a.NoRow, V.ref a.NoRule, V.ref a.NoShare, V.ref a.NoStand, V.ref a.NoWord])) := Same.upd (Same.refl _) hp2;have h2 := Sb _ _ zf;refine ⟨_, h2, C.q_NoWeight, [a.NoHouse, a.NoMenu, a.NoPays, a.NoRow, a.NoRule, a.NoShare, a.NoStand, a.NoWord], .of zf, false, lm ⟨C.k_NoWeight_NoHouse, C.k_NoWeight_NoMenu, C.k_NoWeight_NoPays, C.k_NoWeight_NoRow, C.k_NoWeight_NoRule, C.k_NoWeight_NoShare, C.k_NoWeight_NoStand, C.k_NoWeight_NoWord, trivial⟩, ?_⟩;refine ⟨_, h2, C.q_NoWeight, _, C.k_NoWeight_NoWeight, _, h2, C.q_NoWeight, _, C.v_NoWeight, ?_⟩;simp only [j4, zh, zi, ↓reduceIte];generalize upd (upd H2 ea (ExcO ea a.NoWeight)) p2 (.tup [V.ref a.NoHouse, V.ref a.NoMenu, V.ref a.NoPays, V.ref a.NoRow, V.ref a.NoRule, V.ref a.NoShare, V.ref a.NoStand, V.ref a.NoWord]) = H3 at *;refine ⟨by decide, fun p3 hp3 => ?_⟩;have Sc : Same H3 (upd H3 p3 (.tup [V.bl true, V.bl true, V.bl false])) := Same.upd (Same.refl _) hp3;exact q _ p3 (S1.trans (S2.trans (Sa.trans (Sb.trans Sc)))) zf
theorem law_fn (B : Bt mg) (yo : FnAt P w K mg base "_law_cell" 1 ["script", "k"] (qm K)) (vj : FnAt P w K mg base "_law_names" 1 ["cell", "many"] kx) (p6 : FnAt P w K mg base "_law_hands" 2 ["script", "places", "top"] (df K)) (jh : FnAtX P w K mg base "house_of" 7 ["outcomes", "hands"] fu) (rh : FnAt P w K mg base "_law_weights" 2 ["script", "many"] (qf K x6)) (u8 : FnAt P w K mg base "_law_handicaps" 2 ["script", "places"] (qf K xi)) (rm : FnAt P w K mg base "_law_bent" 1 ["some", "cell", "least_one"] (ag K)) (oy : FnAt P w K mg base "_law_rows" 1 ["hands"] bi)
    (FR : ∀ b : Bool, FnAt P w K mg base "_law_refused" 9 ["way", "house", "weights", "handicaps", "row"] (za4 a K b)) {f : Addr} {fd : FuncData} (F : Fun K "law" "law" pi f fd) : FnOk P w K mg base CX0 10 f fd ["script"] (az K) := by
  refine F.ok sc_law (fun vs H Q E h => ?_) (fun cdv A outer s H vs Q E hr h => ?_)
  . obtain ⟨b, ns, rfl, _⟩ := h
    rfl
  . obtain ⟨a', ns, rfl, hS, hlen, q⟩ := h
    have hp := qh ns;have hN := v7 ns;have lou : (yu (zx ns 2) (yg ns)).length = yg ns := wm _ _;obtain ⟨bb, hbb⟩ : ∃ bb : Bool, bb = decide (zx ns 51 % 3 ≠ 0) := ⟨_, rfl⟩;have uj := FR bb
    have rest : ∃ tr, PSs (cxOf CX0 P w K mg base ["script", "places", "hands", "house", "weights", "handicaps", "cell", "due", "row", "way"] "law" (zk pi) f cdv A outer s H E).nox ((y0 pi).drop 10) tr /\
        ∀ (H1 : Hp) (hb p du : Addr) (xs : List HX) (ds : List HD) (x y : V) (c : Int), HandsL H1 hb xs ds -> ds.length <= 4 -> (∀ d ∈ ds, 1 <= d.words.length /\ d.words.length <= 8) -> H1 du = some (.tup (oi bb)) ->
          (∀ (H' : Hp) (r : Addr) (row : List Str), Same H1 H' -> SqT K H' r (row.map V.str) -> rp ds row -> if bb then ∃ n, BadW K H' p x y n else Good52 K H' p x y r) ->
          tr { nx := fun _ H' => Q .non H', rt := Q } [some (.ref a'), some (.int (yg ns)), some (.ref hb), some (.ref p), some x, some y, some (.int c), some (.ref du), none, none] H1 := by
      refine ⟨_, (zj (zw (i := 8) sc_law.nd rfl (Or.inl rfl) (@xh _ _ _ _ _ _ _ qk (zg oy (hr.mono (by decide)) rfl (za (pv 2) (@zb _))) (@zd _ _ _ _) (fun _ _ => rfl)))
      (zj (vc PassesOwn.never rfl (wz rfl B.range (za (@zd _ _ _ _) (@zb _))) (zr (i := 9) sc_law.nd rfl (Or.inl rfl)) (@zc _ _ _ (@yq _ _ _ _ _ _ _ _ (@yv _ _ _ _ _ _ _ _ (op_neT (Nat.lt_of_succ_lt (hu_of hr))) (zg uj (hr.mono (by decide)) rfl (@za _ _ _ _ _ (pv 9) (@za _ _ _ _ _ (pv 3) (@za _ _ _ _ _ (pv 4) (@za _ _ _ _ _ (pv 5) (@za _ _ _ _ _ (pv 8) (@zb _) (zy nofun)) (zy nofun)) (zy nofun)) (zy nofun)) (zy nofun))) (pv 7) (yk _)) (@zc _ _ _ (@zl _ _ _ _ (@vp _ _ _ _))) (@z0 _))))
      (zc (@zl _ _ _ _ (@vp _ _ _ _))))), fun H1 hb p du xs ds x y c hL h4 h8 hdu hco => ?_⟩
      simp only [zh, zi, ↓reduceIte];refine ⟨hb, xs, ds, rfl, hL, h4, fun d hd => (h8 d hd).2, fun H2 rl as S2 _ R2 => ?_⟩
      have hpos : 0 < (yi (ds.map HD.words)).length := by
        rw [gf]
        exact me fun z hz => by
          obtain ⟨ws, hws, rfl⟩ := Zp.mp hz;obtain ⟨d, hd, rfl⟩ := Zp.mp hws;exact (h8 d hd).1
      have hpa : 0 < as.length := by rw [R2.tups.len]; exact hpos
      have hrow := R2.tups.at' 0 _ _ (Zb hpa) (Zb hpos);have hR := l6 (Zl hpos);generalize (yi (ds.map HD.words))[0] = row at *;refine ⟨rl, rfl, _, .of R2.lst, _, yr (j := 0) (v := V.ref as[0]) (by rw [Ze, Zb hpa]; rfl), ?_⟩;generalize as[0] = r at *;refine ⟨by decide, by decide, ?_⟩;refine pc (PvW52 a' hb p du r x y c (yg ns) H2) ⟨Same.refl _, _, rfl⟩ ?_ ?_
      . rintro i σ H3 hi ⟨S3, v, rfl⟩
        simp only [zh, zi, ↓reduceIte];refine ⟨i, p, x, y, r, rfl, hco H3 r row (S2.trans S3) (.of (S3 _ _ hrow)) hR, fun H4 t S4 ht4 => ⟨t, rfl, _, .of ht4, _, .of ((S2.trans (S3.trans S4)) _ _ hdu), i7 bb, i7 bb, ite2 (fun h => absurd h (by rw [zel]; simp)) fun _ => ⟨S3.trans S4, _, rfl⟩⟩⟩
      . rintro σ H3 ⟨S3, v, rfl⟩
        simp only [zh, zi, ↓reduceIte];exact q H3
    obtain ⟨tr, hrest, hR⟩ := rest
    refine ⟨_, (zj (zw (i := 1) sc_law.nd rfl (Or.inl rfl) (@zm _ _ _ _ _ _ _ _ we (@zd _ _ _ _) (@zm _ _ _ _ _ _ _ _ y7 (zg yo (hr.mono (by decide)) rfl (za (pv 0) (za (@zd _ _ _ _) (@zb _)))) (@zd _ _ _ _))))
      (zj (zw (i := 2) sc_law.nd rfl (Or.inl rfl) (zg p6 (hr.mono (by decide)) rfl (za (pv 0) (za (pv 1) (za (@zm _ _ _ _ _ _ _ _ ug (@zd _ _ _ _) (@zd _ _ _ _)) (@zb _))))))
      (zj (zw (i := 3) sc_law.nd rfl (Or.inl rfl) (zdj jh (hr.mono (by decide)) rfl (za (zg vj (hr.mono (by decide)) rfl (za (zg yo (hr.mono (by decide)) rfl (za (pv 0) (za (@zd _ _ _ _) (@zb _)))) (za (pv 1) (@zb _)))) (za (yj tf rfl B.list vz (za (pv 2) (@zb _))) (@zb _)))))
      (zj (zw (i := 4) sc_law.nd rfl (Or.inl rfl) (zg rh (hr.mono (by decide)) rfl (za (pv 0) (za (zn zz rfl B.len xm (za (pv 2) (@zb _))) (@zb _)))))
      (zj (zw (i := 5) sc_law.nd rfl (Or.inl rfl) (zg u8 (hr.mono (by decide)) rfl (za (pv 0) (za (pv 1) (@zb _)))))
      (zj (zw (i := 6) sc_law.nd rfl (Or.inl rfl) (zg yo (hr.mono (by decide)) rfl (za (pv 0) (za (@zd _ _ _ _) (@zb _)))))
      (zj (zw (i := 7) sc_law.nd rfl (Or.inl rfl) (@xy _ _ _ _ _ (@zb _)))
      (zj (@yq _ _ _ _ _ _ _ _ (@yv _ _ _ _ _ _ _ _ op_gt (@zm _ _ _ _ _ _ _ _ y7 (pv 6) (@zd _ _ _ _)) (@zd _ _ _ _) (yk _)) (@zc _ _ _ (zw (i := 7) sc_law.nd rfl (Or.inl rfl) (@xy _ _ _ _ _ (za (@vp _ _ _ _) (za (@vp _ _ _ _) (za (@vp _ _ _ _) (@zb _))))))) (@z0 _))
      (zj (@yq _ _ _ _ _ _ _ _ (@yv _ _ _ _ _ _ _ _ ub (@zm _ _ _ _ _ _ _ _ y7 (pv 6) (@zd _ _ _ _)) (@zd _ _ _ _) (yk _)) (@zc _ _ _ (zw (i := 4) sc_law.nd rfl (Or.inl rfl) (zg rm (hr.mono (by decide)) rfl (za (pv 4) (za (@zm _ _ _ _ _ _ _ _ xn (pv 6) (@zd _ _ _ _)) (za (@zd _ _ _ _) (@zb _))))))) (@z0 _))
      (zj (@yq _ _ _ _ _ _ _ _ (@yv _ _ _ _ _ _ _ _ ub (@zm _ _ _ _ _ _ _ _ y7 (pv 6) (@zd _ _ _ _)) (@zd _ _ _ _) (yk _)) (@zc _ _ _ (zw (i := 5) sc_law.nd rfl (Or.inl rfl) (zg rm (hr.mono (by decide)) rfl (za (pv 5) (za (@zm _ _ _ _ _ _ _ _ xn (pv 6) (@zd _ _ _ _)) (za (@zm _ _ _ _ _ _ _ _ uy (@zd _ _ _ _) (@zm _ _ _ _ _ _ _ _ ug (@zd _ _ _ _) (@zd _ _ _ _))) (@zb _))))))) (@z0 _))
      hrest)))))))))), ?_⟩
    rw [show start ["script", "places", "hands", "house", "weights", "handicaps", "cell", "due", "row", "way"] [V.ref a'] = [some (V.ref a'), none, none, none, none, none, none, none, none, none] from rfl];simp only [zh, zi, ↓reduceIte];have e4 := yn (zx ns 0) (show (0 : Int) < 4 by decide);refine ⟨a', ns, 0, rfl, hS, ?_⟩;simp only [zh, zi, ↓reduceIte];rw [show 1 + zx ns 0 % 4 = ((yg ns : Nat) : Int) by unfold yg; omega];refine ⟨by decide, ⟨by decide, by decide, by decide⟩, a', ns, yg ns, 10 ^ 57, rfl, hS, hp.1, hp.2, by decide, by decide, fun H1 b xs N => ?_⟩;simp only [zh, zi, ↓reduceIte];have G := cy ns (top := 10 ^ 57) (by decide) (by decide) (outs := yu (zx ns 2) (yg ns)) rfl;have lds : (wf ns (10 ^ 57) (yg ns) (y4 ns)).length = y4 ns := by rw [wf, Za, ZN]
    have hL1 := N.lists;have S1 := N.same;generalize wf ns (10 ^ 57) (yg ns) (y4 ns) = ds at *;refine ⟨a', ns, 2, rfl, S1.seq hS, zx ns 2, yg ns, rfl, by omega, fun H2 o S2 _ ho2 => ?_⟩;have hL2 := hL1.mono S2;generalize yu (zx ns 2) (yg ns) = outs at *;refine ⟨_, .inl (.of hL2.at'), fun b2 hn2 => ?_⟩;have T2 : Same H2 (upd H2 b2 (.lst (xs.map fun x => V.ref x.t))) := Same.upd (Same.refl _) hn2;have t2 : upd H2 b2 (.lst (xs.map fun x => V.ref x.t)) b2 = some (.lst (xs.map fun x => V.ref x.t)) := zf;generalize upd H2 b2 (.lst (xs.map fun x => V.ref x.t)) = K2 at *;have L2' := hL2.mono T2;refine ⟨o, b2, outs, xs, ds, rfl, T2 _ _ ho2, ⟨t2, L2'.len, L2'.hand⟩, G, fun H4 p ko kh hs T3 hK => ?_⟩;have S24 := T2.trans T3;have S14 : Same H H4 := S1.trans (S2.trans S24);have hL4 := hL2.mono S24;refine ⟨_, .inl (.of hL4.at'), ?_⟩;rw [Za, hL4.len, lds];refine ⟨a', ns, y4 ns, rfl, S14.seq hS, by omega, fun H5 l S5 hl5 => ?_⟩;refine ⟨a', ns, yg ns, rfl, (S14.trans S5).seq hS, by omega, fun H6 m S6 hm6 => ?_⟩;have gw := gk ns (y4 ns);have gh := jd ns (yg ns);have lw : (x6 ns (y4 ns)).length = ds.length := by rw [mj, lds]
    have lh : (xi ns (yg ns)).length = outs.length := by rw [oq, lou]
    generalize x6 ns (y4 ns) = ws at *;generalize xi ns (yg ns) = hc at *;have S46 := S5.trans S6;refine ⟨a', ns, 51, rfl, (S14.trans S46).seq hS, ?_⟩;have m3 := yn (zx ns 51) (show (0 : Int) < 3 by decide);generalize zx ns 51 = cc at *;simp only [zh, zi, ↓reduceIte];have h4 := G.hands;have h8 : ∀ d ∈ ds, 1 <= d.words.length /\ d.words.length <= 8 := G.words1;refine ⟨by decide, fun d0 hd0 => ⟨by decide, ?_⟩⟩;have S7 : Same H6 (upd H6 d0 (.tup [])) := Same.upd (Same.refl _) hd0;have t7 : upd H6 d0 (.tup []) d0 = some (.tup []) := zf;generalize upd H6 d0 (.tup []) = H7 at *;have S47 := S46.trans S7;have hK7 := hK.mono S47;have hL7 := hL4.mono S47;have hl7 := (S6.trans S7) _ _ hl5;have hm7 := S7 _ _ hm6;have o8 := G.outs1;refine ite2 (fun z => ?_) fun z => ?_
    . have z := of_decide_eq_true z
      have ebb : bb = true := by rw [hbb]; exact decide_eq_true (by omega)
      subst ebb;refine ⟨by decide, fun d1 hd1 => ?_⟩;have S8 : Same H7 (upd H7 d1 (.tup [V.bl true, V.bl true, V.bl false])) := Same.upd (Same.refl _) hd1;have t8 : upd H7 d1 (.tup [V.bl true, V.bl true, V.bl false]) d1 = some (.tup (oi true)) := zf;generalize upd H7 d1 (.tup [V.bl true, V.bl true, V.bl false]) = H8 at *;have hK8 := hK7.mono S8;have hl8 := S8 _ _ hl7;have hm8 := S8 _ _ hm7;refine ⟨by decide, rfl, ite2 (fun z1 => ?_) fun z1 => ?_⟩
      . have z1 := of_decide_eq_true z1
        refine ⟨⟨by decide, by decide⟩, l, ws, ds.length, _, _, rfl, hl8, lw, by omega, by omega, fun H9 x S9 hx => ?_⟩;refine ⟨by decide, rfl, ite2 (fun z2 => absurd (of_decide_eq_true z2) (by omega)) fun _ => ?_⟩;refine hR H9 b p d1 xs ds x (.ref m) _ (hL7.mono (S8.trans S9)) h4.2 h8 (S9 _ _ t8) fun H' r row S' _ _ => ?_
        exact ⟨ds.length, ko, kh, hs, outs, ds, false, true, (hK8.mono S9).mono S', G, rfl, (BentIs.wts hx).mono S', RowIs.good (S' _ _ (S9 _ _ hm8)) lh o8.2 gh, rfl⟩
      . have z1' : ¬ cc % 3 = 1 := fun e => z1 (decide_eq_true e)
        refine ⟨by decide, rfl, ite2 (fun z2 => ?_) fun z2 => absurd (decide_eq_true (show cc % 3 = 2 by omega)) z2⟩;refine ⟨⟨by decide, by decide⟩, ⟨by decide, by decide, by decide⟩, m, hc, outs.length, _, _, rfl, hm8, lh, by omega, by omega, fun H9 x S9 hx => ?_⟩;refine hR H9 b p d1 xs ds (.ref l) x _ (hL7.mono (S8.trans S9)) h4.2 h8 (S9 _ _ t8) fun H' r row S' _ _ => ?_
        exact ⟨ds.length, ko, kh, hs, outs, ds, true, false, (hK8.mono S9).mono S', G, rfl, WtsIs.good (S' _ _ (S9 _ _ hl8)) lw (by omega) gw, (BentIs.row hx).mono S', rfl⟩
    . have z' : ¬ 0 < cc % 3 := fun e => z (decide_eq_true e)
      have ebb : bb = false := by rw [hbb]; exact decide_eq_false (by omega)
      subst ebb;refine ⟨by decide, rfl, ite2 (fun z1 => absurd (of_decide_eq_true z1) (by omega)) fun _ => ⟨by decide, rfl, ite2 (fun z2 => absurd (of_decide_eq_true z2) (by omega)) fun _ => ?_⟩⟩;refine hR H7 b p d0 xs ds (.ref l) (.ref m) _ hL7 h4.2 h8 t7 fun H' r row S' hr' hR' => ?_
      exact ⟨ko, kh, l, m, hs, outs, ds, ws, hc, row, rfl, rfl, hK7.mono S', G, S' _ _ hl7, lw, gw, S' _ _ hm7, lh, gh, hr', hR'⟩
theorem law_ok (B : Bt mg) (C : Ct K mg a) (d_is_whole : ze K mg "is_whole" ux ["thing"]) (d_is_bounded : ze K mg "is_bounded" vt ["thing"]) (d_is_grid_row : ze K mg "is_grid_row" vd ["thing", "width"]) (d_is_name : ze K mg "is_name" pj ["thing"]) (d_are_names : ze K mg "are_names" sj ["thing", "most"]) (d_are_worths : ze K mg "are_worths" tj ["thing", "height", "width"]) (d_is_hand : ze K mg "is_hand" ph ["thing", "width"]) (d_name_of : ze K mg "name_of" p5 ["hand"]) (d_names_of : ze K mg "names_of" qc ["hands"]) (d_words_of_hand : ze K mg "words_of_hand" wq ["hand"]) (d_worths_of_hand : ze K mg "worths_of_hand" x0 ["hand"]) (d_worths_by : ze K mg "worths_by" sf ["hand", "word"]) (d_count_of_rows : ze K mg "count_of_rows" vn ["hands"]) (d_makes_house : ze K mg "makes_house" ui ["outcomes", "hands"]) (d_kept_hand : ze K mg "kept_hand" uc ["hand"]) (d_house_of : ze K mg "house_of" u0 ["outcomes", "hands"]) (d_outcomes_of : ze K mg "outcomes_of" um ["house"]) (d_hands_of : ze K mg "hands_of" rq ["house"]) (d_with_each : ze K mg "with_each" sg ["rows", "words"]) (d_rows_over : ze K mg "rows_over" si ["hands"]) (d_rows_of : ze K mg "rows_of" p4 ["house"]) (d_are_weights : ze K mg "are_weights" vf ["house", "thing"]) (d_are_handicaps : ze K mg "are_handicaps" wu ["house", "thing"]) (d_refuse_weights : ze K mg "refuse_weights" x9 ["house", "weights", "handicaps"]) (d_part_of : ze K mg "part_of" pp ["hand", "weight", "word"]) (d_parts_of : ze K mg "parts_of" qe ["house", "weights", "row"]) (d_scores : ze K mg "scores" qz ["house", "weights", "handicaps", "row"]) (d_best_place : ze K mg "best_place" tm ["totals"]) (d_best_outcome : ze K mg "best_outcome" wv ["house", "weights", "handicaps", "row"]) (d_best_table : ze K mg "best_table" vv ["house", "weights", "handicaps"]) (d_pivot : ze K mg "pivot" mq ["totals", "part"]) (d_pivots : ze K mg "pivots" qv ["house", "weights", "handicaps", "row"]) (d_law_cell : ze K mg "_law_cell" r6 ["script", "k"]) (d_law_number : ze K mg "_law_number" u7 ["cell", "top"]) (d_law_names : ze K mg "_law_names" yd ["cell", "many"]) (d_law_hands : ze K mg "_law_hands" sk ["script", "places", "top"]) (d_law_rows : ze K mg "_law_rows" qd ["hands"]) (d_law_weights : ze K mg "_law_weights" uk ["script", "many"]) (d_law_handicaps : ze K mg "_law_handicaps" vo ["script", "places"]) (d_law_refused : ze K mg "_law_refused" uh ["way", "house", "weights", "handicaps", "row"]) (d_law_bent : ze K mg "_law_bent" v8 ["some", "cell", "least_one"]) (base : Heap) {f : Addr} {fd : FuncData} (F : Fun K "law" "law" pi f fd) : FnOk P w K mg base CX0 10 f fd ["script"] (az K) := by
  have c1 := yo (P := P) (w := w) (base := base) B d_law_cell;have c2 := wj (P := P) (w := w) (base := base) d_law_number;have c3 := vj (P := P) (w := w) (base := base) B d_law_names;have n1 := sv (P := P) (w := w) (base := base) B d_is_name;have n2 := vm B n1 d_are_names;have n3 := yp B (vy B (uw (P := P) (w := w) (base := base) B d_is_whole) d_is_bounded) d_is_grid_row;have n4 := qu B n3 d_are_worths;have n5 := nv B n1 n2 n4 d_is_hand;have n6 := vx (P := P) (w := w) (base := base) d_name_of;have n7 := ye (P := P) (w := w) (base := base) d_words_of_hand;have n8 := xg (P := P) (w := w) (base := base) d_worths_of_hand;have n9 := vh B n2 n5 (o4 n6 d_names_of) (tq B n7 d_count_of_rows) d_makes_house;have n10 := zam B C n9 (cg B n6 n7 n8 d_kept_hand) d_house_of;have m1 := zaj (P := P) (w := w) (base := base) d_hands_of;have m0 := gj (P := P) (w := w) (base := base) d_outcomes_of;have mw := j2 (P := P) (w := w) (base := base) d_words_of_hand;have mv := k9 (P := P) (w := w) (base := base) d_worths_of_hand;have m2 := mm (p7 mw mv d_worths_by) d_part_of;have m3 := xz B m1 m2 d_parts_of;have m4 := wg B C (ve B m1 n3 d_are_weights) (wo B m0 n3 d_are_handicaps) d_refuse_weights;have m5 := re B (p8 B (p9 (P := P) (w := w) (base := base) B d_with_each) mw d_rows_over) m1 d_rows_of;have mb := x5 (P := P) (w := w) (base := base) B d_best_place;have ms := x8 B C m4 m3 d_scores;have m6 := ww B m0 mb ms d_best_outcome;have mt := qt B m5 m6 d_best_table;have mpv := oj B mb d_pivot;have mp := l9 B C ms mpv m3 d_pivots;have x3 := gl B (dq B (av (P := P) (w := w) (base := base) B d_is_whole) d_is_bounded) d_is_grid_row;have x4 := km B C (g0 B m1 x3 d_are_weights) (je B m0 x3 d_are_handicaps) d_refuse_weights;have bs := zcu B x4 m3 d_scores;have bp := zdd B bs mpv m3 d_pivots;have bt := dk B m5 (ig B m0 mb bs d_best_outcome) d_best_table
  exact law_fn B c1 c3 (p6 B c1 c2 c3 d_law_hands) n10 (rh B c1 c2 d_law_weights) (u8 B c1 c2 d_law_handicaps) (rm B d_law_bent) (oy (P := P) (w := w) (base := base) d_law_rows)
    (fun b => by
      cases b with
      | true => exact uj true B C bs bt bp d_law_refused
      | false => exact uj false B C ms mt mp d_law_refused) F
end
end Mine
namespace Tp
open PySem PySem.W PySem.Calls PyProof.Rows
noncomputable section
abbrev pr : Program := PySem.Challenge.pw_trueword_k52_no_weights
def en (P : Params) (x : Str) (t : Nat) (v : Value) : DictEntry := ⟨PyData.keyHash P x, .str x t, v⟩
abbrev fn (i : Nat) (name qual : Str) (dV kV doc pm : Value) (an : Option Addr) (cdv ct : Value) : FuncData := fnOf name qual (L2.uq (Mine.top i)) (L2.y0 (Mine.top i)) (L2.zk (Mine.top i)) dV kV doc pm an cdv ct
abbrev fx (i : Nat) (name qual : Str) (g : Addr) (dV kV doc pm : Value) (an : Option Addr) (cdv ct : Value) (b : Addr) : FuncData := ⟨name, qual, L2.uq (Mine.top i), .stmts (L2.y0 (Mine.top i)), L2.zk (Mine.top i), g, [], dV, kV, doc, pm, an, cdv, ct, b⟩
def oE : Obj := ⟨.type "tuple", none, .seq #[] 0, #[]⟩
def oF : Obj := ⟨.none, none, .fields #[], #[]⟩
def tl : Nat -> List Str -> List Value
  | _, [] => []
  | t, x :: r => .str x t :: tl (t + 1) r
def ts (t : Nat) (xs : List Str) : Obj := ⟨.type "tuple", none, .seq (tl t xs).toArray 0, #[]⟩
def fo (i : Nat) (n m : Str) (t c : Nat) : Obj := ⟨.type "function", none, .func (fn i n n .none .none .none (.str m t) none (.ref c) .none), #[]⟩
def xo (i : Nat) (n : Str) : Obj := ⟨.none, none, .func (fx i n n 0 .none .none .none .none none .none .none 0), #[]⟩
def co (n : Str) (t l c f a : Nat) (b : Bool) (e : Nat) (v1 v2 v3 v4 : Value) (k : Nat) : Obj := ⟨.type "code", none, .fields #[.str n t, .str n (t + 1), .str "/claim/cut.py" (t + 2), .int l 0, .int c 0, .int 0 0, .int 0 0, .int f 0, .ref a, .bool b, .int 181 0, .ref e, v1, v2, v3, v4, .int k 0, .int l 0, .str "/claim/cut.py" (k + 1)], #[]⟩
def ia (t : BT) : Nat -> List Obj -> BT
  | _, [] => t
  | n, o :: r => ia (t.ins n o) (n + 1) r
def lf (P : Params) : Life := (boot_heap P).life
def env : Env := { scope := pr.main.scope, locals := mainNs, globals := mainNs, cells := [], code := (.ref 13), frame := some 14 }
def cd : Code := .body (behindTheImports pr) env
def qp : Pos := ⟨0, 0, 0, 0⟩
def o13 : Obj := (co "<module>" 182 1 0 0 11 false 12 .none .none .none .none 185)
def ha (P : Params) : Heap := ⟨⟨[boot_o_0 P, boot_o_1 P, boot_o_2 P, boot_o_3 P, boot_o_4 P, boot_o_5 P, boot_o_6 P, boot_o_7 P, boot_o_8 P, boot_o_9 P, boot_o_10 P, oE, oF, o13, ⟨(.type "frame"), none, .plain, #[(some (.ref 13)), (some (.ref 3)), (some (.ref 3)), none, (some (.str "__main__" 164)), none, (some (.ref 0))]⟩]⟩, lf P⟩
def t0 (P : Params) : BT := (.node (boot_o_0 P) (.node (boot_o_1 P) (.node (boot_o_3 P) (.node (boot_o_7 P) .nil .nil) (.node (oE) .nil .nil)) (.node (boot_o_5 P) (.node (boot_o_9 P) .nil .nil) (.node (o13) .nil .nil))) (.node (boot_o_2 P) (.node (boot_o_4 P) (.node (boot_o_8 P) .nil .nil) (.node (oF) .nil .nil)) (.node (boot_o_6 P) (.node (boot_o_10 P) .nil .nil) (.node (⟨(.type "frame"), none, .plain, #[(some (.ref 13)), (some (.ref 3)), (some (.ref 3)), none, (some (.str "__main__" 164)), none, (some (.ref 0))]⟩) .nil .nil))))
def o3 (P : Params) : Obj := ⟨(.type "dict"), none, (.dict #[en P "__name__" 165 (.str "trueword.errors" 187), en P "__doc__" 166 .none, en P "__package__" 167 .none, en P "__loader__" 168 (.builtin "__main__.__loader__#opaque"), en P "__spec__" 169 .none, en P "__annotations__" 170 (.ref 6), en P "__builtins__" 171 (.ref 4), en P "__file__" 173 (.str "/claim/cut.py" 172), en P "__cached__" 174 .none, en P "TrueError" 206 (.ref 24), en P "NoPays" 222 (.ref 37), en P "NoHouse" 238 (.ref 49), en P "NoMenu" 254 (.ref 61), en P "NoWeight" 270 (.ref 73), en P "NoShare" 286 (.ref 85), en P "NoRule" 302 (.ref 97)] 16), #[]⟩
def o17 (P : Params) : Obj := ⟨(.type "dict"), none, (.dict #[en P "__module__" 196 (.str "trueword.errors" 187), en P "__qualname__" 198 (.str "TrueError" 197), en P "__firstlineno__" 200 (.int (2) 199), en P "__static_attributes__" 201 (.ref 22)] 4), #[]⟩
def o20 : Obj := (co "TrueError" 191 2 0 0 18 false 19 .none .none .none .none 194)
def o23 (P : Params) : Obj := ⟨(.type "dict"), none, (.dict #[en P "__module__" 196 (.str "trueword.errors" 187), en P "__firstlineno__" 200 (.int (2) 199), en P "__static_attributes__" 201 (.ref 22), en P "__weakref__" 203 (.ref 25), en P "__doc__" 204 .none] 3), #[]⟩
def o24 : Obj := ⟨(.type "type"), none, (.cls ⟨"TrueError", [(.type "ValueError")], [(.ref 24), (.type "ValueError"), (.type "Exception"), (.type "BaseException"), (.type "object")], 23, "TrueError", true, [], [(.ref 37), (.ref 49), (.ref 61), (.ref 73), (.ref 85), (.ref 97)], false, none, false⟩), #[(some (.ref 15)), none, (some (.str "TrueError" 189)), (some (.str "TrueError" 197)), (some (.builtin "ValueError.__new__")), (some (.bool true))]⟩
def o30 (P : Params) : Obj := ⟨(.type "dict"), none, (.dict #[en P "__module__" 214 (.str "trueword.errors" 187), en P "__qualname__" 216 (.str "NoPays" 215), en P "__firstlineno__" 218 (.int (4) 217), en P "__static_attributes__" 219 (.ref 35)] 4), #[]⟩
def o33 : Obj := (co "NoPays" 209 4 0 0 31 false 32 .none .none .none .none 212)
def o36 (P : Params) : Obj := ⟨(.type "dict"), none, (.dict #[en P "__module__" 214 (.str "trueword.errors" 187), en P "__firstlineno__" 218 (.int (4) 217), en P "__static_attributes__" 219 (.ref 35), en P "__doc__" 220 .none] 2), #[]⟩
def o37 : Obj := ⟨(.type "type"), none, (.cls ⟨"NoPays", [(.ref 24)], [(.ref 37), (.ref 24), (.type "ValueError"), (.type "Exception"), (.type "BaseException"), (.type "object")], 36, "NoPays", true, [], [], false, none, false⟩), #[(some (.ref 28)), none, (some (.str "NoPays" 207)), (some (.str "NoPays" 215)), (some (.builtin "ValueError.__new__")), (some (.bool true))]⟩
def o42 (P : Params) : Obj := ⟨(.type "dict"), none, (.dict #[en P "__module__" 230 (.str "trueword.errors" 187), en P "__qualname__" 232 (.str "NoHouse" 231), en P "__firstlineno__" 234 (.int (6) 233), en P "__static_attributes__" 235 (.ref 47)] 4), #[]⟩
def o45 : Obj := (co "NoHouse" 225 6 0 0 43 false 44 .none .none .none .none 228)
def o48 (P : Params) : Obj := ⟨(.type "dict"), none, (.dict #[en P "__module__" 230 (.str "trueword.errors" 187), en P "__firstlineno__" 234 (.int (6) 233), en P "__static_attributes__" 235 (.ref 47), en P "__doc__" 236 .none] 2), #[]⟩
def o49 : Obj := ⟨(.type "type"), none, (.cls ⟨"NoHouse", [(.ref 24)], [(.ref 49), (.ref 24), (.type "ValueError"), (.type "Exception"), (.type "BaseException"), (.type "object")], 48, "NoHouse", true, [], [], false, none, false⟩), #[(some (.ref 40)), none, (some (.str "NoHouse" 223)), (some (.str "NoHouse" 231)), (some (.builtin "ValueError.__new__")), (some (.bool true))]⟩
def o54 (P : Params) : Obj := ⟨(.type "dict"), none, (.dict #[en P "__module__" 246 (.str "trueword.errors" 187), en P "__qualname__" 248 (.str "NoMenu" 247), en P "__firstlineno__" 250 (.int (8) 249), en P "__static_attributes__" 251 (.ref 59)] 4), #[]⟩
def o57 : Obj := (co "NoMenu" 241 8 0 0 55 false 56 .none .none .none .none 244)
def o60 (P : Params) : Obj := ⟨(.type "dict"), none, (.dict #[en P "__module__" 246 (.str "trueword.errors" 187), en P "__firstlineno__" 250 (.int (8) 249), en P "__static_attributes__" 251 (.ref 59), en P "__doc__" 252 .none] 2), #[]⟩
def o61 : Obj := ⟨(.type "type"), none, (.cls ⟨"NoMenu", [(.ref 24)], [(.ref 61), (.ref 24), (.type "ValueError"), (.type "Exception"), (.type "BaseException"), (.type "object")], 60, "NoMenu", true, [], [], false, none, false⟩), #[(some (.ref 52)), none, (some (.str "NoMenu" 239)), (some (.str "NoMenu" 247)), (some (.builtin "ValueError.__new__")), (some (.bool true))]⟩
def o66 (P : Params) : Obj := ⟨(.type "dict"), none, (.dict #[en P "__module__" 262 (.str "trueword.errors" 187), en P "__qualname__" 264 (.str "NoWeight" 263), en P "__firstlineno__" 266 (.int (10) 265), en P "__static_attributes__" 267 (.ref 71)] 4), #[]⟩
def o69 : Obj := (co "NoWeight" 257 10 0 0 67 false 68 .none .none .none .none 260)
def o72 (P : Params) : Obj := ⟨(.type "dict"), none, (.dict #[en P "__module__" 262 (.str "trueword.errors" 187), en P "__firstlineno__" 266 (.int (10) 265), en P "__static_attributes__" 267 (.ref 71), en P "__doc__" 268 .none] 2), #[]⟩
def o73 : Obj := ⟨(.type "type"), none, (.cls ⟨"NoWeight", [(.ref 24)], [(.ref 73), (.ref 24), (.type "ValueError"), (.type "Exception"), (.type "BaseException"), (.type "object")], 72, "NoWeight", true, [], [], false, none, false⟩), #[(some (.ref 64)), none, (some (.str "NoWeight" 255)), (some (.str "NoWeight" 263)), (some (.builtin "ValueError.__new__")), (some (.bool true))]⟩
def o78 (P : Params) : Obj := ⟨(.type "dict"), none, (.dict #[en P "__module__" 278 (.str "trueword.errors" 187), en P "__qualname__" 280 (.str "NoShare" 279), en P "__firstlineno__" 282 (.int (12) 281), en P "__static_attributes__" 283 (.ref 83)] 4), #[]⟩
def o81 : Obj := (co "NoShare" 273 12 0 0 79 false 80 .none .none .none .none 276)
def o84 (P : Params) : Obj := ⟨(.type "dict"), none, (.dict #[en P "__module__" 278 (.str "trueword.errors" 187), en P "__firstlineno__" 282 (.int (12) 281), en P "__static_attributes__" 283 (.ref 83), en P "__doc__" 284 .none] 2), #[]⟩
def o85 : Obj := ⟨(.type "type"), none, (.cls ⟨"NoShare", [(.ref 24)], [(.ref 85), (.ref 24), (.type "ValueError"), (.type "Exception"), (.type "BaseException"), (.type "object")], 84, "NoShare", true, [], [], false, none, false⟩), #[(some (.ref 76)), none, (some (.str "NoShare" 271)), (some (.str "NoShare" 279)), (some (.builtin "ValueError.__new__")), (some (.bool true))]⟩
def o90 (P : Params) : Obj := ⟨(.type "dict"), none, (.dict #[en P "__module__" 294 (.str "trueword.errors" 187), en P "__qualname__" 296 (.str "NoRule" 295), en P "__firstlineno__" 298 (.int (14) 297), en P "__static_attributes__" 299 (.ref 95)] 4), #[]⟩
def o93 : Obj := (co "NoRule" 289 14 0 0 91 false 92 .none .none .none .none 292)
def o96 (P : Params) : Obj := ⟨(.type "dict"), none, (.dict #[en P "__module__" 294 (.str "trueword.errors" 187), en P "__firstlineno__" 298 (.int (14) 297), en P "__static_attributes__" 299 (.ref 95), en P "__doc__" 300 .none] 2), #[]⟩
def o97 : Obj := ⟨(.type "type"), none, (.cls ⟨"NoRule", [(.ref 24)], [(.ref 97), (.ref 24), (.type "ValueError"), (.type "Exception"), (.type "BaseException"), (.type "object")], 96, "NoRule", true, [], [], false, none, false⟩), #[(some (.ref 88)), none, (some (.str "NoRule" 287)), (some (.str "NoRule" 295)), (some (.builtin "ValueError.__new__")), (some (.bool true))]⟩
def t1 (P : Params) : BT := ia (((t0 P).set 3 fun _ => o3 P).set 12 fun _ => ⟨.none, none, (.fields #[(.int (2) 0), (.int (0) 0), (.ref 20), (.int (4) 0), (.int (0) 0), (.ref 33), (.int (6) 0), (.int (0) 0), (.ref 45), (.int (8) 0), (.int (0) 0), (.ref 57), (.int (10) 0), (.int (0) 0), (.ref 69), (.int (12) 0), (.int (0) 0), (.ref 81), (.int (14) 0), (.int (0) 0), (.ref 93)]), #[]⟩) 15 [⟨(.type "tuple"), none, (.seq #[(.type "ValueError")] 0), #[]⟩, ⟨(.type "builtin_function_or_method"), none, (.fields #[(.builtin "type.__prepare__"), (.type "type")]), #[]⟩, o17 P, oE, oF, o20, ⟨(.type "frame"), none, .plain, #[(some (.ref 20)), (some (.ref 3)), (some (.ref 17)), none, (some (.str "trueword.errors" 187)), none, (some (.ref 0))]⟩, oE, o23 P, o24, ⟨(.type "getset_descriptor"), none, (.fields #[(.str "__weakref__" 202), (.ref 24), (.builtin "ExceptionGroup.__weakref__"), .none]), #[]⟩, ⟨(.type "super"), none, (.fields #[(.ref 24), (.ref 24), (.ref 24)]), #[]⟩, ⟨(.type "builtin_function_or_method"), none, (.fields #[(.builtin "object.__init_subclass__"), (.ref 24)]), #[]⟩, ⟨(.type "tuple"), none, (.seq #[(.ref 24)] 0), #[]⟩, ⟨(.type "builtin_function_or_method"), none, (.fields #[(.builtin "type.__prepare__"), (.type "type")]), #[]⟩, o30 P, oE, oF, o33, ⟨(.type "frame"), none, .plain, #[(some (.ref 33)), (some (.ref 3)), (some (.ref 30)), none, (some (.str "trueword.errors" 187)), none, (some (.ref 0))]⟩, oE, o36 P, o37, ⟨(.type "super"), none, (.fields #[(.ref 37), (.ref 37), (.ref 37)]), #[]⟩, ⟨(.type "builtin_function_or_method"), none, (.fields #[(.builtin "object.__init_subclass__"), (.ref 37)]), #[]⟩, ⟨(.type "tuple"), none, (.seq #[(.ref 24)] 0), #[]⟩, ⟨(.type "builtin_function_or_method"), none, (.fields #[(.builtin "type.__prepare__"), (.type "type")]), #[]⟩, o42 P, oE, oF, o45, ⟨(.type "frame"), none, .plain, #[(some (.ref 45)), (some (.ref 3)), (some (.ref 42)), none, (some (.str "trueword.errors" 187)), none, (some (.ref 0))]⟩, oE, o48 P, o49, ⟨(.type "super"), none, (.fields #[(.ref 49), (.ref 49), (.ref 49)]), #[]⟩, ⟨(.type "builtin_function_or_method"), none, (.fields #[(.builtin "object.__init_subclass__"), (.ref 49)]), #[]⟩, ⟨(.type "tuple"), none, (.seq #[(.ref 24)] 0), #[]⟩, ⟨(.type "builtin_function_or_method"), none, (.fields #[(.builtin "type.__prepare__"), (.type "type")]), #[]⟩, o54 P, oE, oF, o57, ⟨(.type "frame"), none, .plain, #[(some (.ref 57)), (some (.ref 3)), (some (.ref 54)), none, (some (.str "trueword.errors" 187)), none, (some (.ref 0))]⟩, oE, o60 P, o61, ⟨(.type "super"), none, (.fields #[(.ref 61), (.ref 61), (.ref 61)]), #[]⟩, ⟨(.type "builtin_function_or_method"), none, (.fields #[(.builtin "object.__init_subclass__"), (.ref 61)]), #[]⟩, ⟨(.type "tuple"), none, (.seq #[(.ref 24)] 0), #[]⟩, ⟨(.type "builtin_function_or_method"), none, (.fields #[(.builtin "type.__prepare__"), (.type "type")]), #[]⟩, o66 P, oE, oF, o69, ⟨(.type "frame"), none, .plain, #[(some (.ref 69)), (some (.ref 3)), (some (.ref 66)), none, (some (.str "trueword.errors" 187)), none, (some (.ref 0))]⟩, oE, o72 P, o73, ⟨(.type "super"), none, (.fields #[(.ref 73), (.ref 73), (.ref 73)]), #[]⟩, ⟨(.type "builtin_function_or_method"), none, (.fields #[(.builtin "object.__init_subclass__"), (.ref 73)]), #[]⟩, ⟨(.type "tuple"), none, (.seq #[(.ref 24)] 0), #[]⟩, ⟨(.type "builtin_function_or_method"), none, (.fields #[(.builtin "type.__prepare__"), (.type "type")]), #[]⟩, o78 P, oE, oF, o81, ⟨(.type "frame"), none, .plain, #[(some (.ref 81)), (some (.ref 3)), (some (.ref 78)), none, (some (.str "trueword.errors" 187)), none, (some (.ref 0))]⟩, oE, o84 P, o85, ⟨(.type "super"), none, (.fields #[(.ref 85), (.ref 85), (.ref 85)]), #[]⟩, ⟨(.type "builtin_function_or_method"), none, (.fields #[(.builtin "object.__init_subclass__"), (.ref 85)]), #[]⟩, ⟨(.type "tuple"), none, (.seq #[(.ref 24)] 0), #[]⟩, ⟨(.type "builtin_function_or_method"), none, (.fields #[(.builtin "type.__prepare__"), (.type "type")]), #[]⟩, o90 P, oE, oF, o93, ⟨(.type "frame"), none, .plain, #[(some (.ref 93)), (some (.ref 3)), (some (.ref 90)), none, (some (.str "trueword.errors" 187)), none, (some (.ref 0))]⟩, oE, o96 P, o97, ⟨(.type "super"), none, (.fields #[(.ref 97), (.ref 97), (.ref 97)]), #[]⟩, ⟨(.type "builtin_function_or_method"), none, (.fields #[(.builtin "object.__init_subclass__"), (.ref 97)]), #[]⟩]
def o3_1 (P : Params) : Obj := ⟨(.type "dict"), none, (.dict #[en P "__name__" 165 (.str "trueword.best" 509), en P "__doc__" 166 .none, en P "__package__" 167 .none, en P "__loader__" 168 (.builtin "__main__.__loader__#opaque"), en P "__spec__" 169 .none, en P "__annotations__" 170 (.ref 6), en P "__builtins__" 171 (.ref 4), en P "__file__" 173 (.str "/claim/cut.py" 172), en P "__cached__" 174 .none, en P "TrueError" 206 (.ref 24), en P "NoPays" 222 (.ref 37), en P "NoHouse" 238 (.ref 49), en P "NoMenu" 254 (.ref 61), en P "NoWeight" 270 (.ref 73), en P "NoShare" 286 (.ref 85), en P "NoRule" 302 (.ref 97), en P "NoRow" 318 (.ref 109), en P "NoStand" 334 (.ref 121), en P "NoWord" 350 (.ref 133), en P "MOST_WORDS" 354 (.int (8) 353), en P "is_whole" 361 (.ref 142), en P "is_bounded" 368 (.ref 149), en P "is_grid_row" 374 (.ref 154), en P "MOST_LETTERS" 378 (.int (8) 377), en P "MOST_OUTCOMES" 380 (.int (8) 379), en P "MOST_HANDS" 382 (.int (4) 381), en P "MOST_ROWS" 384 (.int (256) 383), en P "is_name" 390 (.ref 159), en P "are_names" 396 (.ref 164), en P "are_worths" 402 (.ref 169), en P "is_hand" 410 (.ref 176), en P "name_of" 417 (.ref 183), en P "names_of" 423 (.ref 188), en P "words_of_hand" 430 (.ref 195), en P "worths_of_hand" 437 (.ref 202), en P "worths_by" 445 (.ref 209), en P "count_of_rows" 454 (.ref 216), en P "makes_house" 460 (.ref 221), en P "kept_hand" 466 (.ref 226), en P "house_of" 472 (.ref 231), en P "outcomes_of" 479 (.ref 238), en P "hands_of" 486 (.ref 245), en P "with_each" 492 (.ref 250), en P "rows_over" 501 (.ref 257), en P "rows_of" 508 (.ref 264), en P "are_weights" 516 (.ref 269), en P "are_handicaps" 524 (.ref 276), en P "refuse_weights" 533 (.ref 283), en P "part_of" 539 (.ref 288), en P "parts_of" 545 (.ref 293), en P "scores" 551 (.ref 298), en P "best_place" 558 (.ref 305)] 52), #[]⟩
def o24_1 : Obj := ⟨(.type "type"), none, (.cls ⟨"TrueError", [(.type "ValueError")], [(.ref 24), (.type "ValueError"), (.type "Exception"), (.type "BaseException"), (.type "object")], 23, "TrueError", true, [], [(.ref 37), (.ref 49), (.ref 61), (.ref 73), (.ref 85), (.ref 97), (.ref 109), (.ref 121), (.ref 133)], false, none, false⟩), #[(some (.ref 15)), none, (some (.str "TrueError" 189)), (some (.str "TrueError" 197)), (some (.builtin "ValueError.__new__")), (some (.bool true))]⟩
def o102 (P : Params) : Obj := ⟨(.type "dict"), none, (.dict #[en P "__module__" 310 (.str "trueword.errors" 187), en P "__qualname__" 312 (.str "NoRow" 311), en P "__firstlineno__" 314 (.int (16) 313), en P "__static_attributes__" 315 (.ref 107)] 4), #[]⟩
def o105 : Obj := (co "NoRow" 305 16 0 0 103 false 104 .none .none .none .none 308)
def o108 (P : Params) : Obj := ⟨(.type "dict"), none, (.dict #[en P "__module__" 310 (.str "trueword.errors" 187), en P "__firstlineno__" 314 (.int (16) 313), en P "__static_attributes__" 315 (.ref 107), en P "__doc__" 316 .none] 2), #[]⟩
def o109 : Obj := ⟨(.type "type"), none, (.cls ⟨"NoRow", [(.ref 24)], [(.ref 109), (.ref 24), (.type "ValueError"), (.type "Exception"), (.type "BaseException"), (.type "object")], 108, "NoRow", true, [], [], false, none, false⟩), #[(some (.ref 100)), none, (some (.str "NoRow" 303)), (some (.str "NoRow" 311)), (some (.builtin "ValueError.__new__")), (some (.bool true))]⟩
def o114 (P : Params) : Obj := ⟨(.type "dict"), none, (.dict #[en P "__module__" 326 (.str "trueword.errors" 187), en P "__qualname__" 328 (.str "NoStand" 327), en P "__firstlineno__" 330 (.int (18) 329), en P "__static_attributes__" 331 (.ref 119)] 4), #[]⟩
def o117 : Obj := (co "NoStand" 321 18 0 0 115 false 116 .none .none .none .none 324)
def o120 (P : Params) : Obj := ⟨(.type "dict"), none, (.dict #[en P "__module__" 326 (.str "trueword.errors" 187), en P "__firstlineno__" 330 (.int (18) 329), en P "__static_attributes__" 331 (.ref 119), en P "__doc__" 332 .none] 2), #[]⟩
def o121 : Obj := ⟨(.type "type"), none, (.cls ⟨"NoStand", [(.ref 24)], [(.ref 121), (.ref 24), (.type "ValueError"), (.type "Exception"), (.type "BaseException"), (.type "object")], 120, "NoStand", true, [], [], false, none, false⟩), #[(some (.ref 112)), none, (some (.str "NoStand" 319)), (some (.str "NoStand" 327)), (some (.builtin "ValueError.__new__")), (some (.bool true))]⟩
def o126 (P : Params) : Obj := ⟨(.type "dict"), none, (.dict #[en P "__module__" 342 (.str "trueword.errors" 187), en P "__qualname__" 344 (.str "NoWord" 343), en P "__firstlineno__" 346 (.int (20) 345), en P "__static_attributes__" 347 (.ref 131)] 4), #[]⟩
def o129 : Obj := (co "NoWord" 337 20 0 0 127 false 128 .none .none .none .none 340)
def o132 (P : Params) : Obj := ⟨(.type "dict"), none, (.dict #[en P "__module__" 342 (.str "trueword.errors" 187), en P "__firstlineno__" 346 (.int (20) 345), en P "__static_attributes__" 347 (.ref 131), en P "__doc__" 348 .none] 2), #[]⟩
def o133 : Obj := ⟨(.type "type"), none, (.cls ⟨"NoWord", [(.ref 24)], [(.ref 133), (.ref 24), (.type "ValueError"), (.type "Exception"), (.type "BaseException"), (.type "object")], 132, "NoWord", true, [], [], false, none, false⟩), #[(some (.ref 124)), none, (some (.str "NoWord" 335)), (some (.str "NoWord" 343)), (some (.builtin "ValueError.__new__")), (some (.bool true))]⟩
def o141 : Obj := (co "is_whole" 355 24 1 3 136 true 137 .none (.ref 138) (.ref 139) (.ref 140) 359)
def o142 : Obj := (fo 13 "is_whole" "trueword.grids" 351 141)
def o148 : Obj := (co "is_bounded" 362 26 1 3 143 true 144 .none (.ref 145) (.ref 146) (.ref 147) 366)
def o149 : Obj := (fo 14 "is_bounded" "trueword.grids" 351 148)
def o153 : Obj := (co "is_grid_row" 369 28 2 3 150 true 151 .none .none .none (.ref 152) 372)
def o154 : Obj := (fo 15 "is_grid_row" "trueword.grids" 351 153)
def o158 : Obj := (co "is_name" 385 37 1 3 155 true 156 .none .none .none (.ref 157) 388)
def o159 : Obj := (fo 21 "is_name" "trueword.houses" 375 158)
def o163 : Obj := (co "are_names" 391 41 2 3 160 true 161 .none .none .none (.ref 162) 394)
def o164 : Obj := (fo 22 "are_names" "trueword.houses" 375 163)
def o168 : Obj := (co "are_worths" 397 45 3 3 165 true 166 .none .none .none (.ref 167) 400)
def o169 : Obj := (fo 23 "are_worths" "trueword.houses" 375 168)
def o175 : Obj := (co "is_hand" 403 49 2 3 170 true 171 .none (.ref 172) (.ref 173) (.ref 174) 408)
def o176 : Obj := (fo 24 "is_hand" "trueword.houses" 375 175)
def o182 : Obj := (co "name_of" 411 53 1 3 177 true 178 .none (.ref 179) (.ref 180) (.ref 181) 415)
def o183 : Obj := (fo 25 "name_of" "trueword.houses" 375 182)
def o187 : Obj := (co "names_of" 418 55 1 3 184 true 185 .none .none .none (.ref 186) 421)
def o188 : Obj := (fo 26 "names_of" "trueword.houses" 375 187)
def o194 : Obj := (co "words_of_hand" 424 57 1 3 189 true 190 .none (.ref 191) (.ref 192) (.ref 193) 428)
def o195 : Obj := (fo 27 "words_of_hand" "trueword.houses" 375 194)
def o201 : Obj := (co "worths_of_hand" 431 59 1 3 196 true 197 .none (.ref 198) (.ref 199) (.ref 200) 435)
def o202 : Obj := (fo 28 "worths_of_hand" "trueword.houses" 375 201)
def o208 : Obj := (co "worths_by" 438 61 2 3 203 true 204 .none (.ref 205) (.ref 206) (.ref 207) 443)
def o209 : Obj := (fo 29 "worths_by" "trueword.houses" 375 208)
def o215 : Obj := (co "count_of_rows" 446 63 1 3 210 true 211 .none (.ref 212) (.ref 213) (.ref 214) 452)
def o216 : Obj := (fo 30 "count_of_rows" "trueword.houses" 375 215)
def o220 : Obj := (co "makes_house" 455 68 2 3 217 true 218 .none .none .none (.ref 219) 458)
def o221 : Obj := (fo 31 "makes_house" "trueword.houses" 375 220)
def o225 : Obj := (co "kept_hand" 461 74 1 3 222 true 223 .none .none .none (.ref 224) 464)
def o226 : Obj := (fo 32 "kept_hand" "trueword.houses" 375 225)
def o230 : Obj := (co "house_of" 467 77 2 3 227 true 228 .none .none .none (.ref 229) 470)
def o231 : Obj := (fo 33 "house_of" "trueword.houses" 375 230)
def o237 : Obj := (co "outcomes_of" 473 81 1 3 232 true 233 .none (.ref 234) (.ref 235) (.ref 236) 477)
def o238 : Obj := (fo 34 "outcomes_of" "trueword.houses" 375 237)
def o244 : Obj := (co "hands_of" 480 83 1 3 239 true 240 .none (.ref 241) (.ref 242) (.ref 243) 484)
def o245 : Obj := (fo 35 "hands_of" "trueword.houses" 375 244)
def o249 : Obj := (co "with_each" 487 85 2 3 246 true 247 .none .none .none (.ref 248) 490)
def o250 : Obj := (fo 36 "with_each" "trueword.houses" 375 249)
def o256 : Obj := (co "rows_over" 493 90 1 3 251 true 252 .none (.ref 253) (.ref 254) (.ref 255) 499)
def o257 : Obj := (fo 37 "rows_over" "trueword.houses" 375 256)
def o263 : Obj := (co "rows_of" 502 95 1 3 258 true 259 .none (.ref 260) (.ref 261) (.ref 262) 506)
def o264 : Obj := (fo 38 "rows_of" "trueword.houses" 375 263)
def o268 : Obj := (co "are_weights" 511 98 2 3 265 true 266 .none .none .none (.ref 267) 514)
def o269 : Obj := (fo 40 "are_weights" "trueword.best" 509 268)
def o275 : Obj := (co "are_handicaps" 517 100 2 3 270 true 271 .none (.ref 272) (.ref 273) (.ref 274) 522)
def o276 : Obj := (fo 41 "are_handicaps" "trueword.best" 509 275)
def o282 : Obj := (co "refuse_weights" 525 102 3 3 277 true 278 .none (.ref 279) (.ref 280) (.ref 281) 531)
def o283 : Obj := (fo 42 "refuse_weights" "trueword.best" 509 282)
def o287 : Obj := (co "part_of" 534 107 3 3 284 true 285 .none .none .none (.ref 286) 537)
def o288 : Obj := (fo 43 "part_of" "trueword.best" 509 287)
def o292 : Obj := (co "parts_of" 540 109 3 3 289 true 290 .none .none .none (.ref 291) 543)
def o293 : Obj := (fo 44 "parts_of" "trueword.best" 509 292)
def o297 : Obj := (co "scores" 546 111 4 3 294 true 295 .none .none .none (.ref 296) 549)
def o298 : Obj := (fo 45 "scores" "trueword.best" 509 297)
def o304 : Obj := (co "best_place" 552 117 1 3 299 true 300 .none (.ref 301) (.ref 302) (.ref 303) 556)
def o305 : Obj := (fo 46 "best_place" "trueword.best" 509 304)
def t2 (P : Params) : BT := ia ((((t1 P).set 3 fun _ => o3_1 P).set 12 fun _ => ⟨.none, none, (.fields #[(.int (2) 0), (.int (0) 0), (.ref 20), (.int (4) 0), (.int (0) 0), (.ref 33), (.int (6) 0), (.int (0) 0), (.ref 45), (.int (8) 0), (.int (0) 0), (.ref 57), (.int (10) 0), (.int (0) 0), (.ref 69), (.int (12) 0), (.int (0) 0), (.ref 81), (.int (14) 0), (.int (0) 0), (.ref 93), (.int (16) 0), (.int (0) 0), (.ref 105), (.int (18) 0), (.int (0) 0), (.ref 117), (.int (20) 0), (.int (0) 0), (.ref 129), (.int (24) 0), (.int (0) 0), (.ref 141), (.int (26) 0), (.int (0) 0), (.ref 148), (.int (28) 0), (.int (0) 0), (.ref 153), (.int (37) 0), (.int (0) 0), (.ref 158), (.int (41) 0), (.int (0) 0), (.ref 163), (.int (45) 0), (.int (0) 0), (.ref 168), (.int (49) 0), (.int (0) 0), (.ref 175), (.int (53) 0), (.int (0) 0), (.ref 182), (.int (55) 0), (.int (0) 0), (.ref 187), (.int (57) 0), (.int (0) 0), (.ref 194), (.int (59) 0), (.int (0) 0), (.ref 201), (.int (61) 0), (.int (0) 0), (.ref 208), (.int (63) 0), (.int (0) 0), (.ref 215), (.int (68) 0), (.int (0) 0), (.ref 220), (.int (74) 0), (.int (0) 0), (.ref 225), (.int (77) 0), (.int (0) 0), (.ref 230), (.int (81) 0), (.int (0) 0), (.ref 237), (.int (83) 0), (.int (0) 0), (.ref 244), (.int (85) 0), (.int (0) 0), (.ref 249), (.int (90) 0), (.int (0) 0), (.ref 256), (.int (95) 0), (.int (0) 0), (.ref 263), (.int (98) 0), (.int (0) 0), (.ref 268), (.int (100) 0), (.int (0) 0), (.ref 275), (.int (102) 0), (.int (0) 0), (.ref 282), (.int (107) 0), (.int (0) 0), (.ref 287), (.int (109) 0), (.int (0) 0), (.ref 292), (.int (111) 0), (.int (0) 0), (.ref 297), (.int (117) 0), (.int (0) 0), (.ref 304)]), #[]⟩).set 24 fun _ => o24_1) 100 [⟨(.type "tuple"), none, (.seq #[(.ref 24)] 0), #[]⟩, ⟨(.type "builtin_function_or_method"), none, (.fields #[(.builtin "type.__prepare__"), (.type "type")]), #[]⟩, o102 P, oE, oF, o105, ⟨(.type "frame"), none, .plain, #[(some (.ref 105)), (some (.ref 3)), (some (.ref 102)), none, (some (.str "trueword.errors" 187)), none, (some (.ref 0))]⟩, oE, o108 P, o109, ⟨(.type "super"), none, (.fields #[(.ref 109), (.ref 109), (.ref 109)]), #[]⟩, ⟨(.type "builtin_function_or_method"), none, (.fields #[(.builtin "object.__init_subclass__"), (.ref 109)]), #[]⟩, ⟨(.type "tuple"), none, (.seq #[(.ref 24)] 0), #[]⟩, ⟨(.type "builtin_function_or_method"), none, (.fields #[(.builtin "type.__prepare__"), (.type "type")]), #[]⟩, o114 P, oE, oF, o117, ⟨(.type "frame"), none, .plain, #[(some (.ref 117)), (some (.ref 3)), (some (.ref 114)), none, (some (.str "trueword.errors" 187)), none, (some (.ref 0))]⟩, oE, o120 P, o121, ⟨(.type "super"), none, (.fields #[(.ref 121), (.ref 121), (.ref 121)]), #[]⟩, ⟨(.type "builtin_function_or_method"), none, (.fields #[(.builtin "object.__init_subclass__"), (.ref 121)]), #[]⟩, ⟨(.type "tuple"), none, (.seq #[(.ref 24)] 0), #[]⟩, ⟨(.type "builtin_function_or_method"), none, (.fields #[(.builtin "type.__prepare__"), (.type "type")]), #[]⟩, o126 P, oE, oF, o129, ⟨(.type "frame"), none, .plain, #[(some (.ref 129)), (some (.ref 3)), (some (.ref 126)), none, (some (.str "trueword.errors" 187)), none, (some (.ref 0))]⟩, oE, o132 P, o133, ⟨(.type "super"), none, (.fields #[(.ref 133), (.ref 133), (.ref 133)]), #[]⟩, ⟨(.type "builtin_function_or_method"), none, (.fields #[(.builtin "object.__init_subclass__"), (.ref 133)]), #[]⟩, oE, oF, (ts 358 ["thing"]), oE, (xo 13 "is_whole"), o141, o142, oE, oF, (ts 365 ["thing"]), oE, (xo 14 "is_bounded"), o148, o149, oE, oF, (xo 15 "is_grid_row"), o153, o154, oE, oF, (xo 21 "is_name"), o158, o159, oE, oF, (xo 22 "are_names"), o163, o164, oE, oF, (xo 23 "are_worths"), o168, o169, oE, oF, (ts 406 ["thing", "width"]), oE, (xo 24 "is_hand"), o175, o176, oE, oF, (ts 414 ["hand"]), oE, (xo 25 "name_of"), o182, o183, oE, oF, (xo 26 "names_of"), o187, o188, oE, oF, (ts 427 ["hand"]), oE, (xo 27 "words_of_hand"), o194, o195, oE, oF, (ts 434 ["hand"]), oE, (xo 28 "worths_of_hand"), o201, o202, oE, oF, (ts 441 ["hand", "word"]), oE, (xo 29 "worths_by"), o208, o209, oE, oF, (ts 449 ["hands", "count", "hand"]), oE, (xo 30 "count_of_rows"), o215, o216, oE, oF, (xo 31 "makes_house"), o220, o221, oE, oF, (xo 32 "kept_hand"), o225, o226, oE, oF, (xo 33 "house_of"), o230, o231, oE, oF, (ts 476 ["house"]), oE, (xo 34 "outcomes_of"), o237, o238, oE, oF, (ts 483 ["house"]), oE, (xo 35 "hands_of"), o244, o245, oE, oF, (xo 36 "with_each"), o249, o250, oE, oF, (ts 496 ["hands", "rows", "hand"]), oE, (xo 37 "rows_over"), o256, o257, oE, oF, (ts 505 ["house"]), oE, (xo 38 "rows_of"), o263, o264, oE, oF, (xo 40 "are_weights"), o268, o269, oE, oF, (ts 520 ["house", "thing"]), oE, (xo 41 "are_handicaps"), o275, o276, oE, oF, (ts 528 ["house", "weights", "handicaps"]), oE, (xo 42 "refuse_weights"), o282, o283, oE, oF, (xo 43 "part_of"), o287, o288, oE, oF, (xo 44 "parts_of"), o292, o293, oE, oF, (xo 45 "scores"), o297, o298, oE, oF, (ts 555 ["totals"]), oE, (xo 46 "best_place"), o304, o305]
def o3_2 (P : Params) : Obj := ⟨(.type "dict"), none, (.dict #[en P "__name__" 165 (.str "law_trueword_k52_no_weights" 587), en P "__doc__" 166 .none, en P "__package__" 167 .none, en P "__loader__" 168 (.builtin "__main__.__loader__#opaque"), en P "__spec__" 169 .none, en P "__annotations__" 170 (.ref 6), en P "__builtins__" 171 (.ref 4), en P "__file__" 173 (.str "/claim/cut.py" 172), en P "__cached__" 174 .none, en P "TrueError" 206 (.ref 24), en P "NoPays" 222 (.ref 37), en P "NoHouse" 238 (.ref 49), en P "NoMenu" 254 (.ref 61), en P "NoWeight" 270 (.ref 73), en P "NoShare" 286 (.ref 85), en P "NoRule" 302 (.ref 97), en P "NoRow" 318 (.ref 109), en P "NoStand" 334 (.ref 121), en P "NoWord" 350 (.ref 133), en P "MOST_WORDS" 354 (.int (8) 353), en P "is_whole" 361 (.ref 142), en P "is_bounded" 368 (.ref 149), en P "is_grid_row" 374 (.ref 154), en P "MOST_LETTERS" 378 (.int (8) 377), en P "MOST_OUTCOMES" 380 (.int (8) 379), en P "MOST_HANDS" 382 (.int (4) 381), en P "MOST_ROWS" 384 (.int (256) 383), en P "is_name" 390 (.ref 159), en P "are_names" 396 (.ref 164), en P "are_worths" 402 (.ref 169), en P "is_hand" 410 (.ref 176), en P "name_of" 417 (.ref 183), en P "names_of" 423 (.ref 188), en P "words_of_hand" 430 (.ref 195), en P "worths_of_hand" 437 (.ref 202), en P "worths_by" 445 (.ref 209), en P "count_of_rows" 454 (.ref 216), en P "makes_house" 460 (.ref 221), en P "kept_hand" 466 (.ref 226), en P "house_of" 472 (.ref 231), en P "outcomes_of" 479 (.ref 238), en P "hands_of" 486 (.ref 245), en P "with_each" 492 (.ref 250), en P "rows_over" 501 (.ref 257), en P "rows_of" 508 (.ref 264), en P "are_weights" 516 (.ref 269), en P "are_handicaps" 524 (.ref 276), en P "refuse_weights" 533 (.ref 283), en P "part_of" 539 (.ref 288), en P "parts_of" 545 (.ref 293), en P "scores" 551 (.ref 298), en P "best_place" 558 (.ref 305), en P "best_outcome" 568 (.ref 312), en P "best_table" 574 (.ref 317), en P "pivot" 580 (.ref 322), en P "pivots" 586 (.ref 327), en P "_law_cell" 596 (.ref 334), en P "_law_number" 604 (.ref 341), en P "_law_names" 610 (.ref 346), en P "_law_hands" 616 (.ref 351), en P "_law_rows" 628 (.ref 358), en P "_law_worths" 636 (.ref 365), en P "_law_weights" 642 (.ref 370), en P "_law_handicaps" 648 (.ref 375), en P "_law_scores" 662 (.ref 382), en P "_law_refused" 676 (.ref 389), en P "_law_bent" 688 (.ref 396), en P "law" 704 (.ref 403)] 68), #[]⟩
def o311 : Obj := (co "best_outcome" 559 119 4 3 306 true 307 .none (.ref 308) (.ref 309) (.ref 310) 566)
def o312 : Obj := (fo 47 "best_outcome" "trueword.best" 509 311)
def o316 : Obj := (co "best_table" 569 121 3 3 313 true 314 .none .none .none (.ref 315) 572)
def o317 : Obj := (fo 48 "best_table" "trueword.best" 509 316)
def o321 : Obj := (co "pivot" 575 123 2 3 318 true 319 .none .none .none (.ref 320) 578)
def o322 : Obj := (fo 49 "pivot" "trueword.best" 509 321)
def o326 : Obj := (co "pivots" 581 126 4 3 323 true 324 .none .none .none (.ref 325) 584)
def o327 : Obj := (fo 50 "pivots" "trueword.best" 509 326)
def o333 : Obj := (co "_law_cell" 589 130 2 3 328 true 329 .none (.ref 330) (.ref 331) (.ref 332) 594)
def o334 : Obj := (fo 52 "_law_cell" "law_trueword_k52_no_weights" 587 333)
def o340 : Obj := (co "_law_number" 597 134 2 3 335 true 336 .none (.ref 337) (.ref 338) (.ref 339) 602)
def o341 : Obj := (fo 53 "_law_number" "law_trueword_k52_no_weights" 587 340)
def o345 : Obj := (co "_law_names" 605 142 2 3 342 true 343 .none .none .none (.ref 344) 608)
def o346 : Obj := (fo 54 "_law_names" "law_trueword_k52_no_weights" 587 345)
def o350 : Obj := (co "_law_hands" 611 153 3 3 347 true 348 .none .none .none (.ref 349) 614)
def o351 : Obj := (fo 55 "_law_hands" "law_trueword_k52_no_weights" 587 350)
def o357 : Obj := (co "_law_rows" 617 166 1 3 352 true 353 .none (.ref 354) (.ref 355) (.ref 356) 626)
def o358 : Obj := (fo 56 "_law_rows" "law_trueword_k52_no_weights" 587 357)
def o364 : Obj := (co "_law_worths" 629 175 2 3 359 true 360 .none (.ref 361) (.ref 362) (.ref 363) 634)
def o365 : Obj := (fo 57 "_law_worths" "law_trueword_k52_no_weights" 587 364)
def o369 : Obj := (co "_law_weights" 637 177 2 3 366 true 367 .none .none .none (.ref 368) 640)
def o370 : Obj := (fo 58 "_law_weights" "law_trueword_k52_no_weights" 587 369)
def o374 : Obj := (co "_law_handicaps" 643 179 2 3 371 true 372 .none .none .none (.ref 373) 646)
def o375 : Obj := (fo 59 "_law_handicaps" "law_trueword_k52_no_weights" 587 374)
def o381 : Obj := (co "_law_scores" 649 181 4 3 376 true 377 .none (.ref 378) (.ref 379) (.ref 380) 660)
def o382 : Obj := (fo 60 "_law_scores" "law_trueword_k52_no_weights" 587 381)
def o388 : Obj := (co "_law_refused" 663 188 5 3 383 true 384 .none (.ref 385) (.ref 386) (.ref 387) 674)
def o389 : Obj := (fo 61 "_law_refused" "law_trueword_k52_no_weights" 587 388)
def o395 : Obj := (co "_law_bent" 677 201 3 3 390 true 391 .none (.ref 392) (.ref 393) (.ref 394) 686)
def o396 : Obj := (fo 62 "_law_bent" "law_trueword_k52_no_weights" 587 395)
def o402 : Obj := (co "law" 689 216 1 3 397 true 398 .none (.ref 399) (.ref 400) (.ref 401) 702)
def o403 : Obj := (fo 63 "law" "law_trueword_k52_no_weights" 587 402)
def t3 (P : Params) : BT := ia (((t2 P).set 3 fun _ => o3_2 P).set 12 fun _ => ⟨.none, none, (.fields #[(.int (2) 0), (.int (0) 0), (.ref 20), (.int (4) 0), (.int (0) 0), (.ref 33), (.int (6) 0), (.int (0) 0), (.ref 45), (.int (8) 0), (.int (0) 0), (.ref 57), (.int (10) 0), (.int (0) 0), (.ref 69), (.int (12) 0), (.int (0) 0), (.ref 81), (.int (14) 0), (.int (0) 0), (.ref 93), (.int (16) 0), (.int (0) 0), (.ref 105), (.int (18) 0), (.int (0) 0), (.ref 117), (.int (20) 0), (.int (0) 0), (.ref 129), (.int (24) 0), (.int (0) 0), (.ref 141), (.int (26) 0), (.int (0) 0), (.ref 148), (.int (28) 0), (.int (0) 0), (.ref 153), (.int (37) 0), (.int (0) 0), (.ref 158), (.int (41) 0), (.int (0) 0), (.ref 163), (.int (45) 0), (.int (0) 0), (.ref 168), (.int (49) 0), (.int (0) 0), (.ref 175), (.int (53) 0), (.int (0) 0), (.ref 182), (.int (55) 0), (.int (0) 0), (.ref 187), (.int (57) 0), (.int (0) 0), (.ref 194), (.int (59) 0), (.int (0) 0), (.ref 201), (.int (61) 0), (.int (0) 0), (.ref 208), (.int (63) 0), (.int (0) 0), (.ref 215), (.int (68) 0), (.int (0) 0), (.ref 220), (.int (74) 0), (.int (0) 0), (.ref 225), (.int (77) 0), (.int (0) 0), (.ref 230), (.int (81) 0), (.int (0) 0), (.ref 237), (.int (83) 0), (.int (0) 0), (.ref 244), (.int (85) 0), (.int (0) 0), (.ref 249), (.int (90) 0), (.int (0) 0), (.ref 256), (.int (95) 0), (.int (0) 0), (.ref 263), (.int (98) 0), (.int (0) 0), (.ref 268), (.int (100) 0), (.int (0) 0), (.ref 275), (.int (102) 0), (.int (0) 0), (.ref 282), (.int (107) 0), (.int (0) 0), (.ref 287), (.int (109) 0), (.int (0) 0), (.ref 292), (.int (111) 0), (.int (0) 0), (.ref 297), (.int (117) 0), (.int (0) 0), (.ref 304), (.int (119) 0), (.int (0) 0), (.ref 311), (.int (121) 0), (.int (0) 0), (.ref 316), (.int (123) 0), (.int (0) 0), (.ref 321), (.int (126) 0), (.int (0) 0), (.ref 326), (.int (130) 0), (.int (0) 0), (.ref 333), (.int (134) 0), (.int (0) 0), (.ref 340), (.int (142) 0), (.int (0) 0), (.ref 345), (.int (153) 0), (.int (0) 0), (.ref 350), (.int (166) 0), (.int (0) 0), (.ref 357), (.int (175) 0), (.int (0) 0), (.ref 364), (.int (177) 0), (.int (0) 0), (.ref 369), (.int (179) 0), (.int (0) 0), (.ref 374), (.int (181) 0), (.int (0) 0), (.ref 381), (.int (188) 0), (.int (0) 0), (.ref 388), (.int (201) 0), (.int (0) 0), (.ref 395), (.int (216) 0), (.int (0) 0), (.ref 402)]), #[]⟩) 306 [oE, oF, (ts 562 ["house", "weights", "handicaps", "row"]), oE, (xo 47 "best_outcome"), o311, o312, oE, oF, (xo 48 "best_table"), o316, o317, oE, oF, (xo 49 "pivot"), o321, o322, oE, oF, (xo 50 "pivots"), o326, o327, oE, oF, (ts 592 ["script", "k"]), oE, (xo 52 "_law_cell"), o333, o334, oE, oF, (ts 600 ["cell", "top"]), oE, (xo 53 "_law_number"), o340, o341, oE, oF, (xo 54 "_law_names"), o345, o346, oE, oF, (xo 55 "_law_hands"), o350, o351, oE, oF, (ts 620 ["hands", "rows", "hand", "longer_ones", "row", "word"]), oE, (xo 56 "_law_rows"), o357, o358, oE, oF, (ts 632 ["hand", "word"]), oE, (xo 57 "_law_worths"), o364, o365, oE, oF, (xo 58 "_law_weights"), o369, o370, oE, oF, (xo 59 "_law_handicaps"), o374, o375, oE, oF, (ts 652 ["hands", "weights", "handicaps", "row", "found", "k", "worths", "j"]), oE, (xo 60 "_law_scores"), o381, o382, oE, oF, (ts 666 ["way", "house", "weights", "handicaps", "row", "told", "e", "others"]), oE, (xo 61 "_law_refused"), o388, o389, oE, oF, (ts 680 ["some", "cell", "least_one", "place", "way", "bent"]), oE, (xo 62 "_law_bent"), o395, o396, oE, oF, (ts 692 ["script", "places", "hands", "house", "weights", "handicaps", "cell", "due", "row", "way"]), oE, (xo 63 "law"), o402, o403]
def hf (P : Params) : Heap := absHeap (t3 P) 404 (lf P)
def s0 (w : World) (os : OsState) : SharedT := ⟨t0 w.params, 15, lf w.params, Array.mk [], boot_drawn, 187, os⟩
def s1 (w : World) (os : OsState) : SharedT := ⟨t1 w.params, 100, lf w.params, Array.mk [], boot_drawn, 303, os⟩
def s2 (w : World) (os : OsState) : SharedT := ⟨t2 w.params, 306, lf w.params, Array.mk [], boot_drawn, 559, os⟩
def s3 (w : World) (os : OsState) : SharedT := ⟨t3 w.params, 404, lf w.params, Array.mk [], boot_drawn, 705, os⟩
def l0 : List Stmt := (pr.main.body.drop 0).take 8
def l1 : List Stmt := (pr.main.body.drop 8).take 39
def l2 : List Stmt := (pr.main.body.drop 47).take 17
theorem bs : behindTheImports pr = l0 ++ (l1 ++ (l2 ++ ([]))) := by kernel_rfl
theorem r_pre (w : World) (os : OsState) : topGo treeTable pr w 11 (some (.ref 6)) 12 ⟨boot_heap w.params, Array.mk [], boot_drawn, boot_toks, os⟩ (topStub pr) = some (⟨ha w.params, Array.mk [], boot_drawn, 187, os⟩, ⟨denote treeTable cd, cd, ⟨0, 0, 0, 0⟩, [topFrame qp]⟩) := by kernel_rfl
theorem zdn (w : World) (os : OsState) : segRun treeTable pr w 11 (some (.ref 6)) 1 1 ⟨ha w.params, Array.mk [], boot_drawn, 187, os⟩ (blockOf (behindTheImports pr) env cd ⟨0, 0, 0, 0⟩ [topFrame qp]) = some (.next, (s0 w os).abs, cd, ⟨0, 0, 0, 0⟩) := by kernel_rfl
theorem r0 (w : World) (os : OsState) : segRunT treeTable pr w 11 (some (.ref 6)) 1 1474 (s0 w os) (piecesOf l0 env cd ⟨0, 0, 0, 0⟩ [topFrame qp]) = some (.next, s1 w os, cd, ⟨14, 0, 15, 8⟩) := by
  rw [PySem.W.Fast.te10110043849684766642, PySem.W.Fast.te14364793385576792824]; kernel_rfl
theorem r1 (w : World) (os : OsState) : segRunT treeTable pr w 11 (some (.ref 6)) 1 1494 (s1 w os) (piecesOf l1 env cd ⟨14, 0, 15, 8⟩ [topFrame qp]) = some (.next, s2 w os, cd, ⟨117, 0, 118, 36⟩) := by
  rw [PySem.W.Fast.te10110043849684766642, PySem.W.Fast.te14364793385576792824]; kernel_rfl
theorem r2 (w : World) (os : OsState) : segRunT treeTable pr w 11 (some (.ref 6)) 1 492 (s2 w os) (piecesOf l2 env cd ⟨117, 0, 118, 36⟩ [topFrame qp]) = some (.next, s3 w os, cd, ⟨216, 0, 234, 15⟩) := by
  rw [PySem.W.Fast.te10110043849684766642, PySem.W.Fast.te14364793385576792824]; kernel_rfl
theorem r_fin (w : World) (os : OsState) : topRun treeTable pr w 11 (some (.ref 6)) 2 (s3 w os).abs ⟨doneF .next, cd, ⟨216, 0, 234, 15⟩, [topFrame qp]⟩ = some ⟨hf w.params, Array.mk [], boot_drawn, 705, os⟩ := by kernel_rfl
theorem r_rest (w : World) (os : OsState) : topRun treeTable pr w 11 (some (.ref 6)) (1474 + (1494 + (492 + (2)))) (s0 w os).abs (restOf (behindTheImports pr) env cd ⟨0, 0, 0, 0⟩ [topFrame qp]) = some ⟨hf w.params, Array.mk [], boot_drawn, 705, os⟩ := by
  have k := piece_app (segRun_of (r0 w os)) (piece_app (segRun_of (r1 w os)) (piece_app (segRun_of (r2 w os)) (piece_nil (r_fin w os))));exact (congrArg (fun b => topRun treeTable pr w 11 (some (.ref 6)) (1474 + (1494 + (492 + (2)))) (s0 w os).abs (restOf b env cd ⟨0, 0, 0, 0⟩ [topFrame qp])) bs).trans k
theorem r_all (w : World) (os : OsState) : topRun treeTable pr w 11 (some (.ref 6)) (12 + (1 + (1474 + (1494 + (492 + (2)))))) ⟨boot_heap w.params, Array.mk [], boot_drawn, boot_toks, os⟩ (topStub pr) = some ⟨hf w.params, Array.mk [], boot_drawn, 705, os⟩ := go_top (r_pre w os) (piece_block (zdn w os) (r_rest w os))
def ks : List Addr := [3, 13, 17, 20, 23, 24, 30, 33, 36, 37, 42, 45, 48, 49, 54, 57, 60, 61, 66, 69, 72, 73, 78, 81, 84, 85, 90, 93, 96, 97, 102, 105, 108, 109, 114, 117, 120, 121, 126, 129, 132, 133, 141, 142, 148, 149, 153, 154, 158, 159, 163, 164, 168, 169, 175, 176, 182, 183, 187, 188, 194, 195, 201, 202, 208, 209, 215, 216, 220, 221, 225, 226, 230, 231, 237, 238, 244, 245, 249, 250, 256, 257, 263, 264, 268, 269, 275, 276, 282, 283, 287, 288, 292, 293, 297, 298, 304, 305, 311, 312, 316, 317, 321, 322, 326, 327, 333, 334, 340, 341, 345, 346, 350, 351, 357, 358, 364, 365, 369, 370, 374, 375, 381, 382, 388, 389, 395, 396, 402, 403]
def K : Params -> Frag := fun P => (nat_lit 3, o3_2 P) :: (nat_lit 13, o13) :: (nat_lit 17, o17 P) :: (nat_lit 20, o20) :: (nat_lit 23, o23 P) :: (nat_lit 24, o24_1) :: (nat_lit 30, o30 P) :: (nat_lit 33, o33) :: (nat_lit 36, o36 P) :: (nat_lit 37, o37) :: (nat_lit 42, o42 P) :: (nat_lit 45, o45) :: (nat_lit 48, o48 P) :: (nat_lit 49, o49) :: (nat_lit 54, o54 P) :: (nat_lit 57, o57) :: (nat_lit 60, o60 P) :: (nat_lit 61, o61) :: (nat_lit 66, o66 P) :: (nat_lit 69, o69) :: (nat_lit 72, o72 P) :: (nat_lit 73, o73) :: (nat_lit 78, o78 P) :: (nat_lit 81, o81) :: (nat_lit 84, o84 P) :: (nat_lit 85, o85) :: (nat_lit 90, o90 P) :: (nat_lit 93, o93) :: (nat_lit 96, o96 P) :: (nat_lit 97, o97) :: (nat_lit 102, o102 P) :: (nat_lit 105, o105) :: (nat_lit 108, o108 P) :: (nat_lit 109, o109) :: (nat_lit 114, o114 P) :: (nat_lit 117, o117) :: (nat_lit 120, o120 P) :: (nat_lit 121, o121) :: (nat_lit 126, o126 P) :: (nat_lit 129, o129) :: (nat_lit 132, o132 P) :: (nat_lit 133, o133) :: (nat_lit 141, o141) :: (nat_lit 142, o142) :: (nat_lit 148, o148) :: (nat_lit 149, o149) :: (nat_lit 153, o153) :: (nat_lit 154, o154) :: (nat_lit 158, o158) :: (nat_lit 159, o159) :: (nat_lit 163, o163) :: (nat_lit 164, o164) :: (nat_lit 168, o168) :: (nat_lit 169, o169) :: (nat_lit 175, o175) :: (nat_lit 176, o176) :: (nat_lit 182, o182) :: (nat_lit 183, o183) :: (nat_lit 187, o187) :: (nat_lit 188, o188) :: (nat_lit 194, o194) :: (nat_lit 195, o195) :: (nat_lit 201, o201) :: (nat_lit 202, o202) :: (nat_lit 208, o208) :: (nat_lit 209, o209) :: (nat_lit 215, o215) :: (nat_lit 216, o216) :: (nat_lit 220, o220) :: (nat_lit 221, o221) :: (nat_lit 225, o225) :: (nat_lit 226, o226) :: (nat_lit 230, o230) :: (nat_lit 231, o231) :: (nat_lit 237, o237) :: (nat_lit 238, o238) :: (nat_lit 244, o244) :: (nat_lit 245, o245) :: (nat_lit 249, o249) :: (nat_lit 250, o250) :: (nat_lit 256, o256) :: (nat_lit 257, o257) :: (nat_lit 263, o263) :: (nat_lit 264, o264) :: (nat_lit 268, o268) :: (nat_lit 269, o269) :: (nat_lit 275, o275) :: (nat_lit 276, o276) :: (nat_lit 282, o282) :: (nat_lit 283, o283) :: (nat_lit 287, o287) :: (nat_lit 288, o288) :: (nat_lit 292, o292) :: (nat_lit 293, o293) :: (nat_lit 297, o297) :: (nat_lit 298, o298) :: (nat_lit 304, o304) :: (nat_lit 305, o305) :: (nat_lit 311, o311) :: (nat_lit 312, o312) :: (nat_lit 316, o316) :: (nat_lit 317, o317) :: (nat_lit 321, o321) :: (nat_lit 322, o322) :: (nat_lit 326, o326) :: (nat_lit 327, o327) :: (nat_lit 333, o333) :: (nat_lit 334, o334) :: (nat_lit 340, o340) :: (nat_lit 341, o341) :: (nat_lit 345, o345) :: (nat_lit 346, o346) :: (nat_lit 350, o350) :: (nat_lit 351, o351) :: (nat_lit 357, o357) :: (nat_lit 358, o358) :: (nat_lit 364, o364) :: (nat_lit 365, o365) :: (nat_lit 369, o369) :: (nat_lit 370, o370) :: (nat_lit 374, o374) :: (nat_lit 375, o375) :: (nat_lit 381, o381) :: (nat_lit 382, o382) :: (nat_lit 388, o388) :: (nat_lit 389, o389) :: (nat_lit 395, o395) :: (nat_lit 396, o396) :: (nat_lit 402, o402) :: (nat_lit 403, o403) :: []
theorem ke (P : Params) : ks = (K P).map (·.1) := by kernel_rfl
def lo : List Str := pr.main.scope.names.map (·.1)
def vw : Program := { pr with main := { pr.main with body := [Mine.pi] } }
def fs (w : World) (os : OsState) : Shared := ⟨hf w.params, Array.mk [], boot_drawn, 705, os⟩
theorem z_size (w : World) : ((boot_heap w.params).isNs mainGlobals && (Array.mk [] : Array GenState).size == 0, (boot_heap w.params).objs.size, (boot_heap w.params).nsMap mainGlobals "__annotations__") = (true, 11, (some (.ref 6))) := by kernel_rfl
theorem z_one (w : World) (os : OsState) : (staticsOk (importedModules pr.main.body) (boot_heap w.params) (hf w.params) && namesBound pr (hf w.params) && gensDone (fs w os) && laidKept (boot_heap w.params) (hf w.params)) = true := by kernel_rfl
theorem z_two (w : World) (os : OsState) : openSeen vw lo (importedModules pr.main.body) (fun _ => true) true (fs w os) = openGood vw lo := by
  rw [PySem.W.Fast.te4187177175401517315]; kernel_rfl
theorem zdu (w : World) (os : OsState) : (kHook K ks ke).obs (fs w os) = (kHook K ks ke).val w := by kernel_rfl
theorem z_open : opening pr = plainProg pr.main.scope.names := by kernel_rfl
theorem zey (s : Shared) : fenceModules? pr s = some s := by kernel_rfl
theorem left : LeftO pr vw lo (fun _ => true) (kHook K ks ke).obs (kHook K ks ke).val 1000000 :=
  LeftO.of_pieces (boot_open z_open rfl zey) z_size r_all rfl fun w => funext fun os => looks_pair (z_one w os) (looks_pair (z_two w os) (zdu w os))
end
end Tp
open PySem PySem.W PyProof.Rows
set_option maxRecDepth 100000 in
set_option maxHeartbeats 0 in
theorem PySem.Challenge.cw_trueword_k52_no_weights_holds : PySem.Challenge.rw_trueword_k52_no_weights.Holds := by
  refine holds_law (by rw [PySem.W.Fast.te9446332074065402090]; kernel_rfl) fun said => ?_
  refine holds_open (q := Tp.vw) (loose := Tp.lo) (Xt := fun _ => true) (XP := fun _ _ => True) (Yf := (kHook Tp.K Tp.ks Tp.ke).obs) (Ya := (kHook Tp.K Tp.ks Tp.ke).val) (YP := (kHook Tp.K Tp.ks Tp.ke).says) (N := 1000000) Tp.left (kHook Tp.K Tp.ks Tp.ke).of (kHook Tp.K Tp.ks Tp.ke).keeps (fun _ _ => trivial) (fun _ _ _ _ _ => trivial) (by rfl) (by rfl) (by rfl) (fun _ _ => recFacts_nil rfl) (by rfl) said (by decide +kernel) ⟨rfl, rfl, rfl, rfl, rfl, by decide +kernel⟩ ?hw ?hc
  case hw => w_witness2
  k_fill
  refine L2.zc2 (l := PySem.Challenge.rw_trueword_k52_no_weights) (n := 63) (k := 10) (x := "script") (CX := L2.CX0) (sp := Mine.az) rfl (by decide) rfl ⟨rfl, by decide, by decide⟩ (fun w h Y => PySem.W.kIn_of Y) ?F ?S ?C
  case F =>
    intro w mg fa h KX G hmg
    have N : mg "ValueError" = none /\ mg "abs" = none /\ mg "all" = none /\ mg "bool" = none /\ mg "dict" = none /\ mg "int" = none /\ mg "isinstance" = none /\ mg "len" = none /\ mg "list" = none /\ mg "max" = none /\ mg "range" = none /\ mg "set" = none /\ mg "str" = none /\ mg "tuple" = none /\ mg "zip" = none /\ True := by
      refine ⟨?_, ?_, ?_, ?_, ?_, ?_, ?_, ?_, ?_, ?_, ?_, ?_, ?_, ?_, ?_, trivial⟩ <;> (refine' PySem.W.mg_none_of KX G ?a; (case a => k_is))
    obtain ⟨n_ValueError, n_abs, n_all, n_bool, n_dict, n_int, n_isinstance, n_len, n_list, n_max, n_range, n_set, n_str, n_tuple, n_zip, -⟩ := N;have k0_MOST_WORDS := PySem.W.mg_of (n := "MOST_WORDS") KX G (by k_is);have k_MOST_WORDS : ∃ t, mg "MOST_WORDS" = some (Value.int 8 t) := ⟨_, k0_MOST_WORDS⟩;have k0_MOST_LETTERS := PySem.W.mg_of (n := "MOST_LETTERS") KX G (by k_is);have k_MOST_LETTERS : ∃ t, mg "MOST_LETTERS" = some (Value.int 8 t) := ⟨_, k0_MOST_LETTERS⟩;have k0_MOST_OUTCOMES := PySem.W.mg_of (n := "MOST_OUTCOMES") KX G (by k_is);have k_MOST_OUTCOMES : ∃ t, mg "MOST_OUTCOMES" = some (Value.int 8 t) := ⟨_, k0_MOST_OUTCOMES⟩;have k0_MOST_HANDS := PySem.W.mg_of (n := "MOST_HANDS") KX G (by k_is);have k_MOST_HANDS : ∃ t, mg "MOST_HANDS" = some (Value.int 4 t) := ⟨_, k0_MOST_HANDS⟩;have k0_MOST_ROWS := PySem.W.mg_of (n := "MOST_ROWS") KX G (by k_is);have k_MOST_ROWS : ∃ t, mg "MOST_ROWS" = some (Value.int 256 t) := ⟨_, k0_MOST_ROWS⟩;have B : Mine.Bt mg := ⟨n_ValueError, n_abs, n_all, n_bool, n_dict, n_int, n_isinstance, n_len, n_list, n_max, n_range, n_set, n_str, n_tuple, n_zip, k_MOST_WORDS, k_MOST_LETTERS, k_MOST_OUTCOMES, k_MOST_HANDS, k_MOST_ROWS⟩;have z_NoHouse := L2.da (name := "NoHouse") KX G (by k_is) (by k_exc) (by k_is) (by k_is) (by k_is);have z_NoWeight := L2.da (name := "NoWeight") KX G (by k_is) (by k_exc) (by k_is) (by k_is) (by k_is);have z_TrueError := L2.da (name := "TrueError") KX G (by k_is) (by k_exc) (by k_is) (by k_is) (by k_is);have z_NoWord := PySem.W.mg_of (n := "NoWord") KX G (by k_is);have z_NoStand := PySem.W.mg_of (n := "NoStand") KX G (by k_is);have z_NoShare := PySem.W.mg_of (n := "NoShare") KX G (by k_is);have z_NoRule := PySem.W.mg_of (n := "NoRule") KX G (by k_is);have z_NoRow := PySem.W.mg_of (n := "NoRow") KX G (by k_is);have z_NoPays := PySem.W.mg_of (n := "NoPays") KX G (by k_is);have z_NoMenu := PySem.W.mg_of (n := "NoMenu") KX G (by k_is);have C := Mine.Ct.mk (mg := mg) (a := ⟨_, _, _, _, _, _, _, _, _, _⟩) (z_NoHouse.1) (z_NoHouse.2) (z_NoWeight.1) (z_NoWeight.2) (L2.zfa (by k_is)) (z_TrueError.1) (z_TrueError.2) (z_NoWord) (z_NoStand) (z_NoShare) (z_NoRule) (z_NoRow) (z_NoPays) (z_NoMenu) (L2.u5 (by decide) (by k_is) (by k_is) (by k_is)) (by k_is) (L2.zc0) (by k_is) (L2.u5 (by decide) (by k_is) (by k_is) (by k_is)) (L2.u5 (by decide) (by k_is) (by k_is) (by k_is)) (L2.u5 (by decide) (by k_is) (by k_is) (by k_is)) (L2.u5 (by decide) (by k_is) (by k_is) (by k_is)) (L2.u5 (by decide) (by k_is) (by k_is) (by k_is)) (L2.u5 (by decide) (by k_is) (by k_is) (by k_is)) (L2.u5 (by decide) (by k_is) (by k_is) (by k_is)) (L2.u5 (by decide) (by k_is) (by k_is) (by k_is))
    have D : L2.ze (L2.KOf KX) mg "is_whole" Mine.ux ["thing"] /\ L2.ze (L2.KOf KX) mg "is_bounded" Mine.vt ["thing"] /\ L2.ze (L2.KOf KX) mg "is_grid_row" Mine.vd ["thing", "width"] /\ L2.ze (L2.KOf KX) mg "is_name" Mine.pj ["thing"] /\ L2.ze (L2.KOf KX) mg "are_names" Mine.sj ["thing", "most"] /\ L2.ze (L2.KOf KX) mg "are_worths" Mine.tj ["thing", "height", "width"] /\ L2.ze (L2.KOf KX) mg "is_hand" Mine.ph ["thing", "width"] /\ L2.ze (L2.KOf KX) mg "name_of" Mine.p5 ["hand"] /\ L2.ze (L2.KOf KX) mg "names_of" Mine.qc ["hands"] /\ L2.ze (L2.KOf KX) mg "words_of_hand" Mine.wq ["hand"] /\ L2.ze (L2.KOf KX) mg "worths_of_hand" Mine.x0 ["hand"] /\ L2.ze (L2.KOf KX) mg "worths_by" Mine.sf ["hand", "word"] /\ L2.ze (L2.KOf KX) mg "count_of_rows" Mine.vn ["hands"] /\ L2.ze (L2.KOf KX) mg "makes_house" Mine.ui ["outcomes", "hands"] /\ L2.ze (L2.KOf KX) mg "kept_hand" Mine.uc ["hand"] /\ L2.ze (L2.KOf KX) mg "house_of" Mine.u0 ["outcomes", "hands"] /\ L2.ze (L2.KOf KX) mg "outcomes_of" Mine.um ["house"] /\ L2.ze (L2.KOf KX) mg "hands_of" Mine.rq ["house"] /\ L2.ze (L2.KOf KX) mg "with_each" Mine.sg ["rows", "words"] /\ L2.ze (L2.KOf KX) mg "rows_over" Mine.si ["hands"] /\ L2.ze (L2.KOf KX) mg "rows_of" Mine.p4 ["house"] /\ L2.ze (L2.KOf KX) mg "are_weights" Mine.vf ["house", "thing"] /\ L2.ze (L2.KOf KX) mg "are_handicaps" Mine.wu ["house", "thing"] /\ L2.ze (L2.KOf KX) mg "refuse_weights" Mine.x9 ["house", "weights", "handicaps"] /\ L2.ze (L2.KOf KX) mg "part_of" Mine.pp ["hand", "weight", "word"] /\ L2.ze (L2.KOf KX) mg "parts_of" Mine.qe ["house", "weights", "row"] /\ L2.ze (L2.KOf KX) mg "scores" Mine.qz ["house", "weights", "handicaps", "row"] /\ L2.ze (L2.KOf KX) mg "best_place" Mine.tm ["totals"] /\ L2.ze (L2.KOf KX) mg "best_outcome" Mine.wv ["house", "weights", "handicaps", "row"] /\ L2.ze (L2.KOf KX) mg "best_table" Mine.vv ["house", "weights", "handicaps"] /\ L2.ze (L2.KOf KX) mg "pivot" Mine.mq ["totals", "part"] /\ L2.ze (L2.KOf KX) mg "pivots" Mine.qv ["house", "weights", "handicaps", "row"] /\ L2.ze (L2.KOf KX) mg "_law_cell" Mine.r6 ["script", "k"] /\ L2.ze (L2.KOf KX) mg "_law_number" Mine.u7 ["cell", "top"] /\ L2.ze (L2.KOf KX) mg "_law_names" Mine.yd ["cell", "many"] /\ L2.ze (L2.KOf KX) mg "_law_hands" Mine.sk ["script", "places", "top"] /\ L2.ze (L2.KOf KX) mg "_law_rows" Mine.qd ["hands"] /\ L2.ze (L2.KOf KX) mg "_law_weights" Mine.uk ["script", "many"] /\ L2.ze (L2.KOf KX) mg "_law_handicaps" Mine.vo ["script", "places"] /\ L2.ze (L2.KOf KX) mg "_law_refused" Mine.uh ["way", "house", "weights", "handicaps", "row"] /\ L2.ze (L2.KOf KX) mg "_law_bent" Mine.v8 ["some", "cell", "least_one"] /\ L2.ze (L2.KOf KX) mg "law" Mine.pi ["script"] /\ True := by
      refine ⟨?_, ?_, ?_, ?_, ?_, ?_, ?_, ?_, ?_, ?_, ?_, ?_, ?_, ?_, ?_, ?_, ?_, ?_, ?_, ?_, ?_, ?_, ?_, ?_, ?_, ?_, ?_, ?_, ?_, ?_, ?_, ?_, ?_, ?_, ?_, ?_, ?_, ?_, ?_, ?_, ?_, ?_, trivial⟩ <;> (dsimp only [L2.KOf]; refine' L2.def_mk KX G ?a ?l ?c ?k ?h; (case a => k_is); (case l => k_is); (case c => k_is); (case k => k_is); (case h => first | exact (fun _ _ _ _ _ _ us hl => match us, hl with | [_], _ => rfl) | exact (fun _ _ _ _ _ _ us hl => match us, hl with | [_, _], _ => rfl) | exact (fun _ _ _ _ _ _ us hl => match us, hl with | [_, _, _], _ => rfl) | exact (fun _ _ _ _ _ _ us hl => match us, hl with | [_, _, _, _], _ => rfl) | exact (fun _ _ _ _ _ _ us hl => match us, hl with | [_, _, _, _, _], _ => rfl)))
    obtain ⟨d_is_whole, d_is_bounded, d_is_grid_row, d_is_name, d_are_names, d_are_worths, d_is_hand, d_name_of, d_names_of, d_words_of_hand, d_worths_of_hand, d_worths_by, d_count_of_rows, d_makes_house, d_kept_hand, d_house_of, d_outcomes_of, d_hands_of, d_with_each, d_rows_over, d_rows_of, d_are_weights, d_are_handicaps, d_refuse_weights, d_part_of, d_parts_of, d_scores, d_best_place, d_best_outcome, d_best_table, d_pivot, d_pivots, d_law_cell, d_law_number, d_law_names, d_law_hands, d_law_rows, d_law_weights, d_law_handicaps, d_law_refused, d_law_bent, d_law, -⟩ := D;obtain ⟨f, fd, e1, F1, b1⟩ := d_law.ex;have e2 := hmg.symm.trans e1;cases e2;refine ⟨fd, fun s u => ?_, fun base kb nb => ?_⟩
    . exact Mine.zbm F1 s u
    . exact Mine.law_ok B C d_is_whole d_is_bounded d_is_grid_row d_is_name d_are_names d_are_worths d_is_hand d_name_of d_names_of d_words_of_hand d_worths_of_hand d_worths_by d_count_of_rows d_makes_house d_kept_hand d_house_of d_outcomes_of d_hands_of d_with_each d_rows_over d_rows_of d_are_weights d_are_handicaps d_refuse_weights d_part_of d_parts_of d_scores d_best_place d_best_outcome d_best_table d_pivot d_pivots d_law_cell d_law_number d_law_names d_law_hands d_law_rows d_law_weights d_law_handicaps d_law_refused d_law_bent base F1
  case S => exact fun K H a ns hl hO hS => ⟨a, ns, rfl, hS, hl, fun _ => rfl⟩
  case C => exact fun _ _ _ _ z => z
#print axioms PySem.Challenge.cw_trueword_k52_no_weights_holds

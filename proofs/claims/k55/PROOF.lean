import PyProof.Rows.All
import Wide.All
import OpenK.AllK
import Wide.FinOn
import Lean
import PyProof.EqAt
import PyProof.EqKinds
import PyProof.TupleCall
import PySem.Challenge.RW_trueword_k55_whole_pivots_are_honest
abbrev Fg := PySem.W.Frag
abbrev Za := @List.length_map
abbrev Zb := @List.getElem?_eq_getElem
abbrev Zc := @List.getElem?_eq_some_iff
abbrev Zd := @Nat.le_trans
abbrev Ze := @List.getElem?_map
abbrev Zf := @List.getElem?_append_right
abbrev Zg := @List.getElem?_append_left
abbrev Zh := @Nat.lt_of_lt_of_le
abbrev Zi := @List.mem_of_getElem?
abbrev Zj := @List.length_take
abbrev Zk := @List.getD_eq_getElem?_getD
abbrev Zl := @List.getElem_mem
abbrev Zm := @Nat.le_refl
abbrev Zn := @List.map_append
abbrev Zo := @List.length_append
abbrev Zp := @List.mem_map
abbrev Zq := @List.take_add_one
abbrev Zr := @List.size_toArray
abbrev Zs := @Nat.ne_of_lt
abbrev Zt := @List.take_length
abbrev Zu := @List.mem_append_right
abbrev Zv := @List.mem_cons_of_mem
abbrev Zw := @Int.toNat_natCast
abbrev Zx := @List.not_mem_nil
abbrev Zy := @List.getElem_of_mem
abbrev Zz := @List.idxOf_lt_length_iff
abbrev ZA := @List.mem_cons_self
abbrev ZB := @Nat.min_le_right
abbrev ZC := @List.mem_singleton
abbrev ZD := @Nat.not_lt
abbrev ZE := @Nat.zero_le
abbrev ZF := @List.lookup_cons
abbrev ZG := @List.take_of_length_le
abbrev ZH := @List.mem_append
abbrev ZI := @List.length_replicate
abbrev ZJ := @Nat.lt_irrefl
abbrev ZK := @List.mem_cons
abbrev ZL := @List.length_cons
abbrev ZM := @Array.length_toList
abbrev ZN := @List.length_range
abbrev ZO := @List.map_cons
abbrev ZP := @List.length_drop
abbrev ZQ := @List.all_eq_true
abbrev ZR := @Nat.ne_of_gt
abbrev ZS := @List.mem_range
abbrev ZT := @List.length_zipWith
abbrev ZU := @List.mem_append_left
abbrev ZV := @List.nodup_cons
abbrev ZW := @List.length_nil
abbrev ZX := @List.range_succ
abbrev ZY := @List.mem_filterMap
abbrev ZZ := @List.getElem?_replicate
abbrev Yb := @List.append_nil
abbrev Yc := @List.max?_eq_some_iff
abbrev Yd := @Nat.lt_succ_of_lt
abbrev Ye := @List.length_eq_zero_iff
abbrev Yg := @List.find?_cons
abbrev Yh := @Option.map_some
abbrev Yi := @Int.emod_lt_of_pos
abbrev Yj := @List.nodup_append
abbrev Yk := @List.length_singleton
abbrev Yl := @List.map_map
abbrev Ym := @List.max?_eq_none_iff
abbrev Yn := @List.length_eraseIdx_of_lt
abbrev Yo := @Option.isSome_iff_exists
abbrev Yp := @List.getElem?_drop
abbrev Yq := @List.getElem_idxOf
abbrev Yr := @List.getElem?_cons_succ
abbrev Ys := @Nat.le_succ
abbrev Yt := @Int.le_refl
abbrev Yu := @List.getElem?_eraseIdx
abbrev Yv := @List.getElem_inj
abbrev Yw := @Nat.lt_succ_self
abbrev Yx := @Nat.succ_le_succ
abbrev Yy := @List.mem_flatten
abbrev Yz := @List.getElem?_eq_none
abbrev YA := @List.dropLast_eq_take
abbrev YB := @List.map_nil
abbrev YC := @Int.emod_nonneg
abbrev YD := @Nat.min_self
abbrev YE := @List.sum_append
abbrev YF := @List.filterMap_cons
abbrev YG := @List.replicate_succ
abbrev YH := @List.nodup_nil
abbrev YI := @Nat.mul_le_mul
abbrev YJ := @Nat.lt_of_le_of_lt
abbrev YK := @Nat.le_succ_of_le
abbrev YL := @List.pairwise_map
abbrev YM := @Nat.le_of_lt
abbrev YN := @List.of_mem_zip
abbrev YO := @List.foldl_cons
abbrev YQ := @Nat.min_eq_left
abbrev YR := @Nat.not_lt_zero
-- CHANGE: your row's module here, as the last of these rows
set_option Elab.async false
set_option maxHeartbeats 8000000
set_option linter.all false
set_option maxRecDepth 100000
namespace L2
open PySem PySem.Spec PyProof.Rows
abbrev Key := Sum Int Str
def j6 : Key -> Value -> Bool
  | .inl k, v => Value.isInt k v
  | .inr x, v => Value.isStrOf x v
def keyH (w : World) : Key -> Int
  | .inl k => hashInt k
  | .inr x => hashStr w x
theorem xz : ∀ {k : Key} {v : Value}, j6 k v = true -> (∃ i t, k = Sum.inl i /\ v = Value.int i t) \/ (∃ x t, k = Sum.inr x /\ v = Value.str x t)
  | .inl i, v, h => by
    obtain ⟨t, e⟩ := Value.isInt_shape (k := i) (v := v) h;exact .inl ⟨i, t, rfl, e⟩
  | .inr x, v, h => by
    obtain ⟨t, e⟩ := Value.isStrOf_shape (x := x) (v := v) h;exact .inr ⟨x, t, rfl, e⟩
theorem ze8 (i : Int) (t : Tok) : j6 (.inl i) (.int i t) = true := by simp [j6, Value.isInt]
theorem zen (x : Str) (t : Tok) : j6 (.inr x) (.str x t) = true := by simp [j6, Value.isStrOf]
theorem key_ll (a b : Int) : decide ((Sum.inl a : Key) = Sum.inl b) = (a == b) := by
  by_cases e : a = b
  . subst e; simp
  . have h : ¬ (Sum.inl a : Key) = Sum.inl b := fun q => e (Sum.inl.inj q)
    rw [decide_eq_false h];exact (beq_eq_false_iff_ne.mpr e).symm
theorem key_rr (a b : Str) : decide ((Sum.inr a : Key) = Sum.inr b) = decide (a = b) := by
  by_cases e : a = b
  . subst e; simp
  . have h : ¬ (Sum.inr a : Key) = Sum.inr b := fun q => e (Sum.inr.inj q)
    rw [decide_eq_false h, decide_eq_false e]
theorem key_lr (a : Int) (b : Str) : decide ((Sum.inl a : Key) = Sum.inr b) = false := decide_eq_false (fun q => nomatch q)
theorem key_rl (a : Str) (b : Int) : decide ((Sum.inr a : Key) = Sum.inl b) = false := decide_eq_false (fun q => nomatch q)
def wv (prog : Program) (w : World) : PySem.KeyKind prog w Key where
  is := j6
  hash := keyH w
  inj := fun v a b ha hb => by
    rcases xz ha with ⟨i, t, rfl, rfl⟩ | ⟨x, t, rfl, rfl⟩
    . rcases xz hb with ⟨j, u, rfl, e⟩ | ⟨y, u, rfl, e⟩
      . injection e with e1 _; rw [e1]
      . exact nomatch e
    . rcases xz hb with ⟨j, u, rfl, e⟩ | ⟨y, u, rfl, e⟩
      . exact nomatch e
      . injection e with e1 _; rw [e1]
  byValue := fun k v h => by
    rcases xz h with ⟨i, t, rfl, rfl⟩ | ⟨x, t, rfl, rfl⟩ <;> rfl
  pyHash := fun hv h => by
    rcases xz hv with ⟨i, t, rfl, rfl⟩ | ⟨x, t, rfl, rfl⟩
    . exact wpAny_pyHash_int h
    . exact wpAny_pyHash_str h
  eqBool := fun hu hv h => by
    rcases xz hu with ⟨i, t, rfl, rfl⟩ | ⟨x, t, rfl, rfl⟩
    . rcases xz hv with ⟨j, u, rfl, rfl⟩ | ⟨y, u, rfl, rfl⟩
      . rw [key_ll] at h; exact wpAny_eqBool_int h
      . rw [key_lr] at h; exact SeqAt.EqAt.int_str i t y u _ _ _ _ h
    . rcases xz hv with ⟨j, u, rfl, rfl⟩ | ⟨y, u, rfl, rfl⟩
      . rw [key_rl] at h; exact SeqAt.EqAt.str_int x t j u _ _ _ _ h
      . rw [key_rr] at h; exact wpAny_eqBool_str h
  «strs» := fun k x t v h => by
    rcases xz h with ⟨i, u, rfl, e⟩ | ⟨y, u, rfl, e⟩
    . exact nomatch e
    . injection e with e1 _
      subst e1;cases v <;> rfl
theorem zbi (prog : Program) (w : World) (i : Int) (t : Tok) : (wv prog w).is (.inl i) (.int i t) = true := ze8 i t
theorem zaz (prog : Program) (w : World) (x : Str) (t : Tok) : (wv prog w).is (.inr x) (.str x t) = true := zen x t
end L2
namespace L2
open PySem PySem.Spec PyProof.Rows
inductive V where
  | non | bl (b : Bool) | int (i : Int) | str (x : Str) | byt (b : Array UInt8) | flt (b : UInt64) | ref (a : Addr) | ty (n : String)
  deriving DecidableEq
def RelV : V -> Value -> Prop
  | .non, u => u = Value.none
  | .bl b, u => u = Value.bool b
  | .int i, u => ∃ t, u = Value.int i t
  | .str x, u => ∃ t, u = Value.str x t
  | .byt b, u => ∃ t, u = Value.bytes b t
  | .flt b, u => ∃ t, u = Value.float b t
  | .ref a, u => u = Value.ref a
  | .ty n, u => u = Value.type n
abbrev Vals : List V -> List Value -> Prop := Paired RelV
theorem Vals.length {xs : List V} {us : List Value} (r : Vals xs us) : xs.length = us.length := Paired.length r
theorem Vals.get : ∀ {xs : List V} {us : List Value} {i : Nat} {x : V}, Vals xs us -> xs[i]? = some x -> ∃ u, us[i]? = some u /\ RelV x u
  | _, _, _, _, .nil, e => by simp at e
  | _, _, 0, _, .cons r _, e => by simp at e; subst e; exact ⟨_, rfl, r⟩
  | _, _, i + 1, x, .cons _ t, e => by
    obtain ⟨u, h1, h2⟩ := Vals.get (i := i) (x := x) t (by simpa using e);exact ⟨u, by simpa using h1, h2⟩
theorem Vals.append : ∀ {xs ys : List V} {us ws : List Value}, Vals xs us -> Vals ys ws -> Vals (xs ++ ys) (us ++ ws)
  | _, _, _, _, .nil, s => s
  | _, _, _, _, .cons r t, s => .cons r (Vals.append t s)
theorem Vals.take : ∀ {xs : List V} {us : List Value} (n : Nat), Vals xs us -> Vals (xs.take n) (us.take n)
  | _, _, 0, _ => .nil
  | _, _, _ + 1, .nil => .nil
  | _, _, n + 1, .cons r t => .cons r (Vals.take n t)
theorem Vals.drop : ∀ {xs : List V} {us : List Value} (n : Nat), Vals xs us -> Vals (xs.drop n) (us.drop n)
  | _, _, 0, r => r
  | _, _, _ + 1, .nil => .nil
  | _, _, n + 1, .cons _ t => Vals.drop n t
def RelO : Option V -> Option Value -> Prop
  | some v, some u => RelV v u
  | none, none => True
  | _, _ => False
def KV {κ : Type} : List (κ × V) -> List (κ × Value) -> Prop := Paired fun (p : κ × V) (q : κ × Value) => p.1 = q.1 /\ RelV p.2 q.2
def kV : Key -> V
  | .inl i => .int i
  | .inr x => .str x
inductive HO where
    | lst (xs : List V)
    | tup (xs : List V)
    | dK (kvs : List (Key × V)) | dT (kvs : List (List Key × V))
    | set (S : Int -> Bool) (n : Nat)
    | ins (C dx : Addr) (fs : List (Str × V))
    | own (x : Addr)
    | xd (fs : List (Str × V))
    | met (f x : Addr)
    | rng (lo hi : Int)
    | frz (o : Obj) (u : HO)
    | tbl (ps : Array Value)
    | ext (φ : Heap -> Prop)
abbrev Hp := Addr -> Option HO
def upd (H : Hp) (a : Addr) (o : HO) : Hp := fun b => if b = a then some o else H b
theorem zf {H : Hp} {a : Addr} {o : HO} : upd H a o a = some o := by unfold upd; rw [if_pos rfl]
theorem zx {H : Hp} {a b : Addr} {o : HO} (h : b ≠ a) : upd H a o b = H b := by unfold upd; rw [if_neg h]
theorem y8 {H : Hp} {a b : Addr} {o : HO} (h : H a = some o) (h' : H b = none) : a ≠ b := by
  intro e; subst e; rw [h] at h'; cases h'
def IsTupD (h : Heap) (a : Addr) (items : Array Value) : Prop := ∃ o, h.get? a = some o /\ o.cls = .type "tuple" /\ ∃ n, o.data = .seq items n /\ o.dict = none
theorem IsTupD.tup {h : Heap} {a : Addr} {items : Array Value} (q : IsTupD h a items) : IsTup h a items := by
  obtain ⟨o, e, c, n, d, _⟩ := q;exact ⟨o, e, c, n, d⟩
theorem IsTupD.new (h : Heap) (items : Array Value) : IsTupD (h.push { cls := .type "tuple", data := .seq items }) h.objs.size items := ⟨_, Heap.get?_push_size _ rfl, rfl, _, rfl, rfl⟩
section
variable (P : Program) (w : World)
def ObjOk (H : Hp) (h : Heap) (a : Addr) : HO -> Prop
  | .lst xs => xs.length <= sizeLine /\ ∃ (its : List Value) (n : Nat), Vals xs its /\ h.get? a = some { cls := .type "list", data := .seq its.toArray n }
  | .tup xs => xs.length <= sizeLine /\ ∃ its : List Value, Vals xs its /\ IsTupD h a its.toArray
  | .dK kvs => kvs.length <= sizeLine /\ (a == sysModules) = false /\ ∃ vs, KV kvs vs /\ h.DictOf (wv P w) a vs
  | .dT kvs => kvs.length <= sizeLine /\ (a == sysModules) = false /\ ∃ xs : List (List Key × Addr × Value),
      Paired (fun (p : List Key × V) (q : List Key × Addr × Value) => p.1 = q.1 /\ H q.2.1 = some (.tup (p.1.map kV)) /\ RelV p.2 q.2.2) kvs xs /\
      ∃ o es ep, h.get? a = some o /\ o.ExactDict /\ o.data = .dict es ep /\ es.toList = xs.map (entryOfKey (tupleKind (wv P w))) /\ (xs.map (·.1)).Nodup
  | .set S n => h.SetOf (intKind P w) a S n
  | .ins C dx fs => H dx = some (.own a) /\ fs.length <= 1000 /\ dx ≠ a /\ h.get? a = some (PySem.W.instObj C dx) /\
      ∃ mA, h.Ns1 dx mA /\ (∀ f, RelO (fs.lookup f) (mA f)) /\ PySem.Within mA (fs.map (·.1))
  | .own _ => ∃ o, h.get? a = some o
  | .xd fs => ∃ mA, h.Ns1 a mA /\ ∀ f, RelO (fs.lookup f) (mA f)
  | .rng lo hi => ∃ t u v, h.get? a = some { cls := .type "range", data := .fields #[.int lo t, .int hi u, .int 1 v] }
  | .frz o u => h.get? a = some o /\ ObjOk H h a u
  | .tbl ps => h.get? a = some { cls := .none, data := .fields ps }
  | .met f x => h.get? a = some (PySem.W.methodObj (.ref f) (.ref x))
  | .ext φ => φ h /\ (∃ o, h.get? a = some o) /\ ∀ h1 h2 : Heap, φ h1 -> (∀ o, h1.get? a = some o -> h2.get? a = some o) -> φ h2
def HOk (H : Hp) (h : Heap) : Prop := ∀ a o, H a = some o -> ObjOk P w H h a o
end
section
variable {P : Program} {w : World} {H H' : Hp} {h h' : Heap} {a : Addr} {o : HO}
theorem ObjOk.lt (x : ObjOk P w H h a o) : a < h.objs.size := by
  cases o with
  | lst xs => obtain ⟨_, _, _, _, e⟩ := x; exact Heap.lt_size e
  | tup xs => obtain ⟨_, _, _, p⟩ := x; exact p.tup.lt
  | dK kvs => obtain ⟨_, _, _, _, o, _, _, e, _⟩ := x; exact Heap.lt_size e
  | dT kvs => obtain ⟨_, _, _, _, o, _, _, e, _⟩ := x; exact Heap.lt_size e
  | set S n => obtain ⟨o, _, _, _, e, _⟩ := x; exact Heap.lt_size e
  | ins C dx fs => obtain ⟨_, _, _, e, _⟩ := x; exact Heap.lt_size e
  | own y => obtain ⟨_, e⟩ := x; exact Heap.lt_size e
  | xd fs => obtain ⟨_, ⟨_, _, _, e, _⟩, _⟩ := x; exact Heap.lt_size e
  | rng lo hi => obtain ⟨_, _, _, e⟩ := x; exact Heap.lt_size e
  | frz ob u => obtain ⟨e, _⟩ := x; exact Heap.lt_size e
  | tbl ps => exact Heap.lt_size (show h.get? a = some _ from x)
  | met f y => exact Heap.lt_size (show h.get? a = some _ from x)
  | ext φ => obtain ⟨_, ⟨_, e⟩, _⟩ := x; exact Heap.lt_size e
theorem Paired.mapP {α β : Type} {F G : α -> β -> Prop} : ∀ {l₁ : List α} {l₂ : List β}, Paired F l₁ l₂ -> (∀ a b, F a b -> G a b) -> Paired G l₁ l₂
  | _, _, .nil, _ => .nil
  | _, _, .cons r t, f => .cons (f _ _ r) (Paired.mapP t f)
theorem ObjOk.stay (x : ObjOk P w H h a o) (k : ∀ b u, (b = a \/ H b = some (.own a)) -> h.get? b = some u -> h'.get? b = some u)
    (ho : ∀ b, H b = some (.own a) -> H' b = some (.own a)) (ht : ∀ b xs, H b = some (.tup xs) -> H' b = some (.tup xs)) : ObjOk P w H' h' a o := by
  induction o with
  | lst xs => obtain ⟨z, its, n, r, e⟩ := x; exact ⟨z, its, n, r, k _ _ (.inl rfl) e⟩
  | tup xs => obtain ⟨z, its, r, ob, e, c⟩ := x; exact ⟨z, its, r, ob, k _ _ (.inl rfl) e, c⟩
  | dK kvs => obtain ⟨z, y, vs, r, ob, es, ep, e, c⟩ := x; exact ⟨z, y, vs, r, ob, es, ep, k _ _ (.inl rfl) e, c⟩
  | dT kvs =>
    obtain ⟨z, y, xs, r, ob, es, ep, e, c⟩ := x;exact ⟨z, y, xs, Paired.mapP r fun p q z => ⟨z.1, ht _ _ z.2.1, z.2.2⟩, ob, es, ep, k _ _ (.inl rfl) e, c⟩
  | set S n => obtain ⟨ob, es, ep, t, e, c⟩ := x; exact ⟨ob, es, ep, t, k _ _ (.inl rfl) e, c⟩
  | ins C dx fs =>
    obtain ⟨d, z, ne, e, mA, ⟨od, es, ep, e2, c⟩, r⟩ := x;exact ⟨ho _ d, z, ne, k _ _ (.inl rfl) e, mA, ⟨od, es, ep, k _ _ (.inr d) e2, c⟩, r⟩
  | own y => obtain ⟨ob, e⟩ := x; exact ⟨ob, k _ _ (.inl rfl) e⟩
  | xd fs => obtain ⟨mA, ⟨od, es, ep, e, c⟩, r⟩ := x; exact ⟨mA, ⟨od, es, ep, k _ _ (.inl rfl) e, c⟩, r⟩
  | rng lo hi => obtain ⟨t, u, v, e⟩ := x; exact ⟨t, u, v, k _ _ (.inl rfl) e⟩
  | frz ob u ih => obtain ⟨e, q⟩ := x; exact ⟨k _ _ (.inl rfl) e, ih q⟩
  | tbl ps =>
    have e : h.get? a = some { cls := .none, data := .fields ps } := x
    show h'.get? a = some { cls := .none, data := .fields ps }
    exact k a _ (.inl rfl) e
  | met f y =>
    have e : h.get? a = some (PySem.W.methodObj (.ref f) (.ref y)) := x
    show h'.get? a = some (PySem.W.methodObj (.ref f) (.ref y))
    exact k a _ (.inl rfl) e
  | ext φ => obtain ⟨p, ⟨o, e⟩, st⟩ := x; exact ⟨st _ _ p fun o q => k _ _ (.inl rfl) q, ⟨o, k _ _ (.inl rfl) e⟩, st⟩
theorem HOk.lt (x : HOk P w H h) (e : H a = some o) : a < h.objs.size := (x a o e).lt
theorem HOk.fresh (x : HOk P w H h) (e : h.objs.size <= a) : H a = none := by
  cases q : H a with
  | none => rfl
  | some u => exact absurd (Zh (x.lt q) e) (ZJ _)
theorem HOk.kept (x : HOk P w H h) (k : ∀ b u, h.get? b = some u -> h'.get? b = some u) : HOk P w H h' := fun a o e =>
  (x a o e).stay (fun b u _ q => k b u q) (fun _ q => q) fun _ _ q => q
theorem HOk.laid (x : HOk P w H h) (k : ∀ b u, h.get? b = some u -> h'.get? b = some u) (hp : h.objs.size <= a) (new : ObjOk P w (upd H a o) h' a o) : HOk P w (upd H a o) h' := fun b u e => by
  have hn := x.fresh hp
  by_cases hb : b = a
  . subst hb; rw [zf] at e; cases e; exact new
  . rw [zx hb] at e
    exact (x b u e).stay (fun c v _ q => k c v q) (fun c q => by rw [zx (y8 q hn)]; exact q) fun c xs q => by rw [zx (y8 q hn)]; exact q
end
def Rd (H : Hp) (a : Addr) (u : HO) : Prop := H a = some u \/ ∃ o, H a = some (.frz o u)
theorem Rd.of {H : Hp} {a : Addr} {u : HO} (h : H a = some u) : Rd H a u := .inl h
theorem Rd.ok {P : Program} {w : World} {H : Hp} {h : Heap} {a : Addr} {u : HO} (r : Rd H a u) (x : HOk P w H h) : ObjOk P w H h a u := by
  rcases r with r | ⟨o, r⟩
  . exact x a u r
  . obtain ⟨_, q⟩ := x a _ r
    exact q
def Mut : Option HO -> Prop
  | some (.lst _) => True
  | some (.dK _) => True
  | some (.dT _) => True
  | some (.set _ _) => True
  | some (.ins _ _ _) => True
  | some (.ext _) => True
  | _ => False
section
variable {P : Program} {w : World} {H : Hp} {h h' : Heap} {x e : Addr} {o' : HO}
theorem HOk.write (ok : HOk P w H h) (mu : Mut (H x)) (he : e = x \/ H e = some (.own x)) (k : ∀ b u, b ≠ e -> h.get? b = some u -> h'.get? b = some u) (heo : ∃ u, h'.get? e = some u)
    (new : ObjOk P w (upd H x o') h' x o') : HOk P w (upd H x o') h' := fun b u q => by
  have nown : ∀ c y, H c = some (.own y) -> c ≠ x := fun c y r z => by subst z; rw [r] at mu; exact mu
  have ntup : ∀ c xs, H c = some (.tup xs) -> c ≠ x := fun c xs r z => by subst z; rw [r] at mu; exact mu
  by_cases hb : b = x
  . subst hb; rw [zf] at q; cases q; exact new
  . rw [zx hb] at q
    by_cases hbe : b = e
    . have q' : H b = some (.own x) := by
        rcases he with z | z
        . exact absurd (hbe.trans z) hb
        . rw [hbe]; exact z
      rw [q] at q'; cases q';obtain ⟨v, hv⟩ := heo;exact ⟨v, by rw [hbe]; exact hv⟩
    . refine (ok b u q).stay (fun c v hc r => k c v ?_ r) (fun c r => by rw [zx (nown c b r)]; exact r) fun c xs r => by rw [zx (ntup c xs r)]; exact r
      rcases hc with rfl | hc
      . exact hbe
      . rintro rfl
        rcases he with z | z
        . exact nown c b hc z
        . rw [hc] at z; cases z; exact hb rfl
end
structure Un (fs ex : List Addr) (H H' : Hp) (h h' : Heap) : Prop where
  keep : ∀ b o, h.get? b = some o -> H b = none -> b ∉ fs -> b ∉ ex -> h'.get? b = some o
  slot : ∀ b o, h.get? b = some o -> H b = none -> b ∈ fs -> b ∉ ex -> ∃ sl, h'.get? b = some { o with slots := sl }
  free : ∀ b o, h.get? b = some o -> H b = none -> b ∉ ex -> H' b = none
  there : ∀ b o, h.get? b = some o -> b ∉ ex -> ∃ o', h'.get? b = some o'
  tups : ∀ b xs, H b = some (.tup xs) -> H' b = some (.tup xs)
  frzs : ∀ b o u, H b = some (.frz o u) -> H' b = some (.frz o u)
  tbls : ∀ b ps, H b = some (.tbl ps) -> ∃ more, H' b = some (.tbl (ps ++ more))
section
variable {fs fs' ex ex' : List Addr} {H H1 H2 : Hp} {h h1 h2 h' : Heap} {a x e : Addr} {o : HO}
theorem Un.any (u : Un fs ex H H1 h h1) {b : Addr} {ob : Obj} (q : h.get? b = some ob) (n : H b = none) (hx : b ∉ ex) : ∃ sl, h1.get? b = some { ob with slots := sl } := by
  by_cases hb : b ∈ fs
  . exact u.slot b ob q n hb hx
  . exact ⟨ob.slots, u.keep b ob q n hb hx⟩
theorem Un.trans (a : Un fs ex H H1 h h1) (b : Un fs ex H1 H2 h1 h2) : Un fs ex H H2 h h2 where
  keep := fun c ob q n hc hx => b.keep c ob (a.keep c ob q n hc hx) (a.free c ob q n hx) hc hx
  slot := fun c ob q n hc hx => by
    obtain ⟨sl, e1⟩ := a.slot c ob q n hc hx;obtain ⟨sl', e2⟩ := b.slot c _ e1 (a.free c ob q n hx) hc hx;exact ⟨sl', e2⟩
  free := fun c ob q n hx => by
    obtain ⟨o', e1⟩ := a.there c ob q hx;exact b.free c o' e1 (a.free c ob q n hx) hx
  there := fun c ob q hx => by
    obtain ⟨o', e1⟩ := a.there c ob q hx;exact b.there c o' e1 hx
  tups := fun c xs q => b.tups c xs (a.tups c xs q)
  frzs := fun c ob xs q => b.frzs c ob xs (a.frzs c ob xs q)
  tbls := fun c ps q => by
    obtain ⟨m1, e1⟩ := a.tbls c ps q;obtain ⟨m2, e2⟩ := b.tbls c _ e1;exact ⟨m1 ++ m2, by rw [e2, Array.append_assoc]⟩
theorem Un.kept (k : ∀ b u, h.get? b = some u -> h'.get? b = some u) : Un fs ex H H h h' :=
  ⟨fun b ob q _ _ _ => k b ob q, fun b ob q _ _ _ => ⟨ob.slots, k b ob q⟩, fun _ _ _ n _ => n, fun b ob q _ => ⟨ob, k b ob q⟩, fun _ _ q => q, fun _ _ _ q => q, fun _ ps q => ⟨#[], by rw [q]; simp⟩⟩
theorem Un.refl : Un fs ex H H h h := Un.kept fun _ _ q => q
theorem Un.laid (k : ∀ b u, h.get? b = some u -> h'.get? b = some u) (hp : h.objs.size <= a) (hn : H a = none) : Un fs ex H (upd H a o) h h' where
  keep := fun b u q _ _ _ => k b u q
  slot := fun b u q _ _ _ => ⟨u.slots, k b u q⟩
  free := fun b u q n _ => by rw [zx (Zs (Zh (Heap.lt_size q) hp))]; exact n
  there := fun b u q _ => ⟨u, k b u q⟩
  tups := fun b xs q => by rw [zx (y8 q hn)]; exact q
  frzs := fun b u xs q => by rw [zx (y8 q hn)]; exact q
  tbls := fun b ps q => ⟨#[], by rw [zx (y8 q hn), q]; simp⟩
theorem Un.write (mu : Mut (H x)) (he : e = x \/ H e = some (.own x)) (k : ∀ b u, b ≠ e -> h.get? b = some u -> h'.get? b = some u) (heo : ∃ u, h'.get? e = some u) : Un fs ex H (upd H x o) h h' := by
  have hx : ∀ b, H b = none -> b ≠ x := fun b n z => by subst z; rw [n] at mu; exact mu
  have hb : ∀ b, H b = none -> b ≠ e := fun b n z => by
    subst z
    rcases he with r | r
    . exact hx b n r
    . rw [n] at r; cases r
  have hm : ∀ b u, H b = some u -> ¬ Mut (some u) -> b ≠ x := fun b u q nm z => by subst z; rw [q] at mu; exact nm mu
  refine ⟨fun b u q n _ _ => k b u (hb b n) q, fun b u q n _ _ => ⟨u.slots, k b u (hb b n) q⟩, fun b u q n _ => by rw [zx (hx b n)]; exact n, fun b u q _ => ?_,
    fun b xs q => by rw [zx (hm b _ q fun z => z)]; exact q, fun b u xs q => by rw [zx (hm b _ q fun z => z)]; exact q, fun b ps q => ⟨#[], by rw [zx (hm b _ q fun z => z), q]; simp⟩⟩
  by_cases hbe : b = e
  . subst hbe; exact heo
  . exact ⟨u, k b u hbe q⟩
theorem Un.mono (u : Un fs ex H H1 h h1) (hs : ∀ b ∈ fs, b ∈ fs') (hx : ∀ b ∈ ex, b ∈ ex') : Un fs' ex' H H1 h h1 :=
  ⟨fun b ob q n hb he => u.keep b ob q n (fun z => hb (hs b z)) fun z => he (hx b z), fun _ _ q n _ he => u.any q n fun z => he (hx _ z), fun b ob q n he => u.free b ob q n fun z => he (hx b z), fun b ob q he => u.there b ob q fun z => he (hx b z), u.tups, u.frzs, u.tbls⟩
end
def trk (h : Heap) (H : Hp) : List Addr := (List.range h.objs.size).filter fun a => (H a).isSome
def hidT (h : Heap) (H : Hp) : Heap := PySem.W.hideAll h (trk h H)
theorem zfm (h : Heap) (H : Hp) : (hidT h H).objs.size = h.objs.size := PySem.W.hideAll_size _ _
theorem zge {h : Heap} {H : Hp} {b : Addr} {o : Obj} (e : h.get? b = some o) (n : H b = none) : (hidT h H).get? b = some o :=
  PySem.W.hideAll_get _ e fun hm => by
    have q : (H b).isSome = true := (List.mem_filter.mp hm).2;rw [n] at q; simp at q
theorem zg1 {h : Heap} {H : Hp} {b : Addr} {o : Obj} (e : (hidT h H).get? b = some o) : h.get? b = some o /\ H b = none := by
  have e' : h.get? b = some o := PySem.W.of_hideAll (trk h H) e;refine ⟨e', ?_⟩
  cases q : H b with
  | none => rfl
  | some x =>
    have hm : b ∈ trk h H := List.mem_filter.mpr ⟨ZS.mpr (Heap.lt_size e'), by simp [q]⟩;have z : (hidT h H).get? b = none := PySem.W.hideAll_none (trk h H) hm;rw [z] at e; cases e
def zh6 (g h : Heap) (L : Addr) : List (Addr × Obj) := (List.range h.objs.size).filterMap fun a => if a = L \/ (g.get? a).isSome = true then none else (h.get? a).map fun o => (a, o)
def rest (g h : Heap) (L d : Addr) : List (Addr × Obj) := (zh6 g h L).filter fun p => decide (p.1 ≠ d)
end L2
namespace L2
open PySem PySem.Spec PyProof.Rows
structure Mod (K : Fg) (mg : Str -> Option Value) (base : Heap) : Prop where
  kin : K.In base
  glob : base.Ns mainGlobals mg
  blt : ∃ mb, base.Ns builtinsNs mb /\ ∀ x : Str, x ≠ "__name__" -> mb x = bootBuiltins x
  nolimit : base.NoLimit
structure Cx where
  prog : Program
  w : World
  K : Fg
  mg : Str -> Option Value
  base : Heap
  A : Around
  N : List Str
  s₀ : Shared
  H₀ : Hp
  env : Env
  outer : List Env
  stack : List Env
  ex : List Addr
  fn : Str -> Bool
  calm : Bool
  pn : List (Addr × Obj)
  xe : Value -> Shared -> Prop
def frs (l : List Env) : List Addr := l.filterMap (·.frame)
abbrev Cx.fs (X : Cx) : List Addr := frs X.outer
def Vis (sc : Scope) (x : Str) : Prop := sc.names.lookup x = some .local \/ sc.names.lookup x = some .cell \/ sc.names.lookup x = some .free
def Loc (sc : Scope) (x : Str) : Prop := sc.names.lookup x = some .local \/ sc.names.lookup x = some .cell
def Look (env : Env) (h : Heap) (m : Str -> Option Value) (x : Str) (u : Value) : Prop :=
  (env.kindOf x = some .local /\ m x = some u) \/ ((env.kindOf x = some .cell \/ env.kindOf x = some .free) /\ ∃ c, env.cells.lookup x = some c /\ h.IsCell c (some u))
structure Cx.Ok (X : Cx) : Prop where
  mod : Mod X.K X.mg X.base
  kind : X.env.scope.kind = .function
  glob : X.env.globals = mainGlobals
  blt : X.env.builtins = builtinsNs
  above : X.s₀.heap.objs.size <= X.env.locals
  inj : ∀ x y c, X.env.cells.lookup x = some c -> X.env.cells.lookup y = some c -> x = y
  has : ∀ x, (X.env.kindOf x = some .cell \/ X.env.kindOf x = some .free) -> ∃ c, X.env.cells.lookup x = some c
  cab : ∀ x c, X.fn x = true -> X.env.cells.lookup x = some c -> X.s₀.heap.objs.size <= c
  hd : X.calm = true -> X.A.handled = none
  frames : X.A.frames = some X.stack
  stk : X.stack = X.outer \/ (X.stack = X.env :: X.outer /\ X.env.frame = some X.env.locals)
  exf : ∀ b ∈ X.ex, b ≠ X.env.locals /\ ∀ x c, X.env.cells.lookup x = some c -> c ≠ b
  bs : ∀ b o, X.base.get? b = some o -> X.s₀.heap.get? b = some o /\ X.H₀ b = none
  bsz : X.base.objs.size <= X.s₀.heap.objs.size
  noex : ∀ b o, X.base.get? b = some o -> b ∉ X.ex
  exfs : ∀ b ∈ X.ex, b ∉ X.fs
  funs : X.s₀.heap.FunFrames X.base X.outer
  frf : ∀ b ∈ X.fs, X.H₀ b = none
structure Inv (X : Cx) (pins : List (Addr × Obj)) (σ : List (Option V)) (H : Hp) (s : Shared) : Prop where
  ok : X.Ok
  os : s.os = X.s₀.os
  bare : AllBare s.gens
  base : Un X.fs X.ex X.H₀ H X.s₀.heap s.heap
  loc : ∃ m, s.heap.Ns X.env.locals m /\ ∀ (i : Nat) (x : Str) (v : V), X.N[i]? = some x -> σ[i]? = some (some v) -> Vis X.env.scope x -> ∃ u, RelV v u /\ Look X.env s.heap m x u
  cell : ∀ x c, X.env.cells.lookup x = some c -> ∃ v, s.heap.IsCell c v
  free : H X.env.locals = none
  freeC : ∀ x c, X.env.cells.lookup x = some c -> H c = none
  pin : ∀ p ∈ X.pn ++ pins, s.heap.get? p.1 = some p.2 /\ H p.1 = none /\ p.1 ≠ X.env.locals /\ p.1 ∉ X.fs /\ ∀ v, p.2.data ≠ .cell v
  hok : HOk X.prog X.w H s.heap
  len : σ.length = X.N.length
section
variable {X : Cx} {pins : List (Addr × Obj)} {σ : List (Option V)} {H H' : Hp} {s : Shared} {h' : Heap}
theorem Cx.Ok.nofr (ok : X.Ok) {b : Addr} {o : Obj} (e : X.base.get? b = some o) : b ∉ X.fs := fun hb => by
  have := (ok.funs.mem hb).1;rw [e] at this; cases this
theorem Inv.bs (I : Inv X pins σ H s) : ∀ b o, X.base.get? b = some o -> s.heap.get? b = some o /\ H b = none := fun b o e =>
  ⟨I.base.keep b o (I.ok.bs b o e).1 (I.ok.bs b o e).2 (I.ok.nofr e) (I.ok.noex b o e), I.base.free b o (I.ok.bs b o e).1 (I.ok.bs b o e).2 (I.ok.noex b o e)⟩
theorem Inv.bk (I : Inv X pins σ H s) : ∀ b o, X.base.get? b = some o -> s.heap.get? b = some o := fun b o e => (I.bs b o e).1
theorem Inv.mod (I : Inv X pins σ H s) : Mod X.K X.mg X.base := I.ok.mod
theorem Inv.kIn (I : Inv X pins σ H s) : X.K.In s.heap := I.ok.mod.kin.keeps I.bk
theorem Inv.lt (I : Inv X pins σ H s) : X.env.locals < s.heap.objs.size := let ⟨_, hn, _⟩ := I.loc; hn.lt
theorem Inv.sz (I : Inv X pins σ H s) : X.s₀.heap.objs.size <= s.heap.objs.size := Zd I.ok.above (YM I.lt)
theorem Inv.nofs (I : Inv X pins σ H s) {a : Addr} (h : s.heap.objs.size <= a) : a ∉ X.fs := fun hb => by
  obtain ⟨_, o, ho, _⟩ := I.ok.funs.mem hb;exact absurd (Zh (Heap.lt_size ho) (Zd I.sz h)) (ZJ _)
theorem Inv.cne (I : Inv X pins σ H s) : ∀ x c, X.env.cells.lookup x = some c -> c ≠ X.env.locals := fun x c e z => by
  obtain ⟨v, o, ho, hd⟩ := I.cell x c e;obtain ⟨m, ⟨o', es, ep, ho', hd', _⟩, _⟩ := I.loc;rw [z, ho'] at ho; cases ho; rw [hd'] at hd; cases hd
theorem Inv.funs (I : Inv X pins σ H s) : s.heap.FunFrames X.base X.outer := by
  have all : ∀ (l : List Env), (∀ b ∈ frs l, b ∈ X.fs) -> X.s₀.heap.FunFrames X.base l -> s.heap.FunFrames X.base l := by
    intro l
    induction l with
    | nil => intro _ _; trivial
    | cons env r ih =>
      intro hs hl;obtain ⟨hk, ⟨L, o, hf, hn, ho, hd⟩, hr⟩ := hl;have hL : L ∈ X.fs := hs L (by unfold frs; rw [YF, hf]; exact ZA);obtain ⟨sl, e⟩ := I.base.slot L o ho (I.ok.frf L hL) hL fun z => I.ok.exfs L z hL
      exact ⟨hk, ⟨L, _, hf, hn, e, hd⟩, ih (fun b hb => hs b (by unfold frs; rw [YF, hf]; exact Zv _ hb)) hr⟩
  exact all X.outer (fun _ hb => hb) I.ok.funs
theorem Inv.stack (I : Inv X pins σ H s) : s.heap.FunFrames X.base X.stack := by
  rcases I.ok.stk with e | ⟨e, hf⟩
  . rw [e]; exact I.funs
  . rw [e]
    obtain ⟨m, hn, _⟩ := I.loc;refine .cons (by rw [I.ok.kind]; decide) hf hn ?_ I.funs;exact Heap.get?_none_of_le (Zd I.ok.bsz I.ok.above)
theorem Inv.stkSub (I : Inv X pins σ H s) : ∀ b ∈ frs X.stack, b ∈ X.env.locals :: X.fs := fun b hb => by
  rcases I.ok.stk with e | ⟨e, hf⟩
  . rw [e] at hb; exact Zv _ hb
  . rw [e] at hb
    unfold frs at hb;rw [YF, hf] at hb;exact hb
theorem Inv.stkFree (I : Inv X pins σ H s) : ∀ b ∈ frs X.stack, H b = none := fun b hb => by
  rcases ZK.mp (I.stkSub b hb) with e | hb
  . rw [e]; exact I.free
  . obtain ⟨_, o, ho, _⟩ := I.ok.funs.mem hb
    exact I.base.free b o ho (I.ok.frf b hb) fun z => I.ok.exfs b z hb
theorem Inv.step {g' : Array GenState} {t' : Nat} {d' : Drawn} {ch : List Addr} (I : Inv X pins σ H s)
    (hch : ∀ b ∈ ch, (b ∈ X.ex \/ X.s₀.heap.objs.size <= b) /\ b ≠ X.env.locals /\ (∀ x c, X.env.cells.lookup x = some c -> c ≠ b) /\ ∀ p ∈ X.pn ++ pins, p.1 ≠ b)
    (keep : ∀ b o, b ≠ X.env.locals -> b ∉ X.fs -> b ∉ ch -> s.heap.get? b = some o -> H b = none -> h'.get? b = some o)
    (slot : ∀ b o, b ≠ X.env.locals -> b ∈ X.fs -> b ∉ ch -> s.heap.get? b = some o -> H b = none -> ∃ sl, h'.get? b = some { o with slots := sl }) (free : ∀ b o, b ∉ ch -> s.heap.get? b = some o -> H b = none -> H' b = none)
    (there : ∀ b o, b ∉ ch -> s.heap.get? b = some o -> ∃ o', h'.get? b = some o')
    (tups : ∀ b xs, H b = some (.tup xs) -> H' b = some (.tup xs)) (frzs : ∀ b o u, H b = some (.frz o u) -> H' b = some (.frz o u)) (tbls : ∀ b ps, H b = some (.tbl ps) -> ∃ more, H' b = some (.tbl (ps ++ more)))
    (ns : ∀ m, s.heap.Ns X.env.locals m -> h'.Ns X.env.locals m) (hok : HOk X.prog X.w H' h') (hg : AllBare g') :
    Inv X pins σ H' { s with heap := h', gens := g', drawn := d', toks := t' } := by
  have neL : ∀ b o, X.s₀.heap.get? b = some o -> b ≠ X.env.locals := fun b o e => Zs (Zh (Heap.lt_size e) I.ok.above)
  have neC : ∀ b o, X.s₀.heap.get? b = some o -> b ∉ X.ex -> b ∉ ch := fun b o e hx hb => by
    rcases (hch b hb).1 with z | z
    . exact hx z
    . exact absurd (Zh (Heap.lt_size e) z) (ZJ _)
  have cellK : ∀ x c, X.env.cells.lookup x = some c -> ∀ v, s.heap.IsCell c v -> h'.IsCell c v := fun x c e v ⟨o, ho, hd⟩ => by
    have nch : c ∉ ch := fun z => (hch c z).2.2.1 x c e rfl
    by_cases hc : c ∈ X.fs
    . obtain ⟨sl, q⟩ := slot c o (I.cne x c e) hc nch ho (I.freeC x c e)
      exact ⟨_, q, hd⟩
    . exact ⟨o, keep c o (I.cne x c e) hc nch ho (I.freeC x c e), hd⟩
  refine ⟨I.ok, I.os, hg, ⟨fun b o e n hb hx => ?_, fun b o e n hb hx => ?_, fun b o e n hx => ?_, fun b o e hx => ?_, fun b xs e => tups b xs (I.base.tups b xs e), fun b o xs e => frzs b o xs (I.base.frzs b o xs e), fun b ps e => ?_⟩, ?_, fun x c e => ?_, ?_, fun x c e => ?_, fun p hp => ?_, hok, I.len⟩
  . exact keep b o (neL b o e) hb (neC b o e hx) (I.base.keep b o e n hb hx) (I.base.free b o e n hx)
  . obtain ⟨sl, e1⟩ := I.base.slot b o e n hb hx
    obtain ⟨sl', e2⟩ := slot b _ (neL b o e) hb (neC b o e hx) e1 (I.base.free b o e n hx);exact ⟨sl', e2⟩
  . obtain ⟨o', e1⟩ := I.base.there b o e hx
    exact free b o' (neC b o e hx) e1 (I.base.free b o e n hx)
  . obtain ⟨o', e1⟩ := I.base.there b o e hx
    exact there b o' (neC b o e hx) e1
  . obtain ⟨m1, e1⟩ := I.base.tbls b ps e
    obtain ⟨m2, e2⟩ := tbls b _ e1;exact ⟨m1 ++ m2, by rw [e2, Array.append_assoc]⟩
  . obtain ⟨m, hn, hl⟩ := I.loc
    refine ⟨m, ns m hn, fun i x v e1 e2 e3 => ?_⟩;obtain ⟨u, r, l⟩ := hl i x v e1 e2 e3;refine ⟨u, r, ?_⟩
    rcases l with l | ⟨k, c, e, z⟩
    . exact .inl l
    . exact .inr ⟨k, c, e, cellK x c e _ z⟩
  . obtain ⟨v, z⟩ := I.cell x c e
    exact ⟨v, cellK x c e v z⟩
  . obtain ⟨m, ⟨o, _, _, ho, _⟩, _⟩ := I.loc
    exact free _ o (fun z => (hch _ z).2.1 rfl) ho I.free
  . obtain ⟨v, o, ho, hd⟩ := I.cell x c e
    exact free c o (fun z => (hch c z).2.2.1 x c e rfl) ho (I.freeC x c e)
  . obtain ⟨e, n, ne, nf, d⟩ := I.pin p hp
    have nch : p.1 ∉ ch := fun z => (hch p.1 z).2.2.2 p hp rfl
    exact ⟨keep p.1 p.2 ne nf nch e n, free p.1 p.2 nch e n, ne, nf, d⟩
theorem Inv.un {t' : Nat} (I : Inv X pins σ H s) (u : Un X.fs [] H H' s.heap h') (hok : HOk X.prog X.w H' h') : Inv X pins σ H' { s with heap := h', toks := t' } := by
  obtain ⟨m, ⟨o, es, ep, ho, r⟩, _⟩ := id I.loc;obtain ⟨sl, hL⟩ := u.any ho I.free (by simp)
  exact I.step (g' := s.gens) (d' := s.drawn) (ch := []) (fun _ z => nomatch z) (fun b o _ hb _ e n => u.keep b o e n hb (by simp)) (fun b o _ hb _ e n => u.slot b o e n hb (by simp)) (fun b o _ e n => u.free b o e n (by simp)) (fun b o _ e => u.there b o e (by simp)) u.tups u.frzs u.tbls (fun m' hm => by
    obtain ⟨o', es', ep', ho', r'⟩ := hm;rw [ho] at ho'; cases ho'
    exact ⟨_, es', ep', hL, r'⟩) hok I.bare
theorem Inv.call {g' : Array GenState} {t' : Nat} {d' : Drawn} {ch : List Addr} (I : Inv X pins σ H s) (u : Un (frs X.stack) ch H H' s.heap h') (hok : HOk X.prog X.w H' h') (hg : AllBare g')
    (hch : ∀ b ∈ ch, (b ∈ X.ex \/ X.s₀.heap.objs.size <= b) /\ b ≠ X.env.locals /\ (∀ x c, X.env.cells.lookup x = some c -> c ≠ b) /\ ∀ p ∈ X.pn ++ pins, p.1 ≠ b) :
    Inv X pins σ H' { s with heap := h', gens := g', drawn := d', toks := t' } := by
  obtain ⟨m, ⟨o, es, ep, ho, r⟩, _⟩ := id I.loc;obtain ⟨sl, hL⟩ := u.any ho I.free fun z => (hch _ z).2.1 rfl
  exact I.step (ch := ch) hch (fun b o hL hb hc e n => u.keep b o e n (fun z => (ZK.mp (I.stkSub b z)).elim hL hb) hc) (fun b o _ _ hc e n => u.any e n hc) (fun b o hc e n => u.free b o e n hc) (fun b o hc e => u.there b o e hc) u.tups u.frzs u.tbls (fun m' hm => by
    obtain ⟨o', es', ep', ho', r'⟩ := hm;rw [ho] at ho'; cases ho'
    exact ⟨_, es', ep', hL, r'⟩) hok hg
theorem Inv.turned {t' : Nat} {it : Addr} (I : Inv X pins σ H s) (k : ∀ b o, b ≠ it -> s.heap.get? b = some o -> h'.get? b = some o) (hn : H it = none) (hL : it ≠ X.env.locals)
    (h1 : it ∈ X.ex \/ X.s₀.heap.objs.size <= it) (h2 : ∀ x c, X.env.cells.lookup x = some c -> c ≠ it) (h3 : ∀ p ∈ X.pn ++ pins, p.1 ≠ it) : Inv X pins σ H { s with heap := h', toks := t' } := by
  have nit : ∀ b u, H b = some u -> b ≠ it := fun b u e z => by rw [z, hn] at e; cases e
  refine I.step (g' := s.gens) (d' := s.drawn) (ch := [it]) (fun b hb => ?_) (fun b o _ _ hc e _ => k b o (fun z => hc (by simp [z])) e) (fun b o _ _ hc e _ => ⟨o.slots, k b o (fun z => hc (by simp [z])) e⟩) (fun _ _ _ _ n => n)
    (fun b o hc e => ⟨o, k b o (fun z => hc (by simp [z])) e⟩) (fun _ _ e => e) (fun _ _ _ e => e) (fun b ps e => ⟨#[], by rw [e]; simp⟩) (fun m hm => ?_) (fun b u e => ?_) I.bare
  . have e : b = it := by simpa using hb
    subst e;exact ⟨h1, hL, h2, h3⟩
  . obtain ⟨o, es, ep, ho, r⟩ := hm
    exact ⟨o, es, ep, k _ o (Ne.symm hL) ho, r⟩
  . refine (I.hok b u e).stay (fun c v hc q => k c v ?_ q) (fun _ q => q) fun _ _ q => q
    rcases hc with z | z
    . rw [z]; exact nit b u e
    . exact nit c _ z
theorem Inv.tok (I : Inv X pins σ H s) (t : Nat) : Inv X pins σ H { s with toks := t } := I.un (h' := s.heap) (t' := t) Un.refl I.hok
theorem Inv.kept {t' : Nat} (I : Inv X pins σ H s) (k : ∀ b u, s.heap.get? b = some u -> h'.get? b = some u) : Inv X pins σ H { s with heap := h', toks := t' } := I.un (Un.kept k) (I.hok.kept k)
theorem Inv.laid {a : Addr} {o : HO} {t' : Nat} (I : Inv X pins σ H s) (k : ∀ b u, s.heap.get? b = some u -> h'.get? b = some u) (hp : s.heap.objs.size <= a) (new : ObjOk X.prog X.w (upd H a o) h' a o) :
    Inv X pins σ (upd H a o) { s with heap := h', toks := t' } := I.un (Un.laid k hp (I.hok.fresh hp)) (I.hok.laid k hp new)
theorem Inv.write {x e : Addr} {o : HO} {t' : Nat} (I : Inv X pins σ H s) (mu : Mut (H x)) (he : e = x \/ H e = some (.own x)) (k : ∀ b u, b ≠ e -> s.heap.get? b = some u -> h'.get? b = some u) (heo : ∃ u, h'.get? e = some u)
    (new : ObjOk X.prog X.w (upd H x o) h' x o) : Inv X pins σ (upd H x o) { s with heap := h', toks := t' } := I.un (Un.write mu he k heo) (I.hok.write mu he k heo new)
theorem Inv.weak {σ' : List (Option V)} (I : Inv X pins σ H s) (hl : σ'.length = σ.length) (w : ∀ (i : Nat) v, σ'[i]? = some (some v) -> σ[i]? = some (some v)) : Inv X pins σ' H s :=
  ⟨I.ok, I.os, I.bare, I.base, let ⟨m, hn, hl'⟩ := I.loc; ⟨m, hn, fun i x v e1 e2 e3 => hl' i x v e1 (w i v e2) e3⟩, I.cell, I.free, I.freeC, I.pin, I.hok, hl.trans I.len⟩
theorem Inv.pins_of {pins' : List (Addr × Obj)} (I : Inv X pins σ H s) (h : ∀ p ∈ pins', s.heap.get? p.1 = some p.2 /\ H p.1 = none /\ p.1 ≠ X.env.locals /\ p.1 ∉ X.fs /\ ∀ v, p.2.data ≠ .cell v) : Inv X pins' σ H s :=
  ⟨I.ok, I.os, I.bare, I.base, I.loc, I.cell, I.free, I.freeC, fun p hp => (ZH.mp hp).elim (fun z => I.pin p (ZU _ z)) (h p), I.hok, I.len⟩
theorem af {N : List Str} (hN : N.Nodup) {i j : Nat} {x : Str} (a : N[i]? = some x) (b : N[j]? = some x) : i = j := by
  obtain ⟨h1, e1⟩ := Zc.mp a;obtain ⟨h2, e2⟩ := Zc.mp b;exact (Yv hN).mp (e1.trans e2.symm)
theorem cv {M : Model} {A : Around} {E : Value -> Shared -> Prop} {i : Nat} {x : Str} {v : V} {u : Value} {Q : Unit -> Shared -> Prop} (I : Inv X pins σ H s) (hN : X.N.Nodup) (hi : X.N[i]? = some x) (hx : Loc X.env.scope x) (r : RelV v u)
    (h : ∀ s', Inv X pins (σ.set i (some v)) H s' -> (∃ a, Heap.SameBut a s.heap s'.heap /\ (a = X.env.locals \/ X.env.cells.lookup x = some a)) -> Q () s') (hf : X.fn x = true \/ X.env.scope.names.lookup x = some .local := by first | exact .inl rfl | exact .inr rfl | assumption) : wpAny M A (storeName X.env x u) Q E s := by
  obtain ⟨m, hn, hl⟩ := id I.loc;have hcls : (X.env.scope.kind == .class || (X.env.scope.kind == .module && X.env.locals != X.env.globals)) = false := by rw [I.ok.kind]; rfl
  have hiσ : i < σ.length := by rw [I.len]; exact (Zc.mp hi).1
  have cne := I.cne
  have tracked : ∀ {a : Addr} {h' : Heap}, (∃ o, s.heap.get? a = some o /\ H a = none) -> Heap.SameBut a s.heap h' -> HOk X.prog X.w H h' := fun {a h'} ha hs b ob e => by
    obtain ⟨_, _, hfree⟩ := ha;refine (I.hok b ob e).stay (fun c w' hc q => (hs.2 c ?_).trans q) (fun _ q => q) fun _ _ q => q
    rintro rfl
    rcases hc with rfl | hc
    . rw [hfree] at e; cases e
    . rw [hfree] at hc; cases hc
  rcases hx with hk | hk
  . refine wpAny_storeName_local hk hn (fun h' hn' hs => ?_) hcls
    obtain ⟨oL, _, _, hoL, _⟩ := id hn;refine h _ ⟨I.ok, I.os, I.bare, ⟨fun b o e n hb hx => ?_, fun b o e n hb hx => ?_, I.base.free, fun b o e hx => ?_, I.base.tups, I.base.frzs, I.base.tbls⟩, ⟨_, hn', fun j y v' e1 e2 e3 => ?_⟩, fun y c e => ?_, I.free, I.freeC, fun p hp => ?_, tracked ⟨oL, hoL, I.free⟩ hs, by simpa using I.len⟩ ⟨_, hs, .inl rfl⟩
    . exact (hs.2 b (Zs (Zh (Heap.lt_size e) I.ok.above))).trans (I.base.keep b o e n hb hx)
    . obtain ⟨sl, e1⟩ := I.base.slot b o e n hb hx
      exact ⟨sl, (hs.2 b (Zs (Zh (Heap.lt_size e) I.ok.above))).trans e1⟩
    . obtain ⟨o', e1⟩ := I.base.there b o e hx
      exact ⟨o', (hs.2 b (Zs (Zh (Heap.lt_size e) I.ok.above))).trans e1⟩
    . by_cases hj : j = i
      . subst hj
        rw [hi] at e1; cases e1;rw [List.getElem?_set_self hiσ] at e2;cases e2;exact ⟨u, r, .inl ⟨hk, by simp⟩⟩
      . rw [List.getElem?_set_ne (Ne.symm hj)] at e2
        obtain ⟨u', r', q⟩ := hl j y v' e1 e2 e3;refine ⟨u', r', ?_⟩
        rcases q with ⟨k, e⟩ | ⟨k, c, e, z⟩
        . refine .inl ⟨k, ?_⟩
          have : y ≠ x := fun e => hj (af hN e1 (e ▸ hi))
          simp [this, e]
        . exact .inr ⟨k, c, e, z.sameBut hs (cne y c e)⟩
    . obtain ⟨w', z⟩ := I.cell y c e
      exact ⟨w', z.sameBut hs (cne y c e)⟩
    . obtain ⟨e, n, ne, nf, d⟩ := I.pin p hp
      exact ⟨(hs.2 p.1 ne).trans e, n, ne, nf, d⟩
  . have hfn : X.fn x = true := by
      rcases hf with z | z
      . exact z
      . rw [z] at hk; cases hk
    obtain ⟨c, hc⟩ := I.ok.has x (.inl hk);obtain ⟨w', z⟩ := I.cell x c hc;refine wpAny_storeName_cell I.ok.kind hk hc z (fun h' hc' hs => ?_);obtain ⟨oc, hoc, hocd⟩ := id z;refine h { s with heap := h' } ⟨I.ok, I.os, I.bare, ⟨fun b o e n hb hx => ?_, fun b o e n hb hx => ?_, I.base.free, fun b o e hx => ?_, I.base.tups, I.base.frzs, I.base.tbls⟩, ⟨m, hn.sameBut hs (Ne.symm (cne x c hc)), fun j y v' e1 e2 e3 => ?_⟩, fun y c' e => ?_, I.free, I.freeC, fun p hp => ?_, tracked ⟨oc, hoc, I.freeC x c hc⟩ hs, by simpa using I.len⟩ ⟨c, hs, .inr hc⟩
    . exact (hs.2 b (Zs (Zh (Heap.lt_size e) (I.ok.cab x c hfn hc)))).trans (I.base.keep b o e n hb hx)
    . obtain ⟨sl, e1⟩ := I.base.slot b o e n hb hx
      exact ⟨sl, (hs.2 b (Zs (Zh (Heap.lt_size e) (I.ok.cab x c hfn hc)))).trans e1⟩
    . obtain ⟨o', e1⟩ := I.base.there b o e hx
      exact ⟨o', (hs.2 b (Zs (Zh (Heap.lt_size e) (I.ok.cab x c hfn hc)))).trans e1⟩
    . by_cases hj : j = i
      . subst hj
        rw [hi] at e1; cases e1;rw [List.getElem?_set_self hiσ] at e2;cases e2;exact ⟨u, r, .inr ⟨.inl hk, c, hc, hc'⟩⟩
      . rw [List.getElem?_set_ne (Ne.symm hj)] at e2
        obtain ⟨u', r', q⟩ := hl j y v' e1 e2 e3;refine ⟨u', r', ?_⟩
        rcases q with q | ⟨k, c', e, z'⟩
        . exact .inl q
        . refine .inr ⟨k, c', e, z'.sameBut hs ?_⟩
          rintro rfl
          exact hj (af hN e1 (I.ok.inj _ _ _ e hc ▸ hi))
    . by_cases hcc : c' = c
      . subst hcc; exact ⟨_, hc'⟩
      . obtain ⟨w2, z2⟩ := I.cell y c' e
        exact ⟨w2, z2.sameBut hs hcc⟩
    . obtain ⟨e, n, ne, nf, d⟩ := I.pin p hp
      refine ⟨(hs.2 p.1 ?_).trans e, n, ne, nf, d⟩;intro q;rw [q, hoc] at e;have q' : oc = p.2 := Option.some.inj e;exact d w' (by rw [<- q']; exact hocd)
theorem zav {M : Model} {A : Around} {E : Value -> Shared -> Prop} {i : Nat} {x : Str} {v : V} {u : Value} {Q : Unit -> Shared -> Prop} (I : Inv X pins σ H s) (hN : X.N.Nodup) (hi : X.N[i]? = some x) (hx : Loc X.env.scope x) (r : RelV v u)
    (h : ∀ s', Inv X pins (σ.set i (some v)) H s' -> Q () s') (hf : X.fn x = true \/ X.env.scope.names.lookup x = some .local := by first | exact .inl rfl | exact .inr rfl | assumption) : wpAny M A (storeName X.env x u) Q E s :=
  cv I hN hi hx r (fun s' I' _ => h s' I') hf
theorem Inv.call' {s' : Shared} {ch : List Addr} (I : Inv X pins σ H s) (ho : s'.os = s.os) (u : Un (frs X.stack) ch H H' s.heap s'.heap) (hok : HOk X.prog X.w H' s'.heap) (hg : AllBare s'.gens)
    (hch : ∀ b ∈ ch, (b ∈ X.ex \/ X.s₀.heap.objs.size <= b) /\ b ≠ X.env.locals /\ (∀ x c, X.env.cells.lookup x = some c -> c ≠ b) /\ ∀ p ∈ X.pn ++ pins, p.1 ≠ b) : Inv X pins σ H' s' := by
  obtain ⟨h', g', d', t', o'⟩ := s';have e : o' = s.os := ho;subst e;exact I.call (g' := g') (t' := t') (d' := d') u hok hg hch
end
abbrev XK := Value -> Option Addr -> Hp -> Prop
abbrev St := List (Option V)
abbrev VK := V -> Hp -> Prop
abbrev TE := St -> Hp -> VK -> Prop
abbrev TT := St -> Hp -> (Bool -> Hp -> Prop) -> Prop
abbrev TA := St -> Hp -> (List V -> Hp -> Prop) -> Prop
structure Ends where
  nx : St -> Hp -> Prop
  rt : VK
  bk : St -> Hp -> Prop := fun _ _ => False
  ct : St -> Hp -> Prop := fun _ _ => False
abbrev TS := Ends -> St -> Hp -> Prop
def EP (X : Cx) (pins : List (Addr × Obj)) (σ : St) (Q : VK) (u : Value) (s' : Shared) : Prop := ∃ v H', Inv X pins σ H' s' /\ RelV v u /\ Q v H'
def TP (X : Cx) (pins : List (Addr × Obj)) (σ : St) (Q : Bool -> Hp -> Prop) (b : Bool) (s' : Shared) : Prop := ∃ H', Inv X pins σ H' s' /\ Q b H'
def AP (X : Cx) (pins : List (Addr × Obj)) (σ : St) (Q : List V -> Hp -> Prop) (us : List Value) (s' : Shared) : Prop := ∃ vs H', Inv X pins σ H' s' /\ Vals vs us /\ Q vs H'
def SP (X : Cx) (pins : List (Addr × Obj)) (D : Ends) (f : Flow) (s' : Shared) : Prop :=
  match f with
  | .next => ∃ σ' H', Inv X pins σ' H' s' /\ D.nx σ' H'
  | .brk => ∃ σ' H', Inv X pins σ' H' s' /\ D.bk σ' H'
  | .cont => ∃ σ' H', Inv X pins σ' H' s' /\ D.ct σ' H'
  | .ret u => ∃ v σ' H', Inv X pins σ' H' s' /\ RelV v u /\ D.rt v H'
def PE (X : Cx) (e : Expr) (t : TE) : Prop :=
  ∀ (pins : List (Addr × Obj)) (s : Shared) (σ : St) (H : Hp) (Q : VK), Inv X pins σ H s -> t σ H Q -> wpAny (model X.prog X.w) X.A (eval e X.env) (EP X pins σ Q) X.xe s
def PT (X : Cx) (e : Expr) (t : TT) : Prop :=
  ∀ (pins : List (Addr × Obj)) (s : Shared) (σ : St) (H : Hp) (Q : Bool -> Hp -> Prop), Inv X pins σ H s -> t σ H Q -> wpAny (model X.prog X.w) X.A (isTrue e X.env (eval e X.env)) (TP X pins σ Q) X.xe s
def PW (X : Cx) (e : Expr) (t : TT) : Prop :=
  ∀ (whole : Sem Value) (pins : List (Addr × Obj)) (s : Shared) (σ : St) (H : Hp) (Q : Bool -> Hp -> Prop), Inv X pins σ H s -> t σ H Q -> wpAny (model X.prog X.w) X.A (isTrue e X.env whole) (TP X pins σ Q) X.xe s
theorem PW.pt {X : Cx} {e : Expr} {t : TT} (h : PW X e t) : PT X e t := h _
def PA (X : Cx) (es : List Expr) (t : TA) : Prop :=
  ∀ (pos : Pos) (pins : List (Addr × Obj)) (s : Shared) (σ : St) (H : Hp) (Q : List V -> Hp -> Prop), Inv X pins σ H s -> t σ H Q -> wpAny (model X.prog X.w) X.A (spliced (backTo pos (starEach es X.env))) (AP X pins σ Q) X.xe s
def PS (X : Cx) (st : Stmt) (t : TS) : Prop :=
  ∀ (pins : List (Addr × Obj)) (s : Shared) (σ : St) (H : Hp) (D : Ends), Inv X pins σ H s -> t D σ H -> wpAny (model X.prog X.w) X.A (exec st X.env) (SP X pins D) X.xe s
def PSs (X : Cx) (st : List Stmt) (t : TS) : Prop :=
  ∀ (pins : List (Addr × Obj)) (s : Shared) (σ : St) (H : Hp) (D : Ends), Inv X pins σ H s -> t D σ H -> wpAny (model X.prog X.w) X.A (execs st X.env) (SP X pins D) X.xe s
theorem thn {α : Type} {t : Sem α} {Q Q' : α -> Shared -> Prop} {M : Model} {A : Around} {E : Value -> Shared -> Prop} {s : Shared} (h : wpAny M A t Q E s) (hQ : ∀ a s, Q a s -> Q' a s) : wpAny M A t Q' E s := wpAny_mono h hQ fun _ _ x => x
end L2
namespace L2
open PySem PySem.Spec PyProof.Rows
section
variable {X : Cx}
def tVar (i : Nat) : TE := fun σ H Q => ∃ v, σ[i]? = some (some v) /\ Q v H
def tC (v : V) : TE := fun _ H Q => Q v H
theorem pe_var {i : Nat} {x : Str} {pos : Pos} (hN : X.N[i]? = some x) (hv : Vis X.env.scope x) (hd : (x == ("__debug__" : Str)) = false := by decide) (hcd : (x == ("__classdict__" : Str)) = false := by decide) : PE X (.Name x pos) (tVar i) := by
  intro pins s σ H Q I h;obtain ⟨v, e, h⟩ := h;obtain ⟨m, hn, hl⟩ := I.loc;obtain ⟨u, r, l⟩ := hl i x v hN e hv;have fin : EP X pins σ Q u s := ⟨v, H, I, r, h⟩
  rcases l with ⟨hk, hm⟩ | ⟨hk, c, hc, hcell⟩
  . exact wpAny_Name (wpAny_loadName_local I.ok.kind hk hn hm fin) hd
  . rcases hk with hk | hk
    . exact wpAny_Name (wpAny_loadName_cell I.ok.kind hk hc hcell fin) hd
    . exact wpAny_Name (wpAny_loadName_free I.ok.kind hk hc hcell fin hcd) hd
theorem zj {i j pos} : PE X (.Constant (.int i) j pos) (tC (.int i)) := fun _ _ _ H _ I h => wpAny_Constant_int ⟨.int i, H, I.tok _, ⟨_, rfl⟩, h⟩
theorem vy {b j pos} : PE X (.Constant (.bool b) j pos) (tC (.bl b)) := fun _ _ _ H _ I h => Constant_bool ⟨.bl b, H, I, rfl, h⟩
theorem om {j pos} : PE X (.Constant .none j pos) (tC .non) := fun _ _ _ H _ I h => Constant_none ⟨.non, H, I, rfl, h⟩
theorem oq {x j pos} : PE X (.Constant (.str x) j pos) (tC (.str x)) := fun _ _ _ H _ I h => Calls.Constant_str ⟨.str x, H, I.tok _, ⟨_, rfl⟩, h⟩
def Gl (X : Cx) (x : Str) : Prop := X.env.kindOf x = some .globalImplicit
theorem j0 {E : Value -> Shared -> Prop} {pins : List (Addr × Obj)} {s : Shared} {σ : St} {H : Hp} {x : Str} {u : Value} {pos : Pos} {Q : Value -> Shared -> Prop} (I : Inv X pins σ H s) (hg : Gl X x) (hm : X.mg x = some u) (h : Q u s)
    (hd : (x == ("__debug__" : Str)) = false := by decide) : wpAny (model X.prog X.w) X.A (eval (.Name x pos) X.env) Q E s :=
  Calls.Name_function_global I.ok.kind hg (Calls.loadGlobal_global (by rw [I.ok.glob]; exact I.mod.glob.keeps I.bk) hm h) hd
theorem ud {E : Value -> Shared -> Prop} {pins : List (Addr × Obj)} {s : Shared} {σ : St} {H : Hp} {x : Str} {u : Value} {pos : Pos} {Q : Value -> Shared -> Prop} (I : Inv X pins σ H s) (hg : Gl X x) (hm : X.mg x = none) (hv : bootBuiltins x = some u) (h : Q u s)
    (hn : x ≠ "__name__" := by decide) (hd : (x == ("__debug__" : Str)) = false := by decide) : wpAny (model X.prog X.w) X.A (eval (.Name x pos) X.env) Q E s := by
  obtain ⟨mb, h1, h2⟩ := I.mod.blt;exact Calls.Name_function_global I.ok.kind hg (Calls.loadGlobal_builtin (by rw [I.ok.glob]; exact I.mod.glob.keeps I.bk) hm (by rw [I.ok.blt]; exact h1.keeps I.bk) ((h2 x hn).trans hv) h) hd
theorem zcu {x : Str} {v : V} {u : Value} {pos : Pos} (hg : Gl X x) (hm : X.mg x = some u) (r : RelV v u) (hd : (x == ("__debug__" : Str)) = false := by decide) : PE X (.Name x pos) (tC v) :=
  fun _ _ _ H _ I h => j0 I hg hm ⟨v, H, I, r, h⟩ hd
theorem zhu {x : Str} {v : V} {u : Value} {pos : Pos} (hg : Gl X x) (hm : X.mg x = none) (hv : bootBuiltins x = some u) (r : RelV v u) (hn : x ≠ "__name__" := by decide) (hd : (x == ("__debug__" : Str)) = false := by decide) : PE X (.Name x pos) (tC v) :=
  fun _ _ _ H _ I h => ud I hg hm hv ⟨v, H, I, r, h⟩ hn hd
variable {a b : Expr} {ta tb : TE} {pos : Pos}
def tB (t : TE) : TT := fun σ H Q => t σ H fun x H1 => ∃ c, x = .bl c /\ Q c H1
theorem w4 {e : Expr} {t : TE} (h : PE X e t) (he : ∀ whole, isTrue e X.env whole = (do let v <- whole; standAt e.pos; holding [v] (truthy v)) := by intro _; rfl) : PT X e (tB t) := by
  intro pins s σ H Q I hw;refine isTrue_plain (thn (h pins s σ H _ I hw) fun v s1 ⟨x, H1, I1, r1, q1⟩ => ?_) (he _);obtain ⟨d, rfl, q⟩ := q1;cases r1;exact wpAny_truthy_bool ⟨H1, I1, q⟩
variable {tA tB' : TT} {rest : List Expr}
def tAnd (t u : TT) : TT := fun σ H Q => t σ H fun c H1 => if c = true then u σ H1 Q else Q false H1
def tOr (t u : TT) : TT := fun σ H Q => t σ H fun c H1 => if c = true then Q true H1 else u σ H1 Q
def tNot (t : TT) : TT := fun σ H Q => t σ H fun c H1 => Q (!c) H1
theorem zhy (ha : PT X a tA) : PW X (.BoolOp .And [a] pos) tA := by
  intro wh pins s σ H Q I h;refine isTrue_and (thn (ha pins s σ H Q I h) fun c s1 e => ?_)
  cases c with
  | true => exact isTrue_and_nil e
  | false => exact e
theorem qm (ha : PT X a tA) : PW X (.BoolOp .Or [a] pos) tA := by
  intro wh pins s σ H Q I h;refine isTrue_or (thn (ha pins s σ H Q I h) fun c s1 e => ?_)
  cases c with
  | false => exact isTrue_or_nil e
  | true => exact e
theorem pw_and (ha : PT X a tA) (hb : PW X (.BoolOp .And (b :: rest) pos) tB') : PW X (.BoolOp .And (a :: b :: rest) pos) (tAnd tA tB') := by
  intro wh pins s σ H Q I h;refine isTrue_and (thn (ha pins s σ H _ I h) fun c s1 ⟨H1, I1, q1⟩ => ?_)
  cases c with
  | true => exact hb wh pins s1 σ H1 Q I1 q1
  | false => exact ⟨H1, I1, q1⟩
theorem n0 (ha : PT X a tA) (hb : PW X (.BoolOp .Or (b :: rest) pos) tB') : PW X (.BoolOp .Or (a :: b :: rest) pos) (tOr tA tB') := by
  intro wh pins s σ H Q I h;refine isTrue_or (thn (ha pins s σ H _ I h) fun c s1 ⟨H1, I1, q1⟩ => ?_)
  cases c with
  | true => exact ⟨H1, I1, q1⟩
  | false => exact hb wh pins s1 σ H1 Q I1 q1
theorem wg (ha : PT X a tA) : PT X (.UnaryOp .Not a pos) (tNot tA) := by
  intro pins s σ H Q I h;exact isTrue_not (ha pins s σ H (fun c H1 => Q (!c) H1) I h)
def tAndV (ta tb : TE) : TE := fun σ H Q => ta σ H fun x H1 => ∃ c, x = .bl c /\ if c = true then tb σ H1 Q else Q (.bl false) H1
def tOrV (ta tb : TE) : TE := fun σ H Q => ta σ H fun x H1 => ∃ c, x = .bl c /\ if c = true then Q (.bl true) H1 else tb σ H1 Q
def tNotV (ta : TE) : TE := fun σ H Q => ta σ H fun x H1 => ∃ c, x = .bl c /\ Q (.bl (!c)) H1
theorem lj {op} {t : TE} (h : PE X a t) : PE X (.BoolOp op [a] pos) t := fun pins s σ H Q I hw => BoolOp_one (h pins s σ H Q I hw)
theorem oy (ha : PE X a ta) (hb : PE X (.BoolOp .And (b :: rest) pos) tb) : PE X (.BoolOp .And (a :: b :: rest) pos) (tAndV ta tb) := by
  intro pins s σ H Q I h;refine BoolOp_and (thn (ha pins s σ H _ I h) fun v s1 ⟨x, H1, I1, r1, q1⟩ => ?_);obtain ⟨c, rfl, q1⟩ := q1;cases r1;refine wpAny_truthy_bool ?_
  cases c with
  | true => exact hb pins s1 σ H1 Q I1 q1
  | false => exact ⟨.bl false, H1, I1, rfl, q1⟩
theorem pe_not (ha : PE X a ta) : PE X (.UnaryOp .Not a pos) (tNotV ta) := by
  intro pins s σ H Q I h;refine UnaryOp_ (thn (ha pins s σ H _ I h) fun v s1 ⟨x, H1, I1, r1, q1⟩ => ?_);obtain ⟨c, rfl, q1⟩ := q1;cases r1;exact not_of (wpAny_truthy_bool ⟨.bl (!c), H1, I1, rfl, q1⟩)
def tIf (t : TT) (ta tb : TE) : TE := fun σ H Q => t σ H fun c H1 => if c = true then ta σ H1 Q else tb σ H1 Q
theorem zgc {c : Expr} (hc : PT X c tA) (ha : PE X a ta) (hb : PE X b tb) : PE X (.IfExp c a b pos) (tIf tA ta tb) := by
  intro pins s σ H Q I h;refine wpAny_IfExp (thn (hc pins s σ H _ I h) fun d s1 ⟨H1, I1, q1⟩ => ?_)
  cases d with
  | true => exact ha pins s1 σ H1 Q I1 q1
  | false => exact hb pins s1 σ H1 Q I1 q1
end
end L2
namespace L2
open PySem PySem.Spec PyProof.Rows
def SqL (K : Fg) (H : Hp) (a : Addr) (xs : List V) : Prop :=
  Rd H a (.lst xs) \/
    ∃ (o : Obj) (its : Array Value) (n : Nat), K.lookup a = some o /\ o.cls = .type "list" /\ o.dict = none /\ o.data = .seq its n /\ its.size <= sizeLine /\ Vals xs its.toList
def SqT (K : Fg) (H : Hp) (a : Addr) (xs : List V) : Prop :=
  Rd H a (.tup xs) \/
    ∃ (o : Obj) (its : Array Value) (n : Nat), K.lookup a = some o /\ o.cls = .type "tuple" /\ o.data = .seq its n /\ its.size <= sizeLine /\ Vals xs its.toList
def absV : Value -> Option V
  | .none => some .non
  | .bool b => some (.bl b)
  | .int i _ => some (.int i)
  | .str x _ => some (.str x)
  | .bytes b _ => some (.byt b)
  | .float b _ => some (.flt b)
  | .ref a => some (.ref a)
  | .type n => some (.ty n)
  | _ => none
theorem RelV.abs {x : V} {u : Value} (r : RelV x u) : absV u = some x := by
  cases x with
  | non => cases r; rfl
  | bl _ => cases r; rfl
  | int _ => obtain ⟨t, rfl⟩ := r; rfl
  | str _ => obtain ⟨t, rfl⟩ := r; rfl
  | byt _ => obtain ⟨t, rfl⟩ := r; rfl
  | flt _ => obtain ⟨t, rfl⟩ := r; rfl
  | ref _ => cases r; rfl
  | ty _ => cases r; rfl
theorem RelV.inj {x y : V} {u : Value} (r : RelV x u) (q : RelV y u) : x = y := Option.some.inj (r.abs.symm.trans q.abs)
theorem Vals.inj : ∀ {xs ys : List V} {us : List Value}, Vals xs us -> Vals ys us -> xs = ys
  | _, _, _, .nil, .nil => rfl
  | _, _, _, .cons r t, .cons r' t' => by rw [r.inj r', Vals.inj t t']
section
variable {X : Cx} {pins : List (Addr × Obj)} {σ : St} {H : Hp} {s : Shared} {a : Addr} {xs ys : List V}
theorem SqL.of {K : Fg} (h : H a = some (.lst xs)) : SqL K H a xs := .inl (.inl h)
theorem SqT.of {K : Fg} (h : H a = some (.tup xs)) : SqT K H a xs := .inl (.inl h)
theorem Inv.list (I : Inv X pins σ H s) (h : SqL X.K H a xs) : ∃ its : List Value, Vals xs its /\ PlainL s.heap a its.toArray /\ xs.length <= sizeLine := by
  rcases h with h | ⟨o, its, n, hk, hc, hd, hs, hz, r⟩
  . obtain ⟨z, its, n, r, e⟩ := h.ok I.hok
    exact ⟨its, r, ⟨_, n, e, rfl, rfl, rfl⟩, z⟩
  . refine ⟨its.toList, r, ⟨o, n, I.kIn a o hk, hc, hd, by simpa using hs⟩, ?_⟩
    have e := r.length;simp only [ZM] at e;omega
theorem Inv.tuple (I : Inv X pins σ H s) (h : SqT X.K H a xs) : ∃ its : List Value, Vals xs its /\ IsTup s.heap a its.toArray /\ xs.length <= sizeLine := by
  rcases h with h | ⟨o, its, n, hk, hc, hs, hz, r⟩
  . obtain ⟨z, its, r, p⟩ := h.ok I.hok
    exact ⟨its, r, p.tup, z⟩
  . refine ⟨its.toList, r, ⟨o, I.kIn a o hk, hc, n, by simpa using hs⟩, ?_⟩
    have e := r.length;simp only [ZM] at e;omega
theorem Inv.list_inj (I : Inv X pins σ H s) (h : SqL X.K H a xs) (h' : SqL X.K H a ys) : xs = ys := by
  obtain ⟨its, r, ⟨o, n, e, _, _, d⟩, _⟩ := I.list h;obtain ⟨its', r', ⟨o', n', e', _, _, d'⟩, _⟩ := I.list h';rw [e] at e'; cases e';rw [d] at d'
  injection d' with d1 _
  have : its = its' := by simpa using congrArg Array.toList d1
  subst this;exact r.inj r'
theorem Inv.tuple_inj (I : Inv X pins σ H s) (h : SqT X.K H a xs) (h' : SqT X.K H a ys) : xs = ys := by
  obtain ⟨its, r, ⟨o, e, _, n, d⟩, _⟩ := I.tuple h;obtain ⟨its', r', ⟨o', e', _, n', d'⟩, _⟩ := I.tuple h';rw [e] at e'; cases e';rw [d] at d'
  injection d' with d1 _
  have : its = its' := by simpa using congrArg Array.toList d1
  subst this;exact r.inj r'
end
abbrev Cx.wish (X : Cx) (E : Value -> Shared -> Prop) : Cx := { X with xe := E }
abbrev Cx.nox (X : Cx) : Cx := X.wish fun _ _ => False
theorem Cx.Ok.wish {X : Cx} (ok : X.Ok) (E : Value -> Shared -> Prop) : (X.wish E).Ok :=
  ⟨ok.mod, ok.kind, ok.glob, ok.blt, ok.above, ok.inj, ok.has, ok.cab, ok.hd, ok.frames, ok.stk, ok.exf, ok.bs, ok.bsz, ok.noex, ok.exfs, ok.funs, ok.frf⟩
theorem Cx.Ok.unwish {X : Cx} {E : Value -> Shared -> Prop} (ok : (X.wish E).Ok) : X.Ok :=
  ⟨ok.mod, ok.kind, ok.glob, ok.blt, ok.above, ok.inj, ok.has, ok.cab, ok.hd, ok.frames, ok.stk, ok.exf, ok.bs, ok.bsz, ok.noex, ok.exfs, ok.funs, ok.frf⟩
section
variable {X : Cx} {pins : List (Addr × Obj)} {σ : St} {H : Hp} {s : Shared} {E : Value -> Shared -> Prop}
theorem Inv.wish (I : Inv X pins σ H s) (E : Value -> Shared -> Prop) : Inv (X.wish E) pins σ H s := ⟨I.ok.wish E, I.os, I.bare, I.base, I.loc, I.cell, I.free, I.freeC, I.pin, I.hok, I.len⟩
theorem Inv.unwish (I : Inv (X.wish E) pins σ H s) : Inv X pins σ H s := ⟨I.ok.unwish, I.os, I.bare, I.base, I.loc, I.cell, I.free, I.freeC, I.pin, I.hok, I.len⟩
theorem SP.unwish {D : Ends} {f : Flow} {s' : Shared} (h : SP (X.wish E) pins D f s') : SP X pins D f s' := by
  cases f with
  | next => obtain ⟨σ', H', I, q⟩ := h; exact ⟨σ', H', I.unwish, q⟩
  | brk => obtain ⟨σ', H', I, q⟩ := h; exact ⟨σ', H', I.unwish, q⟩
  | cont => obtain ⟨σ', H', I, q⟩ := h; exact ⟨σ', H', I.unwish, q⟩
  | ret u => obtain ⟨v, σ', H', I, r, q⟩ := h; exact ⟨v, σ', H', I.unwish, r, q⟩
theorem PSs.nox {st : List Stmt} {t : TS} (h : PSs X.nox st t) : PSs X st t := fun pins s σ H D I hw =>
  wpAny_mono (h pins s σ H D (I.wish _) hw) (fun _ _ q => q.unwish) fun _ _ z => False.elim z
end
section
variable {X : Cx} {st : Stmt} {rest : List Stmt} {t u : TS} {e : Expr} {te : TE} {pos : Pos}
def tNext : TS := fun D σ H => D.nx σ H
def tSeq (t u : TS) : TS := fun D σ H => t { D with nx := u D } σ H
theorem yi : PSs X [] tNext := fun _ _ σ H _ I h => wpAny_execs_nil ⟨σ, H, I, h⟩
theorem zk (h1 : PS X st t) (h2 : PSs X rest u) : PSs X (st :: rest) (tSeq t u) := by
  intro pins s σ H D I h;refine wpAny_execs_cons (thn (h1 pins s σ H { D with nx := u D } I h) fun f s1 q => ?_)
  cases f with
  | next =>
    obtain ⟨σ', H', I', q⟩ := q;exact h2 pins s1 σ' H' D I' q
  | ret v => exact q
  | brk => exact q
  | cont => exact q
theorem zh (h1 : PS X st t) : PSs X [st] t := by
  intro pins s σ H D I h;refine wpAny_execs_cons (thn (h1 pins s σ H D I h) fun f s1 q => ?_)
  cases f with
  | next => exact wpAny_execs_nil q
  | ret v => exact q
  | brk => exact q
  | cont => exact q
def tBreak : TS := fun D σ H => D.bk σ H
def tCont : TS := fun D σ H => D.ct σ H
theorem Inv.quiet {pins : List (Addr × Obj)} {σ : St} {H : Hp} {s : Shared} (I : Inv X pins σ H s) : interactive X.env = false := by simp [interactive, I.ok.kind]
def tDrop (te : TE) : TS := fun D σ H => te σ H fun _ H1 => D.nx σ H1
theorem rf (he : PE X e te) (hs : swapsWith e none pos.line X.env = pure false := by rfl) : PS X (.Expr e pos) (tDrop te) := by
  intro pins s σ H D I h;exact wpAny_Expr_any (thn (he pins s σ H _ I h) fun v s1 ⟨x, H1, I1, r1, q1⟩ => ⟨σ, H1, I1, q1⟩) I.quiet hs
def tRet (te : TE) : TS := fun D σ H => te σ H D.rt
theorem zm (he : PE X e te) : PS X (.Return (some e) pos) (tRet te) := by
  intro pins s σ H D I h;exact wpAny_Return_some (thn (he pins s σ H _ I h) fun v s1 ⟨x, H1, I1, r1, q1⟩ => ⟨x, σ, H1, I1, r1, q1⟩)
def tRetN : TS := fun D _ H => D.rt .non H
def tIfS (c : TT) (t u : TS) : TS := fun D σ H => c σ H fun b H1 => if b = true then t D σ H1 else u D σ H1
theorem xl {c : Expr} {a b : List Stmt} {tc : TT} (hc : PT X c tc) (ha : PSs X a t) (hb : PSs X b u) : PS X (.If c a b pos) (tIfS tc t u) := by
  intro pins s σ H D I h;refine wpAny_If (thn (hc pins s σ H _ I h) fun d s1 ⟨H1, I1, q1⟩ => ?_)
  cases d with
  | true => exact ha pins s1 σ H1 D I1 q1
  | false => exact hb pins s1 σ H1 D I1 q1
end
abbrev TG := V -> St -> Hp -> (St -> Hp -> Prop) -> Prop
abbrev TGs := List V -> St -> Hp -> (St -> Hp -> Prop) -> Prop
def PG (X : Cx) (target : Expr) (t : TG) : Prop :=
  ∀ (pins : List (Addr × Obj)) (s : Shared) (σ : St) (H : Hp) (v : V) (u : Value) (Q : St -> Hp -> Prop), Inv X pins σ H s -> RelV v u -> t v σ H Q ->
    wpAny (model X.prog X.w) X.A (assign target X.env u) (fun _ s' => ∃ σ' H', Inv X pins σ' H' s' /\ Q σ' H') X.xe s
def PGs (X : Cx) (ts : List Expr) (t : TGs) : Prop :=
  ∀ (pins : List (Addr × Obj)) (s : Shared) (σ : St) (H : Hp) (vs : List V) (us : List Value) (Q : St -> Hp -> Prop), Inv X pins σ H s -> Vals vs us -> t vs σ H Q ->
    wpAny (model X.prog X.w) X.A (assignInOrder ((assignEach ts X.env).map (·.2)) us) (fun _ s' => ∃ σ' H', Inv X pins σ' H' s' /\ Q σ' H') X.xe s
abbrev TSet := V -> V -> V -> Hp -> (Hp -> Prop) -> Prop
abbrev TIp := V -> V -> Hp -> VK -> Prop
section
variable {X : Cx} {pos : Pos}
def zc2 (i : Nat) : TG := fun v σ H Q => Q (σ.set i (some v)) H
theorem zl {i : Nat} {x : Str} (hN : X.N.Nodup) (hi : X.N[i]? = some x) (hx : Loc X.env.scope x) (hf : X.fn x = true \/ X.env.scope.names.lookup x = some .local := by first | exact .inl rfl | exact .inr rfl | assumption) : PG X (.Name x pos) (zc2 i) := by
  intro pins s σ H v u Q I r h;exact wpAny_assign_Name (zav I hN hi hx r (fun s' I' => ⟨_, H, I', h⟩) hf)
def gNil : TGs := fun vs σ H Q => vs = [] /\ Q σ H
def gCons (t : TG) (u : TGs) : TGs := fun vs σ H Q => ∃ v r, vs = v :: r /\ t v σ H fun σ' H' => u r σ' H' Q
theorem t6 : PGs X [] gNil := by
  intro pins s σ H vs us Q I r h;obtain ⟨e, h⟩ := h;subst e;cases r;exact assignInOrder_nil ⟨σ, H, I, h⟩
theorem y6 {e : Expr} {es : List Expr} {t : TG} {u : TGs} (h1 : PG X e t) (h2 : PGs X es u)
    (hs : (assignEach (e :: es) X.env).map (·.2) = assign e X.env :: (assignEach es X.env).map (·.2) := by rfl) : PGs X (e :: es) (gCons t u) := by
  intro pins s σ H vs us Q I r h;obtain ⟨v, vr, e1, h⟩ := h;subst e1
  cases r with
  | cons r rr =>
    rw [hs];refine assignInOrder_cons (thn (h1 pins s σ H _ _ _ I r h) fun _ s1 ⟨σ1, H1, I1, q1⟩ => ?_);exact h2 pins s1 σ1 H1 _ _ Q I1 rr q1
def gTup (K : Fg) (n : Nat) (t : TGs) : TG := fun v σ H Q => ∃ a xs, v = .ref a /\ SqT K H a xs /\ xs.length = n /\ t xs σ H Q
theorem qo {es : List Expr} {k : Nat} {t : TGs} {n : Nat} (hc : X.calm = true) (h : PGs X es t)
    (hn : (assignEach es X.env).length = n := by rfl) (hst : (assignEach es X.env).findIdx? (·.1) = none := by rfl) : PG X (.Tuple es k pos) (gTup X.K n t) := by
  intro pins s σ H v u Q I r hw;obtain ⟨a, xs, e1, hq, hl, hw⟩ := hw;subst e1;cases r;obtain ⟨its, rv, ht, hz⟩ := I.tuple hq;refine assign_Tuple_tuple (I.ok.hd hc) ht (by simp [hn, <- hl, rv.length]) hst fun h' hx => ?_
  have I1 : Inv X pins σ H { s with heap := h' } := I.kept (t' := s.toks) fun b o e => hx b o (Zs (Heap.lt_size e)) e
  exact h pins _ σ H xs _ Q I1 (by simpa using rv) hw
def gSub (to ti : TE) (t : TSet) : TG := fun v σ H Q => to σ H fun o H1 => ti σ H1 fun i H2 => t o i v H2 fun H3 => Q σ H3
def tAsg (te : TE) (g : TG) : TS := fun D σ H => te σ H fun x H1 => g x σ H1 D.nx
theorem z8 {i : Nat} {x : Str} {e : Expr} {te : TE} {pos' : Pos} (hN : X.N.Nodup) (hi : X.N[i]? = some x) (hx : Loc X.env.scope x) (he : PE X e te) (hs : swapsWith e (some (.Name x pos')) pos.line X.env = pure false := by rfl) (hf : X.fn x = true \/ X.env.scope.names.lookup x = some .local := by first | exact .inl rfl | exact .inr rfl | assumption) :
    PS X (.Assign [.Name x pos'] e pos) (tAsg te (zc2 i)) := by
  intro pins s σ H D I h;refine wpAny_Assign_Name (thn (he pins s σ H _ I h) fun v s1 ⟨y, H1, I1, r1, q1⟩ => ?_) hs;exact zav I1 hN hi hx r1 (fun s2 I2 => ⟨_, H1, I2, q1⟩) hf
def tAugS (to ti te : TE) (tget : V -> V -> Hp -> VK -> Prop) (tip : TIp) (tset : TSet) : TS := fun D σ H => to σ H fun o H1 => ti σ H1 fun i H2 => tget o i H2 fun x H3 => te σ H3 fun y H4 => tip x y H4 fun z H5 => tset o i z H5 fun H6 => D.nx σ H6
def ipI (f : Int -> Int -> Int) : TIp := fun x y H Q => ∃ i j, x = .int i /\ y = .int j /\ Q (.int (f i j)) H
end
section
variable {X : Cx} {pos : Pos}
def tWhile (c : TT) (tb : TS) : TS := fun D σ H => ∃ W : Nat -> St -> Hp -> Prop, (∃ m, W m σ H) /\ ∀ m σ H, W m σ H ->
  c σ H fun b H1 => if b = true then ∃ N : St -> Hp -> Prop, (∀ σ' H', N σ' H' -> ∃ m', m' < m /\ W m' σ' H') /\ tb { D with nx := N, ct := N, bk := D.nx } σ H1 else D.nx σ H1
end
structure It where
  go : Nat -> Hp -> Prop
  yld : Nat -> Hp -> V -> Hp -> Prop
  stop : Nat -> Hp -> Prop
def FpOk (X : Cx) (pins : List (Addr × Obj)) (H : Hp) (b : Addr) : Prop :=
  H b = none /\ b ≠ X.env.locals /\ b ∉ X.fs /\ (b ∈ X.ex \/ X.s₀.heap.objs.size <= b) /\ (∀ x c, X.env.cells.lookup x = some c -> c ≠ b) /\ ∀ p ∈ X.pn ++ pins, p.1 ≠ b
theorem Inv.fpOk {X : Cx} {pins : List (Addr × Obj)} {σ : St} {H H' : Hp} {s : Shared} {b : Addr} (I : Inv X pins σ H s) (hb : s.heap.objs.size <= b) (hn : H' b = none) : FpOk X pins H' b := by
  refine ⟨hn, ZR (Zh I.lt hb), I.nofs hb, .inr (Zd I.sz hb), fun x c e z => ?_, fun p hp z => ?_⟩
  . obtain ⟨v, q⟩ := I.cell x c e
    exact absurd (Zh q.lt (by rw [z]; exact hb)) (ZJ _)
  . exact absurd (Zh (Heap.lt_size (I.pin p hp).1) (by rw [z]; exact hb)) (ZJ _)
structure Turn (P : Program) (w : World) (K : Fg) (tg : Expr) (J : It) (fp : List Addr) (it : Addr) (tn : Nat -> Heap -> Prop) : Prop where
  mem : it ∈ fp
  obj : ∀ i h, tn i h -> ∀ b ∈ fp, ∃ o, h.get? b = some o /\ ∀ v, o.data ≠ .cell v
  keep : ∀ i h h', tn i h -> (∀ b ∈ fp, ∀ o, h.get? b = some o -> h'.get? b = some o) -> tn i h'
  item : ∀ (X : Cx), X.prog = P -> X.w = w -> X.K = K -> X.calm = true -> ∀ (i : Nat) (pins : List (Addr × Obj)) (s : Shared) (σ : St) (H : Hp) (E : Value -> Shared -> Prop), Inv X pins σ H s -> (∀ b ∈ fp, FpOk X pins H b) -> tn i s.heap -> J.go i H ->
    wpAny (model P w) X.A (pyNext (.ref it)) (fun r s1 => ∃ u, r = some u /\
      wpAny (model P w) X.A (letOwnedTupleGo tg (.ref it) u) (fun _ s2 => ∃ x H', Inv X pins σ H' s2 /\ RelV x u /\ J.yld i H x H' /\ tn (i + 1) s2.heap /\ ∀ b ∈ fp, H' b = none) E s1) E s
  done : ∀ (X : Cx), X.prog = P -> X.w = w -> X.K = K -> X.calm = true -> ∀ (i : Nat) (pins : List (Addr × Obj)) (s : Shared) (σ : St) (H : Hp) (E : Value -> Shared -> Prop), Inv X pins σ H s -> (∀ b ∈ fp, FpOk X pins H b) -> tn i s.heap -> J.stop i H ->
    wpAny (model P w) X.A (pyNext (.ref it)) (fun r s1 => r = none /\ Inv X pins σ H s1) E s
  self : ∀ (A : Around) (i : Nat) (s : Shared) (Q : Value -> Shared -> Prop) (E : Value -> Shared -> Prop), tn i s.heap -> Q (.ref it) s -> wpAny (model P w) A (pyIter (.ref it)) Q E s
abbrev TI := St -> Hp -> (It -> Hp -> Prop) -> Prop
def PIE (X : Cx) (pins : List (Addr × Obj)) (σ : St) (tg : Expr) (R : It -> Hp -> Prop) (itv : Value) (s2 : Shared) : Prop :=
  ∃ (it : Addr) (fp : List Addr) (tn : Nat -> Heap -> Prop) (J : It) (H' : Hp), itv = .ref it /\ Inv X pins σ H' s2 /\ Turn X.prog X.w X.K tg J fp it tn /\ tn 0 s2.heap /\ (∀ b ∈ fp, FpOk X pins H' b) /\ R J H'
def PI (X : Cx) (tg iter : Expr) (wi : TI) : Prop :=
  ∀ (pins : List (Addr × Obj)) (s : Shared) (σ : St) (H : Hp) (R : It -> Hp -> Prop), Inv X pins σ H s -> wi σ H R ->
    wpAny (model X.prog X.w) X.A (eval iter X.env) (fun v s1 => wpAny (model X.prog X.w) X.A (pyIter v) (PIE X pins σ tg R) X.xe s1) X.xe s
theorem fh {M : Model} {A : Around} {E : Value -> Shared -> Prop} {s : Shared} {tg : Expr} {it : Addr} {u : Value} {o : Obj} {n : String} {vs : Array Value} {Q : Unit -> Shared -> Prop} (ho : s.heap.get? it = some o) (hc : o.cls = .type n) (hd : o.data = .fields vs)
    (hn : ["enumerate", "zip", "dict_itemiterator", "dict_reverseitemiterator", "odict_iterator", "itertools.zip_longest", "itertools.pairwise"].contains n = false) (hQ : Q () s) : wpAny M A (letOwnedTupleGo tg (.ref it) u) Q E s := by
  unfold letOwnedTupleGo
  cases tg <;> first
    | exact wpAny_pure hQ
    | (cases u <;> first
        | exact wpAny_pure hQ
        | (refine wpAny_bind (wpAny_load ho ?_)
           rw [hc, hd]
           show wpAny M A (if (["enumerate", "zip", "dict_itemiterator", "dict_reverseitemiterator", "odict_iterator", "itertools.zip_longest", "itertools.pairwise"].contains n && vs[0]? == some (rawInt _)) = true then _ else _) Q E s
           rw [if_neg (by intro h; rw [hn, Bool.false_and] at h; cases h)]
           exact wpAny_pure hQ))
def Itl (K : Fg) (a : Addr) : It :=
  ⟨fun i H => ∃ xs x, SqL K H a xs /\ xs[i]? = some x, fun i H x H' => H' = H /\ ∀ xs, SqL K H a xs -> xs[i]? = some x, fun i H => ∃ xs, SqL K H a xs /\ xs.length <= i⟩
def Itt (K : Fg) (a : Addr) : It :=
  ⟨fun i H => ∃ xs x, SqT K H a xs /\ xs[i]? = some x, fun i H x H' => H' = H /\ ∀ xs, SqT K H a xs -> xs[i]? = some x, fun i H => ∃ xs, SqT K H a xs /\ xs.length <= i⟩
def Itr (lo : Int) (n : Nat) : It := ⟨fun i _ => i < n, fun i H x H' => H' = H /\ x = .int (lo + i), fun i _ => n <= i⟩
theorem zed {P : Program} {w : World} {K : Fg} {tg : Expr} (a it : Addr) : Turn P w K tg (Itl K a) [it] it (fun i h => h.IsListIter it a i) where
  mem := by simp
  obj := fun i h st b hb => by
    have e : b = it := by simpa using hb
    subst e;obtain ⟨o, e, c, d⟩ := st;exact ⟨o, e, fun v z => by rw [d] at z; cases z⟩
  keep := fun i h h' st k => st.at fun o e => k it (by simp) o e
  item := by
    intro X hP hw hK hc i pins s σ H E I hf st hg;subst hP hw hK;obtain ⟨xs, x, hq, hx⟩ := hg;obtain ⟨its, rv, p, hz⟩ := I.list hq;obtain ⟨u, hu, ru⟩ := rv.get hx;obtain ⟨f0, f1, f2, f3, f4, f5⟩ := hf it (by simp);refine wpAny_pyNext_list_item st p.isList (x := u) (by simpa using hu) fun h' st' sb => ?_
    have I1 : Inv X pins σ H { s with heap := h' } := I.turned (t' := s.toks) (fun b o hb e => (sb.2 b hb).trans e) f0 f1 f3 f4 f5;obtain ⟨o, e, c, d⟩ := id st';exact ⟨u, rfl, fh (s := { s with heap := h' }) e c d (by decide) ⟨x, H, I1, ru, ⟨rfl, fun ys hy => by rw [I.list_inj hy hq]; exact hx⟩, st', fun b hb => (hf b hb).1⟩⟩
  done := by
    intro X hP hw hK hc i pins s σ H E I hf st hg;subst hP hw hK;obtain ⟨xs, hq, hx⟩ := hg;obtain ⟨its, rv, p, hz⟩ := I.list hq;obtain ⟨f0, f1, f2, f3, f4, f5⟩ := hf it (by simp);have hl := rv.length;exact wpAny_pyNext_list_end (I.ok.hd hc) st p.isList (by simp; omega) fun h' eb => ⟨rfl, I.turned (t' := s.toks) (fun b o hb e => eb b o hb e) f0 f1 f3 f4 f5⟩
  self := fun _ _ _ _ _ st h => wpAny_pyIter_listiter st h
theorem zc0 {P : Program} {w : World} {K : Fg} {tg : Expr} (a it : Addr) : Turn P w K tg (Itt K a) [it] it (fun i h => h.IsTupleIter it a i) where
  mem := by simp
  obj := fun i h st b hb => by
    have e : b = it := by simpa using hb
    subst e;obtain ⟨o, e, c, d⟩ := st;exact ⟨o, e, fun v z => by rw [d] at z; cases z⟩
  keep := fun i h h' st k => st.at fun o e => k it (by simp) o e
  item := by
    intro X hP hw hK hc i pins s σ H E I hf st hg;subst hP hw hK;obtain ⟨xs, x, hq, hx⟩ := hg;obtain ⟨its, rv, p, hz⟩ := I.tuple hq;obtain ⟨u, hu, ru⟩ := rv.get hx;obtain ⟨f0, f1, f2, f3, f4, f5⟩ := hf it (by simp);refine wpAny_pyNext_tuple_item st (show s.heap.IsTuple a its.toArray from p) (x := u) (by simpa using hu) fun h' st' sb => ?_
    have I1 : Inv X pins σ H { s with heap := h' } := I.turned (t' := s.toks) (fun b o hb e => (sb.2 b hb).trans e) f0 f1 f3 f4 f5;obtain ⟨o, e, c, d⟩ := id st';exact ⟨u, rfl, fh (s := { s with heap := h' }) e c d (by decide) ⟨x, H, I1, ru, ⟨rfl, fun ys hy => by rw [I.tuple_inj hy hq]; exact hx⟩, st', fun b hb => (hf b hb).1⟩⟩
  done := by
    intro X hP hw hK hc i pins s σ H E I hf st hg;subst hP hw hK;obtain ⟨xs, hq, hx⟩ := hg;obtain ⟨its, rv, p, hz⟩ := I.tuple hq;obtain ⟨f0, f1, f2, f3, f4, f5⟩ := hf it (by simp);have hl := rv.length;exact wpAny_pyNext_tuple_end (I.ok.hd hc) st (show s.heap.IsTuple a its.toArray from p) (by simp; omega) fun h' eb => ⟨rfl, I.turned (t' := s.toks) (fun b o hb e => eb b o hb e) f0 f1 f3 f4 f5⟩
  self := fun _ _ _ _ _ st h => wpAny_pyIter_tupleiter st h
theorem zdj {P : Program} {w : World} {K : Fg} {tg : Expr} (it : Addr) (lo : Int) (n : Nat) : Turn P w K tg (Itr lo n) [it] it (fun i h => IsRangeIter h it (lo + (i : Nat) * 1) ((n : Int) - (i : Nat)) 1) where
  mem := by simp
  obj := fun i h st b hb => by
    have e : b = it := by simpa using hb
    subst e
    exact ⟨_, st, fun v z => by
      have z' : Data.fields _ = Data.cell v := z
      cases z'⟩
  keep := fun i h h' st k => k it (by simp) _ st
  item := by
    intro X hP hw hK hc i pins s σ H E I hf st hg;subst hP hw hK;obtain ⟨f0, f1, f2, f3, f4, f5⟩ := hf it (by simp);have W := Walks.range (prog := X.prog) (w := X.w) (I.ok.hd hc) it lo 1 n;refine W.item i s _ _ hg st fun v h' tk hv st' kk => ?_
    obtain ⟨t, rfl⟩ := hv;have I1 : Inv X pins σ H { s with heap := h', toks := tk } := I.turned (fun b o hb e => kk b o (by simpa using hb) e) f0 f1 f3 f4 f5;refine ⟨_, rfl, fh (s := { s with heap := h', toks := tk }) (n := "range_iterator") st' rfl rfl (by decide) ⟨.int (lo + i), H, I1, ⟨t, ?_⟩, ⟨rfl, rfl⟩, st', fun b hb => (hf b hb).1⟩⟩;rw [Int.mul_one]
  done := by
    intro X hP hw hK hc i pins s σ H E I hf st hg;subst hP hw hK;obtain ⟨f0, f1, f2, f3, f4, f5⟩ := hf it (by simp);exact wpAny_pyNext_range_end (I.ok.hd hc) st (by have : n <= i := hg; omega) fun h' eb => ⟨rfl, I.turned (t' := s.toks) (fun b o hb e => eb b o hb e) f0 f1 f3 f4 f5⟩
  self := fun _ _ _ _ _ st h => wpAny_pyIter_rangeiter st h
end L2
namespace L2
open PySem PySem.Spec PyProof.Rows
section
variable {X : Cx} {tg : Expr}
def iList (K : Fg) (tl : TE) : TI := fun σ H R => tl σ H fun x H1 => ∃ a, x = .ref a /\ (∃ xs, SqL K H1 a xs) /\ R (Itl K a) H1
def iTup (K : Fg) (tl : TE) : TI := fun σ H R => tl σ H fun x H1 => ∃ a, x = .ref a /\ (∃ xs, SqT K H1 a xs) /\ R (Itt K a) H1
theorem z9 {l : Expr} {tl : TE} (hl : PE X l tl) : PI X tg l (iList X.K tl) := by
  intro pins s σ H R I h;refine thn (hl pins s σ H _ I h) fun v s1 ⟨x, H1, I1, r1, q1⟩ => ?_
  obtain ⟨a, e, ⟨xs, hq⟩, q⟩ := q1;subst e;cases r1;obtain ⟨its, rv, p, hz⟩ := I1.list hq;refine wpAny_pyIter_list p.isList ?_;refine ⟨s1.heap.objs.size, [s1.heap.objs.size], _, _, H1, rfl, I1.kept (t' := s1.toks) fun b o e => Heap.get?_push_of_some _ e, zed a _, ⟨_, Heap.get?_push_size _ rfl, rfl, rfl⟩, fun b hb => ?_, q⟩;have e : b = s1.heap.objs.size := by simpa using hb
  subst e;exact I1.fpOk (Zm _) (I1.hok.fresh (Zm _))
theorem ju {l : Expr} {tl : TE} (hl : PE X l tl) : PI X tg l (iTup X.K tl) := by
  intro pins s σ H R I h;refine thn (hl pins s σ H _ I h) fun v s1 ⟨x, H1, I1, r1, q1⟩ => ?_
  obtain ⟨a, e, ⟨xs, hq⟩, q⟩ := q1;subst e;cases r1;obtain ⟨its, rv, p, hz⟩ := I1.tuple hq;refine wpAny_pyIter_tuple (show s1.heap.IsTuple a its.toArray from p) ?_;refine ⟨s1.heap.objs.size, [s1.heap.objs.size], _, _, H1, rfl, I1.kept (t' := s1.toks) fun b o e => Heap.get?_push_of_some _ e, zc0 a _, ⟨_, Heap.get?_push_size _ rfl, rfl, rfl⟩, fun b hb => ?_, q⟩;have e : b = s1.heap.objs.size := by simpa using hb
  subst e;exact I1.fpOk (Zm _) (I1.hok.fresh (Zm _))
theorem zap {pins : List (Addr × Obj)} {σ : St} {H : Hp} {s : Shared} {R : It -> Hp -> Prop} {E : Value -> Shared -> Prop} {lo hi : Int} {t u v : Tok} {tk : Nat} (I : Inv X pins σ H s) (h1 : -(2 ^ 62) <= lo) (h2 : lo < 2 ^ 62) (h3 : -(2 ^ 62) <= hi) (h4 : hi < 2 ^ 62)
    (q : R (Itr lo (hi - lo).toNat) H) : wpAny (model X.prog X.w) X.A (pyIter (.ref s.heap.objs.size)) (PIE X pins σ tg R) E { s with heap := s.heap.push { cls := .type "range", data := .fields #[.int lo t, .int hi u, .int 1 v] }, toks := tk } := by
  refine wpAny_pyIter_range (IsRange.new ..) (small_one h1 h2 h3 h4) ?_;have I1 : Inv X pins σ H { s with heap := s.heap.push { cls := .type "range", data := .fields #[.int lo t, .int hi u, .int 1 v] }, toks := tk } := I.kept fun b o e => Heap.get?_push_of_some _ e
  refine ⟨(s.heap.push { cls := .type "range", data := .fields #[.int lo t, .int hi u, .int 1 v] }).objs.size, [(s.heap.push { cls := .type "range", data := .fields #[.int lo t, .int hi u, .int 1 v] }).objs.size], _, _, H, rfl,
    I1.kept (t' := tk) fun b o e => Heap.get?_push_of_some _ e, zdj _ lo (hi - lo).toNat, ?_, fun b hb => ?_, q⟩
  . have e1 : lo + ((0 : Nat) : Int) * 1 = lo := by simp
    have e2 : (((hi - lo).toNat : Nat) : Int) - ((0 : Nat) : Int) = Builtin.Range.rangeSize lo hi 1 := by rw [rangeSize_one]; split <;> omega
    show IsRangeIter _ _ (lo + ((0 : Nat) : Int) * 1) ((((hi - lo).toNat : Nat) : Int) - ((0 : Nat) : Int)) 1
    rw [e1, e2];exact Heap.get?_push_size _ rfl
  . have e : b = (s.heap.push { cls := .type "range", data := .fields #[.int lo t, .int hi u, .int 1 v] }).objs.size := by simpa using hb
    subst e;exact I1.fpOk (Zm _) (I1.hok.fresh (Zm _))
def iRng1 (ta : TA) : TI := fun σ H R => ta σ H fun vs H1 => ∃ j : Int, vs = [.int j] /\ -(2 ^ 62) <= j /\ j < 2 ^ 62 /\ R (Itr 0 j.toNat) H1
def iRng2 (ta : TA) : TI := fun σ H R => ta σ H fun vs H1 => ∃ i j : Int, vs = [.int i, .int j] /\ (-(2 ^ 62) <= i /\ i < 2 ^ 62 /\ -(2 ^ 62) <= j /\ j < 2 ^ 62) /\ R (Itr i (j - i).toNat) H1
theorem yn {a : Expr} {ta : TA} {p pos : Pos} (hg : Gl X "range") (hm : X.mg "range" = none) (ha : PA X [a] ta) (hs : starEach [a] X.env = [(false, eval a X.env)] := by rfl) : PI X tg (.Call (.Name "range" p) [a] [] pos) (iRng1 ta) := by
  intro pins s σ H R I h;refine Call_ (ud I hg hm boot_range (PyProof.Rows.callWith_type1 (thn (ha pos pins s σ H _ I h) fun us s1 ⟨vs, H1, I1, r1, q1⟩ => ?_) hs rfl));obtain ⟨j, e, q1, q2, q⟩ := q1;subst e
  cases r1 with
  | cons r rr =>
    cases rr;obtain ⟨t, rfl⟩ := r;exact call_range_1 (zap I1 (by omega) (by omega) q1 q2 (by simpa using q))
theorem je {a b : Expr} {ta : TA} {p pos : Pos} (hg : Gl X "range") (hm : X.mg "range" = none) (ha : PA X [a, b] ta) (hs : starEach [a, b] X.env = [(false, eval a X.env), (false, eval b X.env)] := by rfl) (hs2 : starEach [b] X.env = [(false, eval b X.env)] := by rfl) :
    PI X tg (.Call (.Name "range" p) [a, b] [] pos) (iRng2 ta) := by
  intro pins s σ H R I h;refine Call_ (ud I hg hm boot_range (PyProof.Rows.callWith_type1 (thn (ha pos pins s σ H _ I h) fun us s1 ⟨vs, H1, I1, r1, q1⟩ => ?_) (by rw [hs, hs2]) (by rw [hs2]; rfl)));obtain ⟨i, j, e, ⟨q1, q2, q3, q4⟩, q⟩ := q1;subst e
  cases r1 with
  | cons r rr =>
    cases rr with
    | cons r' rr =>
      cases rr;obtain ⟨t, rfl⟩ := r;obtain ⟨t', rfl⟩ := r';exact call_range_2 (zap I1 q1 q2 q3 q4 q)
def tFor (wi : TI) (g : TG) (tb : TS) : TS := fun D σ H => wi σ H fun J H1 => ∃ W : Nat -> Nat -> St -> Hp -> Prop, (∃ m, W 0 m σ H1) /\ ∀ i m σ H, W i m σ H ->
  (J.stop i H /\ D.nx σ H) \/ (J.go i H /\ ∃ N : St -> Hp -> Prop, (∀ σ' H', N σ' H' -> ∃ m', m' < m /\ W (i + 1) m' σ' H') /\ ∀ x H', J.yld i H x H' -> g x σ H' fun σ2 H2 => tb { D with nx := N, ct := N, bk := D.nx } σ2 H2)
def ld (fp : List Addr) (h : Heap) : List (Addr × Obj) := fp.filterMap fun b => (h.get? b).map fun o => (b, o)
theorem ve {fp : List Addr} {h : Heap} {b : Addr} {o : Obj} (hb : b ∈ fp) (e : h.get? b = some o) : (b, o) ∈ ld fp h := ZY.mpr ⟨b, hb, by rw [e]; rfl⟩
theorem zfn {fp : List Addr} {h : Heap} {p : Addr × Obj} (hp : p ∈ ld fp h) : p.1 ∈ fp /\ h.get? p.1 = some p.2 := by
  obtain ⟨b, hb, e⟩ := ZY.mp hp
  cases q : h.get? b with
  | none => rw [q] at e; cases e
  | some o =>
    rw [q] at e;have e' : (b, o) = p := Option.some.inj e;subst e';exact ⟨hb, q⟩
theorem Inv.pinned {pins : List (Addr × Obj)} {σ : St} {H : Hp} {s : Shared} {fp : List Addr} (I : Inv X pins σ H s) (hf : ∀ b ∈ fp, FpOk X pins H b) (ho : ∀ b ∈ fp, ∃ o, s.heap.get? b = some o /\ ∀ v, o.data ≠ .cell v) : Inv X (pins ++ ld fp s.heap) σ H s :=
  I.pins_of fun p hp => (ZH.mp hp).elim (fun z => I.pin p (Zu _ z)) fun z => by
    obtain ⟨hb, e⟩ := zfn z;obtain ⟨f0, f1, f2, _⟩ := hf p.1 hb;obtain ⟨o, e', d⟩ := ho p.1 hb;rw [e] at e'; cases e';exact ⟨e, f0, f1, f2, d⟩
theorem Inv.unpinned {pins pl : List (Addr × Obj)} {σ : St} {H : Hp} {s : Shared} (I : Inv X (pins ++ pl) σ H s) : Inv X pins σ H s := I.pins_of fun p hp => I.pin p (Zu _ (ZU _ hp))
theorem xk {iter : Expr} {body : List Stmt} {wi : TI} {g : TG} {tb : TS} {pos : Pos} (hp : PassesOwn (model X.prog X.w) X.A X.env X.xe) (hc : X.calm = true) (hi : PI X tg iter wi) (hg : PG X tg g) (hb : PSs X body tb)
    (hs : ∀ x, foldedSetIterable iter X.env x = pure x := by intro _; rfl) : PS X (.For tg iter body [] pos) (tFor wi g tb) := by
  intro pins s σ H D I h;refine wpAny_For (thn (hi pins s σ H _ I h) fun v s1 h1 => thn h1 fun itv s2 h2 => ?_) hs;obtain ⟨it, fp, tn, J, H2, e, I2, T, st2, f2, W, ⟨m0, w0⟩, turn⟩ := h2;subst e
  -- what stays true of the iterator's objects through the loop
  have stat : ∀ {H' : Hp}, (∀ b ∈ fp, H' b = none) -> ∀ b ∈ fp, FpOk X pins H' b := fun hn b hb => ⟨hn b hb, (f2 b hb).2⟩
  refine codeAny_forLoop_any (fun n s' => ∃ i σ' H', Inv X pins σ' H' s' /\ tn i s'.heap /\ (∀ b ∈ fp, H' b = none) /\ W i n σ' H') ?_ m0 ⟨0, σ, H2, I2, st2, fun b hb => (f2 b hb).1, w0⟩
  rintro n s3 ⟨i, σ3, H3, I3, st3, fr3, w3⟩
  rcases turn i n σ3 H3 w3 with ⟨stop, qn⟩ | ⟨go, N, hN, step⟩
  . refine wpAny_passesOwn hp (thn (T.done X rfl rfl rfl hc i pins s3 σ3 H3 X.xe I3 (stat fr3) st3 stop) fun r s4 ⟨hr, I4⟩ => ?_)
    subst hr;exact wpAny_execs_nil ⟨σ3, H3, I4, qn⟩
  . refine wpAny_passesOwn hp (thn (T.item X rfl rfl rfl hc i pins s3 σ3 H3 X.xe I3 (stat fr3) st3 go) fun r s4 ⟨u, hr, h4⟩ => ?_)
    subst hr;refine wpAny_passesOwn hp (thn h4 fun _ s5 ⟨x, H5, I5, r5, y5, st5, fr5⟩ => ?_);have I5' := I5.pinned (stat fr5) (T.obj _ _ st5);refine wpAny_passesOwn hp (thn (hg _ s5 σ3 H5 x u _ I5' r5 (step x H5 y5)) fun _ s6 ⟨σ6, H6, I6, q6⟩ => ?_);refine wpAny_passesOwn hp (thn (hb _ s6 σ6 H6 _ I6 q6) fun f s7 q7 => ?_)
    have again : ∀ {σ7 : St} {H7 : Hp}, Inv X (pins ++ ld fp s5.heap) σ7 H7 s7 -> N σ7 H7 -> ∃ m, m < n /\ ∃ i σ' H', Inv X pins σ' H' s7 /\ tn i s7.heap /\ (∀ b ∈ fp, H' b = none) /\ W i m σ' H' := fun {σ7 H7} I7 n7 => by
      obtain ⟨m', hm, w7⟩ := hN σ7 H7 n7;refine ⟨m', hm, i + 1, σ7, H7, I7.unpinned, T.keep _ _ _ st5 fun b hb o e => (I7.pin (b, o) (Zu _ (Zu _ (ve hb e)))).1, fun b hb => ?_, w7⟩;obtain ⟨o, e, d⟩ := T.obj _ _ st5 b hb;exact (I7.pin (b, o) (Zu _ (Zu _ (ve hb e)))).2.1
    cases f with
    | next => obtain ⟨σ7, H7, I7, n7⟩ := q7; exact again I7 n7
    | cont => obtain ⟨σ7, H7, I7, n7⟩ := q7; exact again I7 n7
    | brk => obtain ⟨σ7, H7, I7, q7⟩ := q7; exact ⟨σ7, H7, I7.unpinned, q7⟩
    | ret v => obtain ⟨x7, σ7, H7, I7, r7, q7⟩ := q7; exact ⟨x7, σ7, H7, I7.unpinned, r7, q7⟩
end
theorem tf {K : Fg} {a : Addr} {xs : List V} {g : TG} {tb : TS} {D : Ends} {σ : St} {H : Hp} (Pv : Nat -> St -> Hp -> Prop) (h0 : Pv 0 σ H) (hl : ∀ i σ H, i <= xs.length -> Pv i σ H -> SqL K H a xs)
    (hs : ∀ i x σ H, xs[i]? = some x -> Pv i σ H -> g x σ H fun σ2 H2 => tb { D with nx := Pv (i + 1), ct := Pv (i + 1), bk := D.nx } σ2 H2) (hd : ∀ σ H, Pv xs.length σ H -> D.nx σ H) :
    ∃ W : Nat -> Nat -> St -> Hp -> Prop, (∃ m, W 0 m σ H) /\ ∀ i m σ H, W i m σ H ->
      ((Itl K a).stop i H /\ D.nx σ H) \/ ((Itl K a).go i H /\ ∃ N : St -> Hp -> Prop, (∀ σ' H', N σ' H' -> ∃ m', m' < m /\ W (i + 1) m' σ' H') /\ ∀ x H', (Itl K a).yld i H x H' -> g x σ H' fun σ2 H2 => tb { D with nx := N, ct := N, bk := D.nx } σ2 H2) := by
  refine ⟨fun i m σ H => m = xs.length - i /\ i <= xs.length /\ Pv i σ H, ⟨xs.length, by simp, ZE _, h0⟩, ?_⟩
  rintro i m σ H ⟨rfl, hi, p⟩
  have q := hl i σ H hi p
  by_cases hlt : i < xs.length
  . refine .inr ⟨⟨xs, xs[i], q, by simp [hlt]⟩, Pv (i + 1), fun σ' H' p' => ⟨xs.length - (i + 1), by omega, rfl, hlt, p'⟩, fun x H' y => ?_⟩
    obtain ⟨e, y⟩ := y;subst e;exact hs i x σ _ (y xs q) p
  . have e : i = xs.length := by omega
    subst e;exact .inl ⟨⟨xs, q, Zm _⟩, hd σ H p⟩
theorem zgq {K : Fg} {a : Addr} {xs : List V} {g : TG} {tb : TS} {D : Ends} {σ : St} {H : Hp} (Pv : Nat -> St -> Hp -> Prop) (h0 : Pv 0 σ H) (hl : ∀ i σ H, i <= xs.length -> Pv i σ H -> SqT K H a xs)
    (hs : ∀ i x σ H, xs[i]? = some x -> Pv i σ H -> g x σ H fun σ2 H2 => tb { D with nx := Pv (i + 1), ct := Pv (i + 1), bk := D.nx } σ2 H2) (hd : ∀ σ H, Pv xs.length σ H -> D.nx σ H) :
    ∃ W : Nat -> Nat -> St -> Hp -> Prop, (∃ m, W 0 m σ H) /\ ∀ i m σ H, W i m σ H ->
      ((Itt K a).stop i H /\ D.nx σ H) \/ ((Itt K a).go i H /\ ∃ N : St -> Hp -> Prop, (∀ σ' H', N σ' H' -> ∃ m', m' < m /\ W (i + 1) m' σ' H') /\ ∀ x H', (Itt K a).yld i H x H' -> g x σ H' fun σ2 H2 => tb { D with nx := N, ct := N, bk := D.nx } σ2 H2) := by
  refine ⟨fun i m σ H => m = xs.length - i /\ i <= xs.length /\ Pv i σ H, ⟨xs.length, by simp, ZE _, h0⟩, ?_⟩
  rintro i m σ H ⟨rfl, hi, p⟩
  have q := hl i σ H hi p
  by_cases hlt : i < xs.length
  . refine .inr ⟨⟨xs, xs[i], q, by simp [hlt]⟩, Pv (i + 1), fun σ' H' p' => ⟨xs.length - (i + 1), by omega, rfl, hlt, p'⟩, fun x H' y => ?_⟩
    obtain ⟨e, y⟩ := y;subst e;exact hs i x σ _ (y xs q) p
  . have e : i = xs.length := by omega
    subst e;exact .inl ⟨⟨xs, q, Zm _⟩, hd σ H p⟩
theorem xt {lo : Int} {n : Nat} {g : TG} {tb : TS} {D : Ends} {σ : St} {H : Hp} (Pv : Nat -> St -> Hp -> Prop) (h0 : Pv 0 σ H)
    (hs : ∀ i σ H, i < n -> Pv i σ H -> g (.int (lo + i)) σ H fun σ2 H2 => tb { D with nx := Pv (i + 1), ct := Pv (i + 1), bk := D.nx } σ2 H2) (hd : ∀ σ H, Pv n σ H -> D.nx σ H) :
    ∃ W : Nat -> Nat -> St -> Hp -> Prop, (∃ m, W 0 m σ H) /\ ∀ i m σ H, W i m σ H ->
      ((Itr lo n).stop i H /\ D.nx σ H) \/ ((Itr lo n).go i H /\ ∃ N : St -> Hp -> Prop, (∀ σ' H', N σ' H' -> ∃ m', m' < m /\ W (i + 1) m' σ' H') /\ ∀ x H', (Itr lo n).yld i H x H' -> g x σ H' fun σ2 H2 => tb { D with nx := N, ct := N, bk := D.nx } σ2 H2) := by
  refine ⟨fun i m σ H => m = n - i /\ i <= n /\ Pv i σ H, ⟨n, by simp, ZE _, h0⟩, ?_⟩
  rintro i m σ H ⟨rfl, hi, p⟩
  by_cases hlt : i < n
  . refine .inr ⟨hlt, Pv (i + 1), fun σ' H' p' => ⟨n - (i + 1), by omega, rfl, hlt, p'⟩, fun x H' y => ?_⟩
    obtain ⟨e, y⟩ := y;subst e y;exact hs i σ _ hlt p
  . have e : i = n := by omega
    subst e;exact .inl ⟨Zm _, hd σ H p⟩
end L2
namespace L2
open PySem PySem.Spec PyProof.Rows
abbrev R2 := V -> V -> Hp -> VK -> Prop
def OpR (X : Cx) (f : Value -> Value -> Sem Value) (r : R2) : Prop :=
  ∀ (pins : List (Addr × Obj)) (s : Shared) (σ : St) (H : Hp) (x y : V) (v u : Value) (Q : VK), Inv X pins σ H s -> RelV x v -> RelV y u -> r x y H Q ->
    wpAny (model X.prog X.w) X.A (f v u) (EP X pins σ Q) X.xe s
def UnR (X : Cx) (f : Value -> Sem Value) (r : V -> Hp -> VK -> Prop) : Prop :=
  ∀ (pins : List (Addr × Obj)) (s : Shared) (σ : St) (H : Hp) (x : V) (v : Value) (Q : VK), Inv X pins σ H s -> RelV x v -> r x H Q ->
    wpAny (model X.prog X.w) X.A (f v) (EP X pins σ Q) X.xe s
def ue (X : Cx) (f : Value) (r : List V -> Hp -> VK -> Prop) : Prop :=
  ∀ (pins : List (Addr × Obj)) (s : Shared) (σ : St) (H : Hp) (xs : List V) (us : List Value) (Q : VK), Inv X pins σ H s -> Vals xs us -> r xs H Q ->
    wpAny (model X.prog X.w) X.A (call f us) (EP X pins σ Q) X.xe s
def tOp (r : R2) (ta tb : TE) : TE := fun σ H Q => ta σ H fun x H1 => tb σ H1 fun y H2 => r x y H2 Q
def tUn (r : V -> Hp -> VK -> Prop) (ta : TE) : TE := fun σ H Q => ta σ H fun x H1 => r x H1 Q
def rI (C : Int -> Int -> Prop) (g : Int -> Int -> V) : R2 := fun x y H Q => ∃ i j, x = .int i /\ y = .int j /\ C i j /\ Q (g i j) H
def rI0 (g : Int -> Int -> V) : R2 := fun x y H Q => ∃ i j, x = .int i /\ y = .int j /\ Q (g i j) H
def rU (g : Int -> V) : V -> Hp -> VK -> Prop := fun x H Q => ∃ i, x = .int i /\ Q (g i) H
section
variable {X : Cx} {a b c : Expr} {ta tb tc : TE} {pos : Pos}
theorem binT (ha : PE X a ta) (hb : PE X b tb) {pins : List (Addr × Obj)} {s : Shared} {σ : St} {H : Hp} {R : V -> V -> Hp -> Prop} (I : Inv X pins σ H s)
    (h : ta σ H fun x H1 => tb σ H1 fun y H2 => R x y H2) {Q : Value -> Shared -> Prop} {f : Value -> Value -> Sem Value}
    (hf : ∀ v u s2 x y H2, Inv X pins σ H2 s2 -> RelV x v -> RelV y u -> R x y H2 -> wpAny (model X.prog X.w) X.A (f v u) Q X.xe s2) :
    wpAny (model X.prog X.w) X.A (eval a X.env) (fun v s₁ => wpAny (model X.prog X.w) X.A (eval b X.env) (fun u s₂ => wpAny (model X.prog X.w) X.A (f v u) Q X.xe s₂) X.xe s₁) X.xe s := by
  refine thn (ha pins s σ H _ I h) fun v s1 ⟨x, H1, I1, r1, q1⟩ => ?_
  refine thn (hb pins s1 σ H1 _ I1 q1) fun u s2 ⟨y, H2, I2, r2, q2⟩ => ?_
  exact hf v u s2 x y H2 I2 r1 r2 q2
theorem zp {op : Operator} {r : R2} (ho : OpR X (binaryOp op) r) (ha : PE X a ta) (hb : PE X b tb) : PE X (.BinOp a op b pos) (tOp r ta tb) := by
  intro pins s σ H Q I h;exact wpAny_BinOp (binT ha hb I h fun v u s2 x y H2 I2 rx ry q => ho pins s2 σ H2 x y v u Q I2 rx ry q)
theorem zdc {op : UnaryOp} {r : V -> Hp -> VK -> Prop} (ho : UnR X (unaryOp op) r) (ha : PE X a ta) : PE X (.UnaryOp op a pos) (tUn r ta) := by
  intro pins s σ H Q I h;exact UnaryOp_ (thn (ha pins s σ H _ I h) fun v s1 ⟨x, H1, I1, r1, q1⟩ => ho pins s1 σ H1 x v Q I1 r1 q1)
theorem opI {f : Value -> Value -> Sem Value} {C : Int -> Int -> Prop} {g : Int -> Int -> Int}
    (rule : ∀ (i j : Int) (t u : Tok) (s : Shared) (Q : Value -> Shared -> Prop) (E : Value -> Shared -> Prop), C i j -> Q (.int (g i j) s.toks) { s with toks := s.toks + 1 } -> wpAny (model X.prog X.w) X.A (f (.int i t) (.int j u)) Q E s) :
    OpR X f (rI C fun i j => .int (g i j)) := by
  intro pins s σ H x y v u Q I rx ry h;obtain ⟨i, j, rfl, rfl, hc, q⟩ := h;obtain ⟨t, rfl⟩ := rx;obtain ⟨t', rfl⟩ := ry;exact rule i j t t' s _ _ hc ⟨.int (g i j), H, I.tok _, ⟨_, rfl⟩, q⟩
theorem opI0 {f : Value -> Value -> Sem Value} {g : Int -> Int -> Int}
    (rule : ∀ (i j : Int) (t u : Tok) (s : Shared) (Q : Value -> Shared -> Prop) (E : Value -> Shared -> Prop), Q (.int (g i j) s.toks) { s with toks := s.toks + 1 } -> wpAny (model X.prog X.w) X.A (f (.int i t) (.int j u)) Q E s) :
    OpR X f (rI0 fun i j => .int (g i j)) := by
  intro pins s σ H x y v u Q I rx ry h;obtain ⟨i, j, rfl, rfl, q⟩ := h;obtain ⟨t, rfl⟩ := rx;obtain ⟨t', rfl⟩ := ry;exact rule i j t t' s _ _ ⟨.int (g i j), H, I.tok _, ⟨_, rfl⟩, q⟩
theorem opB0 {f : Value -> Value -> Sem Value} {g : Int -> Int -> Bool}
    (rule : ∀ (i j : Int) (t u : Tok) (s : Shared) (Q : Value -> Shared -> Prop) (E : Value -> Shared -> Prop), Q (.bool (g i j)) s -> wpAny (model X.prog X.w) X.A (f (.int i t) (.int j u)) Q E s) :
    OpR X f (rI0 fun i j => .bl (g i j)) := by
  intro pins s σ H x y v u Q I rx ry h;obtain ⟨i, j, rfl, rfl, q⟩ := h;obtain ⟨t, rfl⟩ := rx;obtain ⟨t', rfl⟩ := ry;exact rule i j t t' s _ _ ⟨.bl (g i j), H, I, rfl, q⟩
def CDiv (i j : Int) : Prop := 0 < j /\ j < 1073741824
def CPow (i j : Int) : Prop := 0 <= j /\ j <= 1000000 /\ i.natAbs < 2 ^ 64
def CMul (i j : Int) : Prop := (-(2 ^ 64) < i /\ i < 2 ^ 64) \/ (-(2 ^ 64) < j /\ j < 2 ^ 64)
theorem CMul.ok {i j : Int} (h : CMul i j) : IntMulOk i j := by
  rcases h with ⟨h1, h2⟩ | ⟨h1, h2⟩
  . exact .of_left (intBits_le_64 h1 h2)
  . exact .of_right (intBits_le_64 h1 h2)
theorem xj : OpR X (binaryOp .Add) (rI0 fun i j => .int (i + j)) := opI0 fun _ _ _ _ _ _ _ q => add_int q
theorem ua : OpR X (binaryOp .Sub) (rI0 fun i j => .int (i - j)) := opI0 fun _ _ _ _ _ _ _ q => sub_int q
theorem jg : OpR X (binaryOp .Mult) (rI CMul fun i j => .int (i * j)) := opI fun _ _ _ _ _ _ _ hc q => mul_int q hc.ok
theorem wu : OpR X (binaryOp .FloorDiv) (rI CDiv fun i j => .int (i / j)) := opI fun i j _ _ _ _ _ hc q => by
  have h1 : (0 : Int) < j := hc.1;have h2 : j < 1073741824 := hc.2;exact floordiv_int (by omega) (by rw [Int.fdiv_eq_ediv_of_nonneg i (by omega)]; exact q) (.inl (PyProof.noPylong_small (by omega)))
theorem xv : OpR X (binaryOp .Mod) (rI (fun _ j => 0 < j) fun i j => .int (i % j)) := opI fun i j _ _ _ _ _ hc q => by
  have h1 : (0 : Int) < j := hc;exact mod_int' (by omega) (by rw [Int.fmod_eq_emod_of_nonneg i (by omega)]; exact q)
theorem lq : OpR X (binaryOp .Pow) (rI CPow fun i j => .int (i ^ j.toNat)) := opI fun _ _ _ _ _ _ _ hc q => pow_int_small hc.1 hc.2.1 hc.2.2 q
theorem unI {f : Value -> Sem Value} {g : Int -> Int}
    (rule : ∀ (i : Int) (t : Tok) (s : Shared) (Q : Value -> Shared -> Prop) (E : Value -> Shared -> Prop), Q (.int (g i) s.toks) { s with toks := s.toks + 1 } -> wpAny (model X.prog X.w) X.A (f (.int i t)) Q E s) :
    UnR X f (rU fun i => .int (g i)) := by
  intro pins s σ H x v Q I rx h;obtain ⟨i, rfl, q⟩ := h;obtain ⟨t, rfl⟩ := rx;exact rule i t s _ _ ⟨.int (g i), H, I.tok _, ⟨_, rfl⟩, q⟩
theorem bx : UnR X (unaryOp .USub) (rU fun i => .int (-i)) := unI fun _ _ _ _ _ q => neg_int q
end
def scal : V -> V -> Bool
  | .non, .non => true | .non, .int _ => true | .int _, .non => true | .non, .bl _ => true | .bl _, .non => true | .non, .str _ => true | .str _, .non => true
  | .int _, .int _ => true | .bl _, .bl _ => true | .str _, .str _ => true | .byt _, .byt _ => true
  | .int _, .str _ => true | .str _, .int _ => true | .bl _, .str _ => true | .str _, .bl _ => true
  | _, _ => false
def rEq : R2 := fun x y H Q => scal x y = true /\ Q (.bl (decide (x = y))) H
def rNe : R2 := fun x y H Q => scal x y = true /\ Q (.bl (!decide (x = y))) H
theorem zct {i j : Int} : decide (V.int i = V.int j) = (i == j) := by
  rw [Bool.eq_iff_iff];simp
theorem zeh {i j : Bool} : decide (V.bl i = V.bl j) = (i == j) := by
  rw [Bool.eq_iff_iff];simp
theorem zch {i j : Str} : decide (V.str i = V.str j) = (i == j) := by
  rw [Bool.eq_iff_iff];simp
theorem zcd {i j : Array UInt8} : decide (V.byt i = V.byt j) = (i.toList == j.toList) := by
  rw [Bool.eq_iff_iff];cases i;cases j;simp
section
variable {X : Cx} {a b c : Expr} {ta tb tc : TE} {pos : Pos}
theorem yc {pins : List (Addr × Obj)} {σ : St} {H : Hp} {s : Shared} {Q : VK} {k k' : Bool} (I : Inv X pins σ H s) (q : Q (.bl k) H) (e : k = k') : EP X pins σ Q (.bool k') s := by
  subst e;exact ⟨.bl k, H, I, rfl, q⟩
theorem ib : OpR X (compareOp .Eq) rEq := by
  intro pins s σ H x y v u Q I rx ry h;obtain ⟨hs, q⟩ := h
  cases x with
  | non =>
    cases rx
    cases y with
    | non => cases ry; exact PySem.EqNone.eq_none_none (yc I q (by simp))
    | bl j => cases ry; exact PySem.EqNone.eq_none_bool (yc I q (by simp))
    | int j => obtain ⟨t', rfl⟩ := ry; exact PySem.EqNone.eq_none_int (yc I q (by simp))
    | str j => obtain ⟨t', rfl⟩ := ry; exact PySem.EqNone.eq_none_str (yc I q (by simp))
    | _ => exact absurd (show false = true from hs) Bool.false_ne_true
  | bl i =>
    cases rx
    cases y with
    | non => cases ry; exact PySem.EqNone.eq_bool_none (yc I q (by simp))
    | bl j => cases ry; exact eq_bool (yc I q zeh)
    | str j => obtain ⟨t', rfl⟩ := ry; exact PySem.EqMixed.eq_bool_str (yc I q (by simp))
    | _ => exact absurd (show false = true from hs) Bool.false_ne_true
  | int i =>
    obtain ⟨t, rfl⟩ := rx
    cases y with
    | non => cases ry; exact PySem.EqNone.eq_int_none (yc I q (by simp))
    | int j => obtain ⟨t', rfl⟩ := ry; exact eq_int (yc I q zct)
    | str j => obtain ⟨t', rfl⟩ := ry; exact PySem.EqMixed.eq_int_str (yc I q (by simp))
    | _ => exact absurd (show false = true from hs) Bool.false_ne_true
  | str i =>
    obtain ⟨t, rfl⟩ := rx
    cases y with
    | non => cases ry; exact PySem.EqNone.eq_str_none (yc I q (by simp))
    | bl j => cases ry; exact PySem.EqMixed.eq_str_bool (yc I q (by simp))
    | int j => obtain ⟨t', rfl⟩ := ry; exact PySem.EqMixed.eq_str_int (yc I q (by simp))
    | str j => obtain ⟨t', rfl⟩ := ry; exact eq_str (yc I q zch)
    | _ => exact absurd (show false = true from hs) Bool.false_ne_true
  | byt i =>
    obtain ⟨t, rfl⟩ := rx
    cases y with
    | byt j => obtain ⟨t', rfl⟩ := ry; exact PySem.W.eq_bytes (yc I q zcd)
    | _ => exact absurd (show false = true from hs) Bool.false_ne_true
  | _ => cases y <;> exact absurd (show false = true from hs) Bool.false_ne_true
theorem zcw : OpR X (compareOp .NotEq) rNe := by
  intro pins s σ H x y v u Q I rx ry h;obtain ⟨hs, q⟩ := h
  cases x with
  | non =>
    cases rx
    cases y with
    | non => cases ry; exact PySem.EqNone.ne_none_none (yc I q (by simp))
    | bl j => cases ry; exact PySem.EqNone.ne_none_bool (yc I q (by simp))
    | int j => obtain ⟨t', rfl⟩ := ry; exact PySem.EqNone.ne_none_int (yc I q (by simp))
    | str j => obtain ⟨t', rfl⟩ := ry; exact PySem.EqNone.ne_none_str (yc I q (by simp))
    | _ => exact absurd (show false = true from hs) Bool.false_ne_true
  | bl i =>
    cases rx
    cases y with
    | non => cases ry; exact PySem.EqNone.ne_bool_none (yc I q (by simp))
    | bl j => cases ry; exact ne_bool (yc I q (congrArg not zeh))
    | str j => obtain ⟨t', rfl⟩ := ry; exact PySem.EqMixed.ne_bool_str (yc I q (by simp))
    | _ => exact absurd (show false = true from hs) Bool.false_ne_true
  | int i =>
    obtain ⟨t, rfl⟩ := rx
    cases y with
    | non => cases ry; exact PySem.EqNone.ne_int_none (yc I q (by simp))
    | int j => obtain ⟨t', rfl⟩ := ry; exact ne_int (yc I q (congrArg not zct))
    | str j => obtain ⟨t', rfl⟩ := ry; exact PySem.EqMixed.ne_int_str (yc I q (by simp))
    | _ => exact absurd (show false = true from hs) Bool.false_ne_true
  | str i =>
    obtain ⟨t, rfl⟩ := rx
    cases y with
    | non => cases ry; exact PySem.EqNone.ne_str_none (yc I q (by simp))
    | bl j => cases ry; exact PySem.EqMixed.ne_str_bool (yc I q (by simp))
    | int j => obtain ⟨t', rfl⟩ := ry; exact PySem.EqMixed.ne_str_int (yc I q (by simp))
    | str j => obtain ⟨t', rfl⟩ := ry; exact ne_str (yc I q (congrArg not zch))
    | _ => exact absurd (show false = true from hs) Bool.false_ne_true
  | byt i =>
    obtain ⟨t, rfl⟩ := rx
    cases y with
    | byt j => obtain ⟨t', rfl⟩ := ry; exact PySem.W.ne_bytes (yc I q (congrArg not zcd))
    | _ => exact absurd (show false = true from hs) Bool.false_ne_true
  | _ => cases y <;> exact absurd (show false = true from hs) Bool.false_ne_true
theorem fj : OpR X (compareOp .Lt) (rI0 fun i j => .bl (decide (i < j))) := opB0 fun _ _ _ _ _ _ _ q => lt_int q
theorem ff : OpR X (compareOp .LtE) (rI0 fun i j => .bl (decide (i <= j))) := opB0 fun _ _ _ _ _ _ _ q => le_int q
theorem bv : OpR X (compareOp .Gt) (rI0 fun i j => .bl (decide (j < i))) := opB0 fun _ _ _ _ _ _ _ q => gt_int q
theorem op_ge : OpR X (compareOp .GtE) (rI0 fun i j => .bl (decide (j <= i))) := opB0 fun _ _ _ _ _ _ _ q => ge_int q
theorem op_isN : OpR X (compareOp .Is) (fun x y H Q => y = .non /\ Q (.bl (decide (x = .non))) H) := by
  intro pins s σ H x y v u Q I rx ry h;obtain ⟨rfl, q⟩ := h;cases ry;refine is_none_gen (yc I q ?_)
  cases x <;> first
    | (cases rx; rfl)
    | (obtain ⟨t, rfl⟩ := rx; rfl)
theorem zb9 : OpR X (compareOp .IsNot) (fun x y H Q => y = .non /\ Q (.bl (!decide (x = .non))) H) := by
  intro pins s σ H x y v u Q I rx ry h;obtain ⟨rfl, q⟩ := h;cases ry;refine isnot_none_gen (yc I q ?_)
  cases x <;> first
    | (cases rx; rfl)
    | (obtain ⟨t, rfl⟩ := rx; rfl)
theorem yx (b : Expr) {op : CmpOp} (h : op ≠ .In := by decide) (h2 : op ≠ .NotIn := by decide) : behindInMarks op b = false := by
  have e1 : (op == CmpOp.In) = false := by cases op <;> first | rfl | exact absurd rfl h
  have e2 : (op == CmpOp.NotIn) = false := by cases op <;> first | rfl | exact absurd rfl h2
  cases b <;> simp [behindInMarks, e1, e2]
theorem lc {op : CmpOp} {r : R2} (ho : OpR X (compareOp op) r) (ha : PE X a ta) (hb : PE X b tb) (hm : behindInMarks op b = false) : PE X (.Compare a [op] [b] pos) (tOp r ta tb) := by
  intro pins s σ H Q I h;exact wpAny_Compare1 (binT ha hb I h fun v u s2 x y H2 I2 rx ry q => ho pins s2 σ H2 x y v u Q I2 rx ry q) hm
def zc3 (t : TE) : TT := fun σ H Q => t σ H fun x H' => ∃ k, x = .bl k /\ Q k H'
theorem y7 {op : CmpOp} {r : R2} (ho : OpR X (compareOp op) r) (ha : PE X a ta) (hb : PE X b tb) (hm : behindInMarks op b = false) : PT X (.Compare a [op] [b] pos) (zc3 (tOp r ta tb)) := by
  intro pins s σ H Q I h
  refine wpAny_isTrue_Compare1 (thn (ha pins s σ H _ I h) fun v s1 ⟨x, H1, I1, r1, q1⟩ => thn (hb pins s1 σ H1 _ I1 q1) fun u s2 ⟨y, H2, I2, r2, q2⟩ =>
    thn (ho pins s2 σ H2 x y v u _ I2 r1 r2 q2) fun c s3 ⟨z, H3, I3, r3, k, e, q3⟩ => ?_) hm
  subst e;cases r3;exact wpAny_truthy_bool ⟨H3, I3, q3⟩
def zal (r r' : R2) (ta tb tc : TE) : TE := fun σ H Q => ta σ H fun x H1 => tb σ H1 fun y H2 => r x y H2 fun z H3 => ∃ k, z = .bl k /\
  (if k = true then tc σ H3 fun w' H4 => r' y w' H4 Q else Q (.bl false) H3)
theorem zgk {op op' : CmpOp} {r r' : R2} (ho : OpR X (compareOp op) r) (ho' : OpR X (compareOp op') r') (ha : PE X a ta) (hb : PE X b tb) (hc : PE X c tc)
    (hm : lastMarks [op, op'] [b, c] = false := by with_unfolding_all rfl) : PE X (.Compare a [op, op'] [b, c] pos) (zal r r' ta tb tc) := by
  intro pins s σ H Q I h
  refine Compare_chain (thn (ha pins s σ H _ I h) fun v s1 ⟨x, H1, I1, r1, q1⟩ => chain_link (thn (hb pins s1 σ H1 _ I1 q1) fun u s2 ⟨y, H2, I2, r2, q2⟩ =>
    thn (ho pins s2 σ H2 x y v u _ I2 r1 r2 q2) fun d s3 ⟨z, H3, I3, r3, k, e, q3⟩ => ?_)) hm
  subst e;cases r3;refine wpAny_truthy_bool ?_
  cases k with
  | false => exact ite_ff ⟨.bl false, H3, I3, rfl, q3⟩
  | true => exact ite_tt (chain_last (thn (hc pins s3 σ H3 _ I3 q3) fun w' s4 ⟨z', H4, I4, r4, q4⟩ => ho' pins s4 σ H4 y z' u w' Q I4 r2 r4 q4))
theorem az {op op' : CmpOp} {r r' : R2} (ho : OpR X (compareOp op) r) (ho' : OpR X (compareOp op') r') (ha : PE X a ta) (hb : PE X b tb) (hc : PE X c tc)
    (hm : lastMarks [op, op'] [b, c] = false := by with_unfolding_all rfl) : PT X (.Compare a [op, op'] [b, c] pos) (zc3 (zal r r' ta tb tc)) := by
  intro pins s σ H Q I h
  refine isTrue_chain (thn (ha pins s σ H _ I h) fun v s1 ⟨x, H1, I1, r1, q1⟩ => test_link (thn (hb pins s1 σ H1 _ I1 q1) fun u s2 ⟨y, H2, I2, r2, q2⟩ =>
    thn (ho pins s2 σ H2 x y v u _ I2 r1 r2 q2) fun d s3 ⟨z, H3, I3, r3, k, e, q3⟩ => ?_)) hm
  subst e;cases r3;refine wpAny_truthy_bool ?_
  cases k with
  | false =>
    obtain ⟨k', e', q'⟩ := q3;cases e';exact ite_ff ⟨H3, I3, q'⟩
  | true =>
    refine ite_tt (test_last (thn (hc pins s3 σ H3 _ I3 q3) fun w' s4 ⟨z', H4, I4, r4, q4⟩ => thn (ho' pins s4 σ H4 y z' u w' _ I4 r2 r4 q4) fun d' s5 ⟨z2, H5, I5, r5, k2, e2, q5⟩ => ?_));subst e2;cases r5;exact wpAny_truthy_bool ⟨H5, I5, q5⟩
theorem m9 : (sizeLine : Nat) < 2 ^ 63 := by rw [sizeLine_eq]; decide
theorem f9 : OpR X (binaryOp .Add) (fun x y H Q => ∃ i j, x = .str i /\ y = .str j /\ i.length + j.length <= sizeLine /\ Q (.str (i ++ j)) H) := by
  intro pins s σ H x y v u Q I rx ry h;obtain ⟨i, j, rfl, rfl, hz, q⟩ := h;obtain ⟨t, rfl⟩ := rx;obtain ⟨t', rfl⟩ := ry;exact add_str (fun t' tk => ⟨.str (i ++ j), H, I.tok _, ⟨_, rfl⟩, q⟩) hz
theorem mi {x : V} {us : List Value} (r : Vals [x] us) : ∃ u, us = [u] /\ RelV x u := by
  cases r with
  | cons r1 r2 => cases r2; exact ⟨_, rfl, r1⟩
theorem gf : ue X (.builtin "abs") (fun xs H Q => ∃ i, xs = [.int i] /\ Q (.int (if i < 0 then -i else i)) H) := by
  intro pins s σ H xs us Q I r h;obtain ⟨i, rfl, q⟩ := h;obtain ⟨u, rfl, t, rfl⟩ := mi r;exact call_abs_int fun u tk => ⟨.int (if i < 0 then -i else i), H, I.tok _, ⟨_, rfl⟩, q⟩
end
end L2
namespace L2
open PySem PySem.Spec PyProof.Rows
structure ObjM (h : Heap) (x dx C : Addr) (mA : Str -> Option Value) : Prop where
  obj : h.get? x = some (PySem.W.instObj C dx)
  ns : h.Ns1 dx mA
  ne : dx ≠ x
theorem zdu {h : Heap} {dx : Addr} {mA : Str -> Option Value} (n : h.Ns1 dx mA) : ∃ od, h.get? dx = some od /\ ∀ name, PySem.W.lookIn name od = some (mA name) := by
  obtain ⟨o, es, ep, ho, hd, hk, _, hm⟩ := n;refine ⟨o, ho, fun name => ?_⟩;have e := hm name;unfold nsFind findBy at e;rw [<- Array.find?_toList] at e;unfold PySem.W.lookIn;rw [hd];dsimp only
  split
  . rename_i y q
    rw [q] at e;exact congrArg some e
  . rename_i q
    rw [q] at e
    have a : es.toList.any (·.refKey) = false := by
      rw [List.any_eq_false];intro y hy;obtain ⟨z, t, hkey⟩ := hk y (Array.mem_toList_iff.mp hy);simp [DictEntry.refKey, hkey]
    have a' : ¬ es.toList.any (·.refKey) = true := by rw [a]; exact Bool.false_ne_true
    rw [if_neg a'];exact congrArg some e
theorem ObjM.look {h : Heap} {x dx C : Addr} {mA : Str -> Option Value} (I : ObjM h x dx C mA) : ∃ od, PySem.W.InstAt h x (PySem.W.instObj C dx) C (some od) /\ ∀ name, PySem.W.lookIn name od = some (mA name) :=
  let ⟨od, ho, hl⟩ := zdu I.ns
  ⟨od, ⟨I.obj, rfl, rfl, ho⟩, hl⟩
section
variable {prog : Program} {w : World} {A : Around} {E : Value -> Shared -> Prop} {s : Shared} {K : Fg} {x dx C f : Addr} {mA : Str -> Option Value} {name : Str} {v : Value}
end
theorem RelO.some_of {v : V} {o : Option Value} (r : RelO (some v) o) : ∃ u, o = some u /\ RelV v u := by
  cases o with
  | none => exact (show False from r).elim
  | some u => exact ⟨u, rfl, r⟩
section
variable {P : Program} {w : World} {H H' : Hp} {h h' : Heap} {a C dx : Addr} {fs fs' : List (Str × V)}
theorem zgt (hok : HOk P w H h) (e : H a = some (.ins C dx fs)) : ∃ mA, ObjM h a dx C mA /\ (∀ f, RelO (fs.lookup f) (mA f)) /\ PySem.Within mA (fs.map (·.1)) /\ fs.length <= 1000 /\ H dx = some (.own a) := by
  obtain ⟨d, z, ne, ob, mA, n, r, q⟩ := (show ObjOk P w H h a (.ins C dx fs) from hok a _ e);exact ⟨mA, ⟨ob, n, ne⟩, r, q, z, d⟩
end
structure Cls (K : Fg) (C : Addr) : Prop where
  pg : PySem.W.plainGet K C Str.empty = true
  hd : PySem.W.hasDictIn K C = true
  po : PySem.W.plainOver K C = true
  sa : PySem.W.findIn K (.ref C) "__setattr__" = some (some (.builtin "object.__setattr__"))
theorem Cls.get {K : Fg} {C : Addr} (c : Cls K C) (f : Str) : PySem.W.plainGet K C f = true := c.pg
section
variable {X : Cx} {pins : List (Addr × Obj)} {σ : St} {H : Hp} {s : Shared} {a C dx : Addr} {fs : List (Str × V)} {f : Str} {v : V} {A : Around} {E : Value -> Shared -> Prop}
end
section
variable {X : Cx} {o e value : Expr} {f : Str} {pos pos' tpos : Pos} {ta tv : TE}
end
section
variable {X : Cx} {pins : List (Addr × Obj)} {σ : St} {H : Hp} {s : Shared} {A : Around} {E : Value -> Shared -> Prop} {Q : Value -> Shared -> Prop} {c : Value} {b : Bool}
inductive TyOf (K : Fg) (H : Hp) : V -> Value -> Prop where
  | non : TyOf K H .non (.type "NoneType")
  | bl (x : Bool) : TyOf K H (.bl x) (.type "bool")
  | int (i : Int) : TyOf K H (.int i) (.type "int")
  | str (x : Str) : TyOf K H (.str x) (.type "str")
  | flt (x : UInt64) : TyOf K H (.flt x) (.type "float")
  | lst {a : Addr} {xs : List V} (e : H a = some (.lst xs)) : TyOf K H (.ref a) (.type "list")
  | frz {a : Addr} {o : Obj} {xs : List V} (e : H a = some (.frz o (.lst xs))) : TyOf K H (.ref a) (.type "list")
  | tup {a : Addr} {xs : List V} (e : H a = some (.tup xs)) : TyOf K H (.ref a) (.type "tuple")
  | dK {a : Addr} {kvs : List (Key × V)} (e : H a = some (.dK kvs)) : TyOf K H (.ref a) (.type "dict")
  | dT {a : Addr} {kvs : List (List Key × V)} (e : H a = some (.dT kvs)) : TyOf K H (.ref a) (.type "dict")
  | ins {a C dx : Addr} {fs : List (Str × V)} (e : H a = some (.ins C dx fs)) (cl : Cls K C) (ha : PySem.W.findIn K (.ref C) "__class__" = some (some (.builtin "object.__class__")))
      (hn : PySem.W.specialIn K (.builtin "object.__class__") "__get__" = some (some (.builtin "getset_descriptor.__get__"))) (htk : PySem.W.takesIn K (.builtin "object.__class__") = some true)
      (hm : PySem.W.mroIn K C (.type "object") = some true) : TyOf K H (.ref a) (.ref C)
theorem zem {x : V} {u t : Value} (I : Inv X pins σ H s) (rx : RelV x u) (ty : TyOf X.K H x t) (e : PySem.W.kitOne X.K t c = some b) (h : ∀ tk, Q (.bool b) { s with toks := tk }) :
    wpAny (model X.prog X.w) A (call (.builtin "isinstance") [u, c]) Q E s := by
  cases ty with
  | non => cases (show u = Value.none from rx); exact PySem.W.kia_one PySem.W.kitx_none I.kIn True.intro e (fun z => nomatch z) h
  | bl y => cases (show u = Value.bool y from rx); exact PySem.W.kia_one PySem.W.kitx_bool I.kIn True.intro e (fun z => nomatch z) h
  | int i => obtain ⟨t, q⟩ := (show ∃ t, u = Value.int i t from rx); cases q; exact PySem.W.kia_one PySem.W.kitx_int I.kIn True.intro e (fun z => nomatch z) h
  | str y => obtain ⟨t, q⟩ := (show ∃ t, u = Value.str y t from rx); cases q; exact PySem.W.kia_one PySem.W.kitx_str I.kIn True.intro e (fun z => nomatch z) h
  | flt y => obtain ⟨t, q⟩ := (show ∃ t, u = Value.float y t from rx); cases q; exact PySem.W.kia_one PySem.W.kitx_float I.kIn True.intro e (fun z => nomatch z) h
  | @lst a xs ea =>
    cases (show u = Value.ref a from rx);obtain ⟨_, _, n, _, h1⟩ := (show ObjOk X.prog X.w H s.heap a (.lst xs) from I.hok a _ ea);exact PySem.W.kia_one PySem.W.kitx_list I.kIn ⟨_, h1, rfl⟩ e (fun z => nomatch z) h
  | @frz a ob xs ea =>
    cases (show u = Value.ref a from rx);obtain ⟨_, _, _, n, _, h1⟩ := (show ObjOk X.prog X.w H s.heap a (.frz ob (.lst xs)) from I.hok a _ ea);exact PySem.W.kia_one PySem.W.kitx_list I.kIn ⟨_, h1, rfl⟩ e (fun z => nomatch z) h
  | @tup a xs ea =>
    cases (show u = Value.ref a from rx);obtain ⟨_, _, _, p⟩ := (show ObjOk X.prog X.w H s.heap a (.tup xs) from I.hok a _ ea);obtain ⟨o, h1, h2, _⟩ := p;exact PySem.W.kia_one PySem.W.kitx_tuple I.kIn ⟨o, h1, h2⟩ e (fun z => nomatch z) h
  | @dK a kvs ea =>
    cases (show u = Value.ref a from rx);obtain ⟨_, _, vs, _, p⟩ := (show ObjOk X.prog X.w H s.heap a (.dK kvs) from I.hok a _ ea);obtain ⟨o, es, ep, h1, h2, _⟩ := p;exact PySem.W.kia_one PySem.W.kitx_dict I.kIn ⟨o, h1, h2.1⟩ e (fun z => nomatch z) h
  | @dT a kvs ea =>
    cases (show u = Value.ref a from rx);obtain ⟨_, _, xs, _, o, es, ep, h1, h2, _⟩ := (show ObjOk X.prog X.w H s.heap a (.dT kvs) from I.hok a _ ea);exact PySem.W.kia_one PySem.W.kitx_dict I.kIn ⟨o, h1, h2.1⟩ e (fun z => nomatch z) h
  | @ins a C dx fs ea cl ha hn htk hm =>
    cases (show u = Value.ref a from rx);obtain ⟨mA, O, _⟩ := zgt I.hok ea;obtain ⟨od, J, _⟩ := O.look;exact PySem.W.kia_one (PySem.W.kitx_own (cl.get _) cl.hd ha hn htk hm) I.kIn J e (fun z => nomatch z) h
end
end L2
namespace L2
open PySem PySem.Spec PyProof.Rows
structure Room (k : Nat) (A : Around) : Prop where
  hd : A.handled = none
  dp : A.depth + 3 * k + 5 < recursionLimit
  un : A.units + 16 * k + 200 < cLine
theorem Room.mono {j k : Nat} {A : Around} (r : Room k A) (h : j <= k) : Room j A := ⟨r.hd, by have := r.dp; omega, by have := r.un; omega⟩
theorem Room.deeper {k : Nat} {A : Around} (r : Room (k + 1) A) (env : Env) : Room k (A.deeper env) :=
  ⟨r.hd, by have := r.dp; show A.depth + 1 + 3 * k + 5 < _; omega, by have := r.un; show A.units + 3 + 16 * k + 200 < _; omega⟩
theorem Room.in1 {k : Nat} {A : Around} (r : Room (k + 1) A) : Room k A.in1 :=
  ⟨r.hd, by have := r.dp; show A.depth + 3 * k + 5 < _; omega, by have := r.un; show A.units + 1 + 16 * k + 200 < _; omega⟩
theorem Room.depth {k : Nat} {A : Around} (r : Room k A) : A.depth < recursionLimit := by have := r.dp; omega
def tNil : TA := fun _ H Q => Q [] H
def zdi (ta : TE) (tr : TA) : TA := fun σ H Q => ta σ H fun x H1 => tr σ H1 fun xs H2 => Q (x :: xs) H2
section
variable {X : Cx} {e : Expr} {es : List Expr} {te : TE} {t : TA} {pos : Pos}
theorem zb : PA X [] tNil := fun _ _ _ _ H Q I h => Calls.spliced_nil ⟨[], H, I, .nil, h⟩
theorem za (ha : PE X e te) (hr : PA X es t) (hs : starEach (e :: es) X.env = (false, eval e X.env) :: starEach es X.env := by rfl) : PA X (e :: es) (zdi te t) := by
  intro pos pins s σ H Q I h;rw [hs]
  show wpAny _ _ (spliced ((false, eval e X.env) :: backTo pos (starEach es X.env))) _ _ s
  refine Calls.spliced_cons (thn (ha pins s σ H _ I h) fun u s1 ⟨x, H1, I1, r1, q1⟩ => ?_);exact thn (hr pos pins s1 σ H1 _ I1 q1) fun us s2 ⟨xs, H2, I2, r2, q2⟩ => ⟨x :: xs, H2, I2, .cons r1 r2, q2⟩
def tTup (t : TA) : TE := fun σ H Q => t σ H fun xs H1 => xs.length <= sizeLine /\ ∀ p, H1 p = none -> Q (.ref p) (upd H1 p (.tup xs))
def tLst (t : TA) : TE := fun σ H Q => t σ H fun xs H1 => xs.length <= sizeLine /\ ∀ p, H1 p = none -> Q (.ref p) (upd H1 p (.lst xs))
theorem xw {x1} (h : PA X es t) : PE X (.Tuple es x1 pos) (tTup t) := by
  intro pins s σ H Q I hq;refine wpAny_Tuple_spliced (thn (h pos pins s σ H _ I hq) fun us s1 ⟨xs, H1, I1, r, z, q⟩ => ⟨by rw [<- r.length]; exact z, ?_⟩);have hf : H1 s1.heap.objs.size = none := I1.hok.fresh (Zm _);refine ⟨.ref s1.heap.objs.size, upd H1 s1.heap.objs.size (.tup xs), I1.laid (t' := s1.toks) (fun b u e => Heap.get?_push_of_some _ e) (Zm _) ?_, rfl, q _ hf⟩;exact ⟨z, us, r, ⟨_, Heap.get?_push_size _ rfl, rfl, _, rfl, rfl⟩⟩
theorem vm (h : PA X es t) : PE X (.List es pos) (tLst t) := by
  intro pins s σ H Q I hq;refine wpAny_List_spliced (thn (h pos pins s σ H _ I hq) fun us s1 ⟨xs, H1, I1, r, z, q⟩ => ⟨by rw [<- r.length]; exact z, ?_⟩);have hf : H1 s1.heap.objs.size = none := I1.hok.fresh (Zm _);refine ⟨.ref s1.heap.objs.size, upd H1 s1.heap.objs.size (.lst xs), I1.laid (t' := s1.toks) (fun b u e => Heap.get?_push_of_some _ e) (Zm _) ?_, rfl, q _ hf⟩;exact ⟨z, us, 0, r, Heap.get?_push_size _ rfl⟩
end
abbrev Sp := List V -> Hp -> VK -> XK -> Prop
abbrev CXT := List Env -> Hp -> Shared -> XK -> Value -> Shared -> Prop
structure Env0 (P : Program) (w : World) (K : Fg) (mg : Str -> Option Value) (base : Heap) (A : Around) (outer : List Env) (s : Shared) (H : Hp) : Prop where
  frames : A.frames = some outer
  mod : Mod K mg base
  bs : ∀ b o, base.get? b = some o -> s.heap.get? b = some o /\ H b = none
  bsz : base.objs.size <= s.heap.objs.size
  funs : s.heap.FunFrames base outer
  frf : ∀ b ∈ frs outer, H b = none
  hok : HOk P w H s.heap
  bare : AllBare s.gens
def CE (outer : List Env) (P : Program) (w : World) (H : Hp) (s : Shared) (Q : VK) (u : Value) (s' : Shared) : Prop :=
  ∃ v H', s'.os = s.os /\ AllBare s'.gens /\ Un (frs outer) [] H H' s.heap s'.heap /\ HOk P w H' s'.heap /\ RelV v u /\ Q v H'
def CR (CX : CXT) (outer : List Env) (P : Program) (w : World) (H : Hp) (s : Shared) (Q : VK) (E : XK) (r : Result) (s' : Shared) : Prop :=
  match r with
  | .ok (.ret u) => CE outer P w H s Q u s'
  | .ok _ => False
  | .error e => CX outer H s E e s'
structure FnOk (P : Program) (w : World) (K : Fg) (mg : Str -> Option Value) (base : Heap) (CX : CXT) (k : Nat) (f : Addr) (fd : FuncData) (ps : List Str) (sp : Sp) : Prop where
  len : ∀ vs H Q E, sp vs H Q E -> vs.length = ps.length
  run : ∀ (A : Around) (outer : List Env) (s : Shared) (H : Hp) (args : Args) (us : List Value) (vs : List V) (Q : VK) (E : XK), Room k A -> Env0 P w K mg base A outer s H -> BindsTo s fd args (ps.zip us) -> Vals vs us -> sp vs H Q E ->
    codeAny (model P w) A (.call (.ref f) args) (CR CX outer P w H s Q E) s
theorem Env0.in1 {P : Program} {w : World} {K : Fg} {mg : Str -> Option Value} {base : Heap} {A : Around} {outer : List Env} {s : Shared} {H : Hp} (e : Env0 P w K mg base A outer s H) :
    Env0 P w K mg base A.in1 outer s H := ⟨e.frames, e.mod, e.bs, e.bsz, e.funs, e.frf, e.hok, e.bare⟩
section
variable {X : Cx} {pins : List (Addr × Obj)} {σ : St} {H : Hp} {s s' : Shared}
theorem Inv.env0 (I : Inv X pins σ H s) : Env0 X.prog X.w X.K X.mg X.base X.A X.stack s H :=
  ⟨I.ok.frames, I.ok.mod, I.bs, Zd I.ok.bsz I.sz, I.stack, I.stkFree, I.hok, I.bare⟩
theorem Inv.after {Q : VK} {u : Value} (I : Inv X pins σ H s) (h : CE X.stack X.prog X.w H s Q u s') : EP X pins σ Q u s' := by
  obtain ⟨v, H', os, bare, un, hok, r, q⟩ := h;obtain ⟨hh, g, d, t, os'⟩ := s';obtain rfl : os' = s.os := os;exact ⟨v, H', I.call (h' := hh) (g' := g) (d' := d) (t' := t) (ch := []) un hok bare (fun b z => absurd z (by simp)), r, q⟩
end
def bu (sp : Sp) (dvs : List V) (E : XK) (t : TA) : TE := fun σ H Q => t σ H fun vs H1 => sp (vs ++ dvs) H1 Q E
def Binds (K : Fg) (fd : FuncData) (ps : List Str) (ds : List Value) : Prop :=
  ∀ (s : Shared) (us : List Value), K.In s.heap -> (us ++ ds).length = ps.length -> BindsTo s fd ⟨us, []⟩ (ps.zip (us ++ ds))
theorem Binds.all {K : Fg} {fd : FuncData} {ps : List Str} (h : ∀ us : List Value, us.length = ps.length -> bindArgs fd ⟨us, []⟩ = pure (ps.zip us)) : Binds K fd ps [] := fun s us _ hl => by
  rw [Yb] at hl ⊢;exact .of_eq (h us hl)
def jl (CX : CXT) (X : Cx) (E : XK) : Prop := ∀ (pins : List (Addr × Obj)) (σ : St) (H : Hp) (s : Shared) (e : Value) (s' : Shared), Inv X pins σ H s -> CX X.stack H s E e s' -> X.xe e s'
section
variable {X : Cx} {CX : CXT} {k : Nat} {f C : Addr} {fd : FuncData} {ps : List Str} {sp : Sp} {dvs : List V} {ds : List Value} {E : XK} {x m : Str} {p pos apos : Pos} {e o : Expr} {es : List Expr} {ta : TE} {t : TA}
theorem run_fn {pins : List (Addr × Obj)} {σ : St} {H : Hp} {s : Shared} {Q : VK} {us : List Value} {vs : List V} (F : FnOk X.prog X.w X.K X.mg X.base CX k f fd ps sp) (hr : Room k X.A) (hb : Binds X.K fd ps ds) (hd : Vals dvs ds) (hx : jl CX X E)
    (I : Inv X pins σ H s) (r : Vals vs us) (h : sp (vs ++ dvs) H Q E) : wpAny (model X.prog X.w) X.A (call (.ref f) us) (EP X pins σ Q) X.xe s := by
  have r2 : Vals (vs ++ dvs) (us ++ ds) := r.append hd;have hl : (us ++ ds).length = ps.length := by rw [<- r2.length]; exact F.len _ _ _ _ h
  refine wpAny_call (codeAny_mono (F.run X.A X.stack s H ⟨us, []⟩ (us ++ ds) (vs ++ dvs) Q E hr I.env0 (hb s us I.kIn hl) r2 h) fun r s' hq => ?_)
  cases r with
  | error e => exact hx pins σ H s e s' I hq
  | ok fl =>
    cases fl with
    | ret u => exact I.after hq
    | next => exact False.elim hq
    | brk => exact False.elim hq
    | cont => exact False.elim hq
theorem zbw (F : FnOk X.prog X.w X.K X.mg X.base CX k f fd ps sp) (hr : Room k X.A) (hg : Gl X x) (hm : X.mg x = some (.ref f)) (hk : PySem.W.keepIn X.K (.ref f) = true) (hb : Binds X.K fd ps ds) (hd : Vals dvs ds) (hx : jl CX X E)
    (ha : PA X (e :: es) t) (hdb : (x == ("__debug__" : Str)) = false := by decide) (he : starEach (e :: es) X.env = (false, eval e X.env) :: starEach es X.env := by rfl) (hpl : (backTo pos (starEach es X.env)).any (·.1) = false := by rfl) :
    PE X (.Call (.Name x p) (e :: es) [] pos) (bu sp dvs E t) := by
  intro pins s σ H Q I h;refine wpAny_Call_Name_kw (j0 I hg hm ?_ hdb);refine PySem.W.callWith_K (h₀ := X.base) I.ok.mod.kin hk (thn (ha pos pins s σ H _ I h) fun us s1 ⟨vs, H1, I1, r, q⟩ => ⟨I1.kIn, ?_⟩) he hpl;exact run_fn F hr hb hd hx I1 r q
end
def PK (X : Cx) (kws : List Keyword) (t : TA) : Prop :=
  ∀ (pos : Pos) (pins : List (Addr × Obj)) (s : Shared) (σ : St) (H : Hp) (Q : List V -> Hp -> Prop), Inv X pins σ H s -> t σ H Q -> wpAny (model X.prog X.w) X.A (evalAll ((backToKw pos (keywordEach kws X.env)).map (·.2))) (AP X pins σ Q) X.xe s
section
variable {X : Cx} {CX : CXT} {k : Nat} {f C : Addr} {fd : FuncData} {ps ks : List Str} {sp : Sp} {E : XK} {x m : Str} {p pos apos kpos : Pos} {e o : Expr} {es : List Expr} {kws : List Keyword} {te ta : TE} {t tk : TA} {nm : Option Str}
theorem pk_nil : PK X [] tNil := fun _ _ _ _ H Q I h => wpAny_evalAll_nil ⟨[], H, I, .nil, h⟩
theorem zhf (ha : PE X e te) (hr : PK X kws t) : PK X (⟨nm, e, kpos⟩ :: kws) (zdi te t) := by
  intro pos pins s σ H Q I h
  show wpAny _ _ (evalAll ((do let v <- eval e X.env; standAt pos; pure v) :: (backToKw pos (keywordEach kws X.env)).map (·.2))) _ _ s
  refine wpAny_evalAll_cons (wpAny_bind (thn (ha pins s σ H _ I h) fun u s1 ⟨x, H1, I1, r1, q1⟩ => wpAny_bind (wpAny_standAt (wpAny_pure ?_))));exact thn (hr pos pins s1 σ H1 _ I1 q1) fun us s2 ⟨xs, H2, I2, r2, q2⟩ => ⟨x :: xs, H2, I2, .cons r1 r2, q2⟩
variable {g : List Value -> List Value -> List Value} {gV : List V -> List V -> List V}
end
structure zn (N P : List Str) (sc : Scope) : Prop where
  kind : sc.kind = .function
  co : sc.isCoroutine = false
  gen : sc.isGenerator = false
  nd : N.Nodup
  pre : N.take P.length = P
  par : ∀ x ∈ P, sc.names.lookup x = some .local \/ sc.names.lookup x = some .cell
  nofree : ∀ y ∈ sc.names, y.2 ≠ .free
theorem d7 {kindOf : Str -> Option NameKind} {x : Str} : ∀ {binds : List (Str × Value)} {m : Str -> Option Value}, (∀ v, (x, v) ∉ binds) -> bindL kindOf binds m x = m x
  | [], _, _ => rfl
  | (n, v) :: r, m, h => by
    unfold bindL;rw [d7 fun w hw => h w (Zv _ hw)]
    split
    . have : x ≠ n := by rintro rfl; exact h v ZA
      simp [this]
    . rfl
theorem ci {kindOf : Str -> Option NameKind} {x : Str} : ∀ {binds : List (Str × Value)} {m : Str -> Option Value}, (∀ v, (x, v) ∉ binds) -> bindC kindOf binds m x = m x
  | [], _, _ => rfl
  | (n, v) :: r, m, h => by
    unfold bindC;rw [ci fun w hw => h w (Zv _ hw)]
    split
    . rfl
    . have : x ≠ n := by rintro rfl; exact h v ZA
      simp [this]
theorem cu {kindOf : Str -> Option NameKind} {x : Str} {v : Value} : ∀ {P : List Str} {vs : List Value} {i : Nat} {m : Str -> Option Value}, P.Nodup -> P[i]? = some x -> vs[i]? = some v -> kindOf x = some .local ->
    bindL kindOf (P.zip vs) m x = some v
  | [], _, _, _, _, h, _, _ => by simp at h
  | _ :: _, [], _, _, _, _, h, _ => by simp at h
  | p :: P, w :: vs, 0, m, nd, h1, h2, hk => by
    simp at h1 h2; subst h1; subst h2
    show bindL kindOf ((p, w) :: P.zip vs) m p = _
    unfold bindL;rw [d7 fun v hv => (ZV.mp nd).1 (YN hv).1, if_pos hk];simp
  | p :: P, w :: vs, i + 1, m, nd, h1, h2, hk => by
    show bindL kindOf ((p, w) :: P.zip vs) m x = _
    unfold bindL;exact cu (i := i) (ZV.mp nd).2 (by simpa using h1) (by simpa using h2) hk
theorem cq {kindOf : Str -> Option NameKind} {x : Str} {v : Value} : ∀ {P : List Str} {vs : List Value} {i : Nat} {m : Str -> Option Value}, P.Nodup -> P[i]? = some x -> vs[i]? = some v -> kindOf x ≠ some .local ->
    bindC kindOf (P.zip vs) m x = some v
  | [], _, _, _, _, h, _, _ => by simp at h
  | _ :: _, [], _, _, _, _, h, _ => by simp at h
  | p :: P, w :: vs, 0, m, nd, h1, h2, hk => by
    simp at h1 h2; subst h1; subst h2
    show bindC kindOf ((p, w) :: P.zip vs) m p = _
    unfold bindC;rw [ci fun v hv => (ZV.mp nd).1 (YN hv).1, if_neg hk];simp
  | p :: P, w :: vs, i + 1, m, nd, h1, h2, hk => by
    show bindC kindOf ((p, w) :: P.zip vs) m x = _
    unfold bindC;exact cq (i := i) (ZV.mp nd).2 (by simpa using h1) (by simpa using h2) hk
def start (N : List Str) (vs : List V) : St := vs.map some ++ List.replicate (N.length - vs.length) none
def cxOf (CX : CXT) (P : Program) (w : World) (K : Fg) (mg : Str -> Option Value) (base : Heap) (N : List Str) (qual : Str) (scope : Scope) (f : Addr) (cd : Value) (A : Around) (outer : List Env) (s : Shared) (H : Hp) (E : XK) : Cx where
  prog := P
  w := w
  K := K
  mg := mg
  base := base
  A := A.deeper (envOfC qual scope s.heap.objs.size f cd)
  N := N
  s₀ := s
  H₀ := H
  env := envOfC qual scope s.heap.objs.size f cd
  outer := outer
  stack := envOfC qual scope s.heap.objs.size f cd :: outer
  ex := []
  calm := true
  fn := fun _ => true
  pn := []
  xe := fun e s' => wpAny (model P w) (A.deeper (envOfC qual scope s.heap.objs.size f cd)) (leaving (envOfC qual scope s.heap.objs.size f cd) e) (fun _ s'' => CX outer H s E e s'') (fun e' s'' => CX outer H s E e' s'') s'
theorem zaw {sc : Scope} {n : Nat} {x : Str} (h : sc.names.lookup x = some .cell) : ∃ c, (cellsFrom n sc.names []).lookup x = some c := by
  have q := PySem.W.cellsFrom_some sc.names n [] (.inl h);exact Yo.mp q
theorem zd7 {CX : CXT} {P : Program} {w : World} {K : Fg} {mg : Str -> Option Value} {base : Heap} {N ps : List Str} {qual : Str} {scope : Scope} {f : Addr} {cd : Value} {A : Around} {outer : List Env} {s s1 : Shared} {H : Hp} {E : XK} {us : List Value} {vs : List V}
    (S : zn N ps scope) (hd : A.handled = none) (e0 : Env0 P w K mg base A outer s H) (hl : vs.length = ps.length) (r : Vals vs us)
    (x : InCallC s s.heap.objs.size (bindL (envOfC qual scope s.heap.objs.size f cd).kindOf (ps.zip us) fun _ => none) (cellsFrom (s.heap.objs.size + 1) scope.names []) (bindC (envOfC qual scope s.heap.objs.size f cd).kindOf (ps.zip us) fun _ => none) s1) :
    Inv (cxOf CX P w K mg base N qual scope f cd A outer s H E) [] (start N vs) H s1 := by
  have hpl : ps.length <= N.length := by have := congrArg List.length S.pre; rw [Zj] at this; omega
  obtain ⟨h1, tk, rfl, hk⟩ := x.done;have noA : ∀ b : Addr, b ∉ (cxOf CX P w K mg base N qual scope f cd A outer s H E).ex := fun b z => absurd (show b ∈ ([] : List Addr) from z) (by simp)
  refine ⟨⟨e0.mod, S.kind, rfl, rfl, Zm _, fun y z c h1 h2 => ?_, fun y hy => ?_, fun y c _ h => ?_, fun _ => hd, Around.frames_deeper e0.frames, .inr ⟨rfl, rfl⟩, fun b z => absurd z (noA b), e0.bs, e0.bsz, fun b _ _ => noA b, fun b z => absurd z (noA b), e0.funs, e0.frf⟩,
    rfl, e0.bare, Un.kept hk, ⟨_, x.toInCall.ns, fun i y v h1 h2 h3 => ?_⟩, fun y c h => ⟨_, x.cell y c h⟩, e0.hok.fresh (Zm _), fun y c h => ?_, fun p hp => absurd (show p ∈ ([] : List (Addr × Obj)) from hp) (by simp), e0.hok.kept hk, ?_⟩
  . exact name_of_addr x.apart (PySem.mem_of_lookup h1) (PySem.mem_of_lookup h2)
  . have hy : scope.names.lookup y = some .cell \/ scope.names.lookup y = some .free := hy
    rcases hy with hy | hy
    . exact zaw hy
    . exact absurd rfl (S.nofree _ (PySem.mem_of_lookup hy))
  . exact YM (x.above y c (PySem.mem_of_lookup h))
  . have hi : i < vs.length := by
      unfold start at h2
      by_cases hi : i < vs.length
      . exact hi
      . rw [Zf (by simpa using hi)] at h2
        rw [ZZ] at h2
        split at h2 <;> cases h2
    have ha : vs[i]? = some v := by
      unfold start at h2;rw [Zg (by simpa using hi), Ze] at h2
      cases e : vs[i]? with
      | none => rw [e] at h2; cases h2
      | some a => rw [e] at h2; cases h2; rfl
    obtain ⟨u, hu, rv⟩ := r.get ha
    have hp : ps[i]? = some y := by
      rw [<- S.pre, List.getElem?_take_of_lt (by omega)]; exact h1
    have ndP : ps.Nodup := by rw [<- S.pre]; exact S.nd.sublist (List.take_sublist _ _)
    refine ⟨u, rv, ?_⟩
    rcases S.par y (Zi hp) with k | k
    . exact .inl ⟨k, cu ndP hp hu k⟩
    . obtain ⟨c, e⟩ := zaw (n := s.heap.objs.size + 1) k
      refine .inr ⟨.inl k, c, e, ?_⟩;have q := x.cell y c e;rw [cq ndP hp hu (by show scope.names.lookup y ≠ _; rw [k]; decide)] at q;exact q
  . exact e0.hok.fresh (YM (x.above y c (PySem.mem_of_lookup h)))
  . unfold start
    show _ = N.length
    rw [Zo, Za, ZI];omega
theorem fn_of {CX : CXT} {P : Program} {w : World} {K : Fg} {mg : Str -> Option Value} {base : Heap} {k : Nat} {f : Addr} {name qual : Str} {params : Arguments} {body : List Stmt} {scope : Scope} {dV kV doc pm cdv ct oc : Value} {an od : Option Addr}
    {osl : Array (Option Value)} {N ps : List Str} {sp : Sp} (lk : K.lookup f = some ⟨oc, od, .func (PySem.W.fnOf name qual params body scope dV kV doc pm an cdv ct), osl⟩) (hcd : PySem.W.codeIn K cdv qual = true) (S : zn N ps scope)
    (len : ∀ vs H Q E, sp vs H Q E -> vs.length = ps.length)
    (hbody : ∀ (A : Around) (outer : List Env) (s : Shared) (H : Hp) (vs : List V) (Q : VK) (E : XK), Room k (A.deeper (envOfC qual scope s.heap.objs.size f cdv)) -> sp vs H Q E ->
      ∃ t, PSs (cxOf CX P w K mg base N qual scope f cdv A outer s H E) body t /\ t { nx := fun _ H' => Q .non H', rt := Q } (start N vs) H) :
    FnOk P w K mg base CX (k + 1) f (PySem.W.fnOf name qual params body scope dV kV doc pm an cdv ct) ps sp := by
  refine ⟨len, fun A outer s H args us vs Q E hr e0 hb r hsp => ?_⟩;have hl := len _ _ _ _ hsp;have KX : K.In s.heap := e0.mod.kin.keeps fun b o e => (e0.bs b o e).1
  have lim : s.heap.NoLimit := e0.mod.nolimit.keeps fun b o e => (e0.bs b o e).1
  have hkind : ∀ y ∈ ps.zip us, scope.names.lookup y.1 = some .local \/ (scope.names.lookup y.1 = some .cell /\ ((cellsFrom (s.heap.objs.size + 1) scope.names []).lookup y.1).isSome = true) := fun ⟨n, v⟩ hy => by
    rcases S.par n (YN hy).1 with q | q
    . exact .inl q
    . exact .inr ⟨q, PySem.W.cellsFrom_some _ _ _ (.inl q)⟩
  refine codeAny_call_function hr.depth (KX _ _ lk) rfl S.co S.gen rfl (PySem.W.codeRec_of KX hcd) (hb _ _ _ _ ?_);refine wpAny_newFunctionEnv_cells S.kind hkind fun env he s1 x => ?_
  subst he;refine ⟨lim.keeps x.toInCall.keep, codeAny_func ?_⟩;obtain ⟨t, ht, hq⟩ := hbody A outer s H vs Q E (hr.deeper _) hsp;have I : Inv (cxOf CX P w K mg base N qual scope f cdv A outer s H E) [] (start N vs) H s1 := zd7 S hr.hd e0 hl r x;refine wpAny_mono (ht [] s1 (start N vs) H _ I hq) (fun fl s' hs => ?_) fun e s' hs => hs
  have fin : ∀ {σ' : St} {H' : Hp} {v : V} {u : Value}, Inv (cxOf CX P w K mg base N qual scope f cdv A outer s H E) [] σ' H' s' -> RelV v u -> Q v H' -> CE outer P w H s Q u s' :=
    fun {σ' H' v u} J rv q => ⟨v, H', J.os, J.bare, J.base, J.hok, rv, q⟩
  cases fl with
  | ret u =>
    obtain ⟨v, σ', H', J, rv, q⟩ := hs;exact fin J rv q
  | next =>
    obtain ⟨σ', H', J, q⟩ := hs;exact fin (v := V.non) (u := Value.none) J rfl q
  | brk =>
    obtain ⟨_, _, _, q⟩ := hs;exact False.elim q
  | cont =>
    obtain ⟨_, _, _, q⟩ := hs;exact False.elim q
end L2
namespace L2
open PySem PySem.Spec PyProof.Rows
section
variable {X : Cx} {x : Str} {p pos : Pos} {e : Expr} {es : List Expr} {t : TA} {id T : String} {r : List V -> Hp -> VK -> Prop}
def tCB (r : List V -> Hp -> VK -> Prop) (t : TA) : TE := fun σ H Q => t σ H fun vs H1 => r vs H1 Q
theorem zq (hc : ue X (.builtin id) r) (hg : Gl X x) (hm : X.mg x = none) (hv : bootBuiltins x = some (.builtin id)) (ha : PA X (e :: es) t) (hn : x ≠ "__name__" := by decide) (hdb : (x == ("__debug__" : Str)) = false := by decide)
    (he : starEach (e :: es) X.env = (false, eval e X.env) :: starEach es X.env := by rfl) (hpl : (backTo pos (starEach es X.env)).any (·.1) = false := by rfl) : PE X (.Call (.Name x p) (e :: es) [] pos) (tCB r t) := by
  intro pins s σ H Q I h;refine wpAny_Call_Name_kw (ud I hg hm hv ?_ hn hdb);exact PyProof.Rows.callWith_builtin1 (thn (ha pos pins s σ H _ I h) fun us s1 ⟨vs, H1, I1, r1, q1⟩ => hc pins s1 σ H1 vs us Q I1 r1 q1) he hpl
theorem wy (hc : ue X (.type T) r) (hg : Gl X x) (hm : X.mg x = none) (hv : bootBuiltins x = some (.type T)) (ha : PA X (e :: es) t) (hn : x ≠ "__name__" := by decide) (hdb : (x == ("__debug__" : Str)) = false := by decide)
    (he : starEach (e :: es) X.env = (false, eval e X.env) :: starEach es X.env := by rfl) (hpl : (backTo pos (starEach es X.env)).any (·.1) = false := by rfl) : PE X (.Call (.Name x p) (e :: es) [] pos) (tCB r t) := by
  intro pins s σ H Q I h;refine wpAny_Call_Name_kw (ud I hg hm hv ?_ hn hdb);exact PyProof.Rows.callWith_type1 (thn (ha pos pins s σ H _ I h) fun us s1 ⟨vs, H1, I1, r1, q1⟩ => hc pins s1 σ H1 vs us Q I1 r1 q1) he hpl
end
end L2
namespace HT
open PySem PyProof.Rows
section
open PySem.SeqAt
open PySem.AutoSeq1 (wpAny_loadPart')
open PySem.MeetsSeq PySem.MeetsSeq2 PySem.MeetsSeq3
end
section
variable {prog : Program} {w : World} {A : Around} {E : Value -> Shared -> Prop} {s : Shared}
theorem cat_tup {t b : Addr} {vs ws : List Value} {Q : Value -> Shared -> Prop} (ht : IsTup s.heap t vs.toArray) (hb : IsTup s.heap b ws.toArray) (hv : vs ≠ [])
    (h1 : ws = [] -> Q (.ref t) s) (h2 : ws ≠ [] -> Q (.ref s.heap.objs.size) { s with heap := s.heap.push { cls := .type "tuple", data := .seq (vs ++ ws).toArray } })
    (hsz : vs.length + ws.length <= sizeLine) : wpAny (model prog w) A (binaryOp .Add (.ref t) (.ref b)) Q E s := by
  obtain ⟨⟨cls, dd, data, sl⟩, ho, hc, n, hd⟩ := id ht;obtain ⟨⟨cls2, dd2, data2, sl2⟩, ho2, hc2, n2, hd2⟩ := id hb;simp only at hc hd hc2 hd2;subst hc hd hc2 hd2;have e : vs.toArray ++ ws.toArray = (vs ++ ws).toArray := by simp
  by_cases hw : ws = []
  . exact concat_meets ⟨_, ho, rfl⟩ ⟨_, ho2, rfl⟩ noFill_tuple_add seq_tuple_add PySem.F.slot_tuple_add PySem.F.entry_tuple_add (PySem.F.args_tuple_add_2 _ _)
      (tuple_addW1 t b vs.toArray ws.toArray n n2 dd dd2 sl sl2 (by simpa using hv) (by simp [hw])) ⟨ho, ho2, h1 hw⟩
  . refine concat_meets ⟨_, ho, rfl⟩ ⟨_, ho2, rfl⟩ noFill_tuple_add seq_tuple_add PySem.F.slot_tuple_add PySem.F.entry_tuple_add (PySem.F.args_tuple_add_2 _ _)
      (tuple_addW2 t b vs.toArray ws.toArray n n2 dd dd2 sl sl2 (by simpa using hv) (by simpa using hw) (by rw [Zr, Zr]; exact hsz)) ⟨ho, ho2, ?_⟩
    rw [e];exact h2 hw
def sIx (n d : Nat) : Option Int -> Nat
  | none => d
  | some v => if v < 0 then (v + (n : Int)).toNat else min v.toNat n
theorem sIx_none (n d : Nat) : sIx n d none = d := rfl
theorem sIx_nat (n d k : Nat) : sIx n d (some (k : Int)) = min k n := by
  show (if (k : Int) < 0 then ((k : Int) + (n : Int)).toNat else min (k : Int).toNat n) = min k n
  rw [if_neg (by omega), Zw]
theorem sIx_le (n d : Nat) (hd : d <= n) (o : Option Int) : sIx n d o <= n := by
  cases o with
  | none => exact hd
  | some v =>
    show (if v < 0 then (v + (n : Int)).toNat else min v.toNat n) <= n
    by_cases hv : v < 0
    . rw [if_pos hv]; omega
    . rw [if_neg hv]; exact ZB _ _
theorem zb7 (v : Int) (n d : Nat) : (if v < 0 then max (v + (n : Int)) 0 else min v (n : Int)) = ((sIx n d (some v) : Nat) : Int) := by
  show (if v < 0 then max (v + (n : Int)) 0 else min v (n : Int)) = (((if v < 0 then (v + (n : Int)).toNat else min v.toNat n) : Nat) : Int)
  by_cases hv : v < 0
  . simp only [if_pos hv]; omega
  . simp only [if_neg hv]; omega
theorem zc8 (lo hi : Option Int) (n : Nat) : Builtin.Slice.sliceAdjust lo hi 1 (n : Int) = (((sIx n 0 lo : Nat) : Int), ((sIx n n hi : Nat) : Int)) := by
  have h1 : ¬ ((1 : Int) < 0) := by omega
  unfold Builtin.Slice.sliceAdjust;simp only [h1, if_false];refine Prod.ext ?_ ?_
  . cases lo with
    | none => rfl
    | some v => exact zb7 v n 0
  . cases hi with
    | none => rfl
    | some v => exact zb7 v n n
theorem zda (i j : Nat) : Builtin.Slice.slicePlaces (i : Int) (j : Int) 1 = j - i := by
  unfold Builtin.Slice.slicePlaces;have h1 : (1 : Int) > 0 := by omega
  simp only [h1, if_true, Int.ediv_one]
  split <;> omega
theorem e6 {v : Value} {o : Option Int} {Q : Option Int -> Shared -> Prop} (p : IsPart v o) (h : Q o s) : wpAny (model prog w) A (Builtin.Slice.slicePartIndex v) Q E s := by
  cases p with
  | none => exact slicePart_none h
  | int i t => exact slicePart_int h
theorem o4 {sl : Addr} {vl vu : Value} {lo hi : Option Int} {n : Nat} {Q : Int × Int × Nat -> Shared -> Prop} (hs : s.heap.IsSliceOf sl vl vu .none) (pl : IsPart vl lo) (pu : IsPart vu hi)
    (h : Q (((sIx n 0 lo : Nat) : Int), 1, sIx n n hi - sIx n 0 lo) s) : wpAny (model prog w) A (Builtin.Slice.sliceApplied (.ref sl) (pure (n : Int))) Q E s := by
  obtain ⟨os, hos, hcs, hds⟩ := id hs;unfold Builtin.Slice.sliceApplied Builtin.Slice.sliceFields;refine wpAny_bind (wpAny_bind (wpAny_field hos hds (x := vl) rfl (wpAny_bind (wpAny_field hos hds (x := vu) rfl (wpAny_bind (wpAny_field hos hds (x := .none) rfl (wpAny_pure ?_)))))));refine wpAny_bind (slicePart_none ?_)
  show wpAny _ _ (if ((1 : Int) == 0) = true then _ else _) _ _ s
  rw [if_neg (by decide)];refine wpAny_bind (e6 pl (wpAny_bind (e6 pu (wpAny_bind (wpAny_pure ?_)))))
  show wpAny _ _ (match Builtin.Slice.sliceAdjust lo hi 1 (n : Int) with | (lo, hi) => pure (lo, (1 : Int), Builtin.Slice.slicePlaces lo hi 1)) _ _ s
  rw [zc8 lo hi n]
  show wpAny _ _ (pure (((sIx n 0 lo : Nat) : Int), (1 : Int), Builtin.Slice.slicePlaces ((sIx n 0 lo : Nat) : Int) ((sIx n n hi : Nat) : Int) 1)) _ _ s
  rw [zda];exact wpAny_pure h
theorem zfq (xs : Array Value) (i k : Nat) : ((List.range k).filterMap fun (m : Nat) => xs[((i : Int) + (m : Int) * 1).toNat]?).toArray = ((xs.toList.drop i).take k).toArray := by
  have e : (fun (m : Nat) => xs[((i : Int) + (m : Int) * 1).toNat]?) = fun m => xs[i + m]? := by
    funext m
    have : ((i : Int) + (m : Int) * 1).toNat = i + m := by omega
    rw [this]
  rw [e];have := pick_run xs i k;rw [List.filterMap_map] at this;have e2 : ((fun x => xs[x]?) ∘ fun x => i + x) = fun m => xs[i + m]? := rfl
  rw [e2] at this;rw [this]
theorem getItem_tuple_cut {t sl : Addr} {items : Array Value} {vl vu : Value} {lo hi : Option Int} {Q : Value -> Shared -> Prop} (ht : IsTup s.heap t items) (hs : s.heap.IsSliceOf sl vl vu .none) (pl : IsPart vl lo) (pu : IsPart vu hi)
    (hw : ¬ (sIx items.size 0 lo = 0 /\ sIx items.size items.size hi = items.size))
    (h : Q (.ref s.heap.objs.size) { s with heap := s.heap.push { cls := .type "tuple", data := .seq ((items.toList.drop (sIx items.size 0 lo)).take (sIx items.size items.size hi - sIx items.size 0 lo)).toArray } })
    (hsz : items.size <= sizeLine) : wpAny (model prog w) A (getItem (.ref t) (.ref sl)) Q E s := by
  have htake : sizeOk (.seq ((items.toList.drop (sIx items.size 0 lo)).take (sIx items.size items.size hi - sIx items.size 0 lo)).toArray) := by
    show ((items.toList.drop (sIx items.size 0 lo)).take (sIx items.size items.size hi - sIx items.size 0 lo)).toArray.size <= sizeLine
    rw [Zr, Zj, ZP, ZM];omega
  have hj : sIx items.size items.size hi <= items.size := sIx_le _ _ (Zm _) hi;obtain ⟨os, hos, hcs, hds⟩ := id hs;have hTs : s.TypeIs (.ref sl) "slice" := ⟨os, hos, hcs⟩;unfold getItem
  try with_reducible refine wpAny_holding ?_
  first | refine wpAny_bind (wpAny_pure ?_) | skip
  refine wpAny_bind (wpAny_sequenceKey ht.typeIs (by decide) ?_)
  refine wpAny_bind (wpAny_callSpecial?_slot (name := Str.ofString "__getitem__") ht.typeIs PyProof.Rows.slot_tuple_getitem
    (wpAny_call_entry PyProof.Rows.slot_tuple_getitem ht.typeIs entry_tuple_getitem ?_ (args_tuple_getitem _ _)))
  show wpAny _ _ (Builtin.Tuple.tupleItemsOf (.ref t) >>= _) _ _ s
  refine wpAny_bind (tupleItemsOf_ ht ?_);refine wpAny_bind (wpAny_typeOf hTs ?_);rw [if_pos (by decide)];refine wpAny_bind (o4 hs pl pu ?_)
  have hno : ¬ ((((sIx items.size 0 lo : Nat) : Int) == 0 && (1 : Int) == 1 && (sIx items.size items.size hi - sIx items.size 0 lo) == items.size) = true) := by
    intro q;rw [Bool.and_eq_true, Bool.and_eq_true] at q;have q1 : ((sIx items.size 0 lo : Nat) : Int) = 0 := eq_of_beq q.1.1;have q2 : sIx items.size items.size hi - sIx items.size 0 lo = items.size := eq_of_beq q.2;exact hw ⟨by omega, by omega⟩
  show wpAny _ _ (if (((sIx items.size 0 lo : Nat) : Int) == 0 && (1 : Int) == 1 && (sIx items.size items.size hi - sIx items.size 0 lo) == items.size) = true then _ else _) _ _ s
  rw [if_neg hno, zfq]
  first
    | exact wpAny_bind (m := Builtin.Tuple.tupleExact _) (wpAny_newObj_type (wpAny_pure ⟨_, rfl, wpAny_pure h⟩) htake)
    | exact wpAny_bind (m := Builtin.Tuple.tupleExact _) (wpAny_newObj_type (wpAny_bind (wpAny_pure (wpAny_pure ⟨_, rfl, wpAny_pure h⟩))) htake)
    | exact wpAny_bind (wpAny_bind (m := Builtin.Tuple.tupleExact _) (wpAny_newObj_type (wpAny_pure (wpAny_pure ⟨_, rfl, wpAny_pure h⟩)) htake))
    | exact wpAny_bind (wpAny_bind (m := Builtin.Tuple.tupleExact _) (wpAny_newObj_type (wpAny_pure ⟨_, rfl, wpAny_pure h⟩) htake))
end
end HT
namespace L2
open PySem PySem.Spec PyProof.Rows
abbrev TO := St -> Hp -> (Option Int -> Hp -> Prop) -> Prop
def PO (X : Cx) (e : Option Expr) (t : TO) : Prop :=
  ∀ (pins : List (Addr × Obj)) (s : Shared) (σ : St) (H : Hp) (Q : Option Int -> Hp -> Prop), Inv X pins σ H s -> t σ H Q ->
    wpAny (model X.prog X.w) X.A (evalPart e X.env) (fun u s' => ∃ o H', Inv X pins σ H' s' /\ IsPart u o /\ Q o H') X.xe s
def zb4 : TO := fun _ H Q => Q none H
def tPart (t : TE) : TO := fun σ H Q => t σ H fun x H1 => ∃ i, x = .int i /\ Q (some i) H1
theorem fr {ns : List Int} : ∀ {us : List Value}, Vals (ns.map V.int) us -> IntsAre us ns := by
  induction ns with
  | nil => intro us r; rw [YB] at r; cases r; exact .nil
  | cons n ns ih =>
    intro us r;rw [ZO] at r
    cases r with
    | cons r1 r2 =>
      obtain ⟨t, e⟩ := r1;subst e;exact .cons n t (ih r2)
section
variable {X : Cx} {e : Expr} {te : TE} {lo hi : Option Expr} {tl th : TO} {pos p2 : Pos}
theorem uk : PO X none zb4 := by
  intro pins s σ H Q I h;rw [evalPart_none];exact wpAny_pure ⟨none, H, I, .none, h⟩
theorem uf (h : PE X e te) : PO X (some e) (tPart te) := by
  intro pins s σ H Q I hw;rw [evalPart_some];refine thn (h pins s σ H _ I hw) fun u s1 ⟨x, H1, I1, r1, q1⟩ => ?_
  obtain ⟨i, rfl, q⟩ := q1;obtain ⟨t, rfl⟩ := r1;exact ⟨some i, H1, I1, .int i t, q⟩
def SlR (X : Cx) (r : V -> Option Int -> Option Int -> Hp -> VK -> Prop) : Prop :=
  ∀ (pins : List (Addr × Obj)) (s : Shared) (σ : St) (H : Hp) (x : V) (v vl vu : Value) (lo hi : Option Int) (sl : Addr) (Q : VK), Inv X pins σ H s -> RelV x v -> s.heap.IsSliceOf sl vl vu .none -> IsPart vl lo -> IsPart vu hi -> r x lo hi H Q ->
    ∃ T id, typeLookup (.type T) "__getitem__" = pure (some (.builtin id)) /\ s.TypeIs v T /\ wpAny (model X.prog X.w) X.A (getItem v (.ref sl)) (EP X pins σ Q) X.xe s
def tSl (r : V -> Option Int -> Option Int -> Hp -> VK -> Prop) (te : TE) (tl th : TO) : TE := fun σ H Q => te σ H fun x H1 => tl σ H1 fun l H2 => th σ H2 fun u H3 => r x l u H3 Q
theorem vg {r : V -> Option Int -> Option Int -> Hp -> VK -> Prop} (hr : SlR X r) (he : PE X e te) (hl : PO X lo tl) (hu : PO X hi th) : PE X (.Subscript e (.Slice lo hi none p2) pos) (tSl r te tl th) := by
  intro pins s σ H Q I h;refine Subscript_ (thn (he pins s σ H _ I h) fun v s1 ⟨x, H1, I1, r1, q1⟩ => ?_);refine wpAny_Slice (thn (hl pins s1 σ H1 _ I1 q1) fun vl s2 ⟨l, H2, I2, pl, q2⟩ => thn (hu pins s2 σ H2 _ I2 q2) fun vu s3 ⟨u, H3, I3, pu, q3⟩ => ?_);rw [evalPart_none];refine wpAny_pure ?_;have I4 : Inv X pins σ H3 { s3 with heap := s3.heap.push { cls := .type "slice", data := .fields #[vl, vu, .none] } } := I3.kept (t' := s3.toks) fun b ob q => Heap.get?_push_of_some _ q
  obtain ⟨T, id, hT, ht, hg⟩ := hr pins { s3 with heap := s3.heap.push { cls := .type "slice", data := .fields #[vl, vu, .none] } } σ H3 x v vl vu l u s3.heap.objs.size Q I4 r1 (Heap.IsSliceOf.new ..) pl pu q3
  show wpAny (model X.prog X.w) X.A (subscriptTail e (.Slice lo hi none p2) v (.ref s3.heap.objs.size)) (EP X pins σ Q) X.xe { s3 with heap := s3.heap.push { cls := .type "slice", data := .fields #[vl, vu, .none] } }
  exact tail_any (ops := [.ref s3.heap.objs.size, v]) ht hT hg (by with_unfolding_all rfl)
def cutV (xs : List V) (lo hi : Option Int) : List V := (xs.drop (HT.sIx xs.length 0 lo)).take (HT.sIx xs.length xs.length hi - HT.sIx xs.length 0 lo)
theorem im (xs : List V) (lo hi : Option Int) : (cutV xs lo hi).length <= xs.length := by
  unfold cutV;rw [Zj, ZP];omega
def rSlT (K : Fg) : V -> Option Int -> Option Int -> Hp -> VK -> Prop := fun x lo hi H Q => ∃ a xs, x = .ref a /\ SqT K H a xs /\
  ¬ (HT.sIx xs.length 0 lo = 0 /\ HT.sIx xs.length xs.length hi = xs.length) /\ ∀ p, H p = none -> Q (.ref p) (upd H p (.tup (cutV xs lo hi)))
theorem sl_tup : SlR X (rSlT X.K) := by
  intro pins s σ H x v vl vu lo hi sl Q I rx hs pl pu h;obtain ⟨a, xs, rfl, hx, hw, q⟩ := h;cases rx;obtain ⟨its, r, ht, hz⟩ := I.tuple hx;have hlen : its.toArray.size = xs.length := by rw [Zr]; exact r.length.symm
  refine ⟨"tuple", _, PyProof.Rows.slot_tuple_getitem.lookup, ht.typeIs, ?_⟩;refine HT.getItem_tuple_cut ht hs pl pu (by rw [hlen]; exact hw) ?_ (by rw [hlen]; exact hz);rw [hlen];refine ⟨.ref s.heap.objs.size, _, I.laid (t' := s.toks) (o := .tup (cutV xs lo hi)) (fun b ob q => Heap.get?_push_of_some _ q) (Zm _) ?_, rfl, q _ (I.hok.fresh (Zm _))⟩;exact ⟨Zd (im xs lo hi) hz, _, (r.drop (HT.sIx xs.length 0 lo)).take (HT.sIx xs.length xs.length hi - HT.sIx xs.length 0 lo), IsTupD.new _ _⟩
def rCatT (K : Fg) : R2 := fun x y H Q => ∃ a b xs ys, x = .ref a /\ y = .ref b /\ SqT K H a xs /\ SqT K H b ys /\ xs ≠ [] /\ xs.length + ys.length <= sizeLine /\
  (ys = [] -> Q (.ref a) H) /\ (ys ≠ [] -> ∀ p, H p = none -> Q (.ref p) (upd H p (.tup (xs ++ ys))))
theorem Vals.nil_iff {xs : List V} {us : List Value} (r : Vals xs us) : us = [] ↔ xs = [] := by
  cases r with
  | nil => simp
  | cons _ _ => simp
theorem zgu : OpR X (binaryOp .Add) (rCatT X.K) := by
  intro pins s σ H x y v u Q I rx ry h;obtain ⟨a, b, xs, ys, rfl, rfl, ha, hb, hx, hz, q1, q2⟩ := h;cases rx;cases ry;obtain ⟨its, r1, p1, _⟩ := I.tuple ha;obtain ⟨its2, r2, p2, _⟩ := I.tuple hb;refine HT.cat_tup p1 p2 (fun z => hx (r1.nil_iff.mp z)) (fun z => ⟨.ref a, H, I, rfl, q1 (r2.nil_iff.mp z)⟩) (fun z => ?_) (by rw [<- r1.length, <- r2.length]; exact hz);refine ⟨.ref s.heap.objs.size, _, I.laid (t' := s.toks) (o := .tup (xs ++ ys)) (fun b ob q => Heap.get?_push_of_some _ q) (Zm _) ?_, rfl, q2 (fun w => z (r2.nil_iff.mpr w)) _ (I.hok.fresh (Zm _))⟩;exact ⟨by rw [Zo]; exact hz, _, r1.append r2, IsTupD.new _ _⟩
end
end L2
namespace L2
open PySem PySem.Spec PyProof.Rows
def ixN (n : Nat) (i : Int) : Option Nat := if 0 <= i then (if i < n then some i.toNat else none) else if -(n : Int) <= i then some (i + n).toNat else none
def atI {α : Type} (xs : List α) (i : Int) : Option α := (ixN xs.length i).bind fun j => xs[j]?
theorem zgz {n : Nat} {i : Int} {j : Nat} (h : ixN n i = some j) : seqIndex? i n = some j /\ j < n /\ -(n : Int) <= i /\ i < n := by
  unfold ixN at h
  by_cases h0 : 0 <= i
  . rw [if_pos h0] at h
    by_cases h1 : i < n
    . rw [if_pos h1] at h
      have e : i.toNat = j := Option.some.inj h;exact ⟨by rw [seqIndex_of h0 h1, e], by omega, by omega, h1⟩
    . rw [if_neg h1] at h; cases h
  . rw [if_neg h0] at h
    by_cases h1 : -(n : Int) <= i
    . rw [if_pos h1] at h
      have e : (i + n).toNat = j := Option.some.inj h;exact ⟨by rw [seqIndex_neg (by omega) h1, e], by omega, h1, by omega⟩
    . rw [if_neg h1] at h; cases h
theorem dy {α : Type} {xs : List α} {i : Int} {v : α} (h : atI xs i = some v) : ∃ j, seqIndex? i xs.length = some j /\ xs[j]? = some v /\ j < xs.length /\ -(xs.length : Int) <= i /\ i < xs.length := by
  unfold atI at h
  cases e : ixN xs.length i with
  | none => rw [e] at h; cases h
  | some j =>
    rw [e] at h;obtain ⟨h1, h2, h3, h4⟩ := zgz e;exact ⟨j, h1, h, h2, h3, h4⟩
theorem ya {α : Type} {xs : List α} {j : Nat} {v : α} (h : xs[j]? = some v) : atI xs (j : Int) = some v := by
  have hj : j < xs.length := (Zc.mp h).1
  have e : ixN xs.length (j : Int) = some j := by
    unfold ixN;rw [if_pos (by omega), if_pos (by omega)]; simp
  unfold atI; rw [e]; exact h
theorem zgn {α : Type} (xs : List α) (v : α) : atI (xs ++ [v]) (-1) = some v := by
  have hl : (xs ++ [v]).length = xs.length + 1 := by simp
  have e : ixN (xs ++ [v]).length (-1) = some xs.length := by
    unfold ixN;rw [hl, if_neg (by decide), if_pos (by omega)]
    congr 1
    omega
  unfold atI;rw [e]
  show (xs ++ [v])[xs.length]? = some v
  simp
def zg9 (b : Expr) : Prop := ∀ o i, subscripted b false o i = operate [o, i] (getItem o i)
def IxR (X : Cx) (r : R2) : Prop :=
  ∀ (value slice : Expr) (pins : List (Addr × Obj)) (s : Shared) (σ : St) (H : Hp) (x y : V) (v u : Value) (Q : VK), Inv X pins σ H s -> RelV x v -> RelV y u -> r x y H Q ->
    subscripted slice false v u = operate [v, u] (getItem v u) -> wpAny (model X.prog X.w) X.A (subscriptTail value slice v u) (EP X pins σ Q) X.xe s
def MtR (X : Cx) (id : String) (r : V -> List V -> Hp -> VK -> Prop) : Prop :=
  ∀ (pins : List (Addr × Obj)) (s : Shared) (σ : St) (H : Hp) (x : V) (xs : List V) (v : Value) (us : List Value) (Q : VK), Inv X pins σ H s -> RelV x v -> Vals xs us -> r x xs H Q ->
    wpAny (model X.prog X.w) X.A (call (.builtin id) (v :: us)) (EP X pins σ Q) X.xe s
section
variable {X : Cx} {a b : Expr} {ta tb : TE} {pos : Pos}
theorem zw {r : R2} (hr : IxR X r) (ha : PE X a ta) (hb : PE X b tb) (hs : zg9 b) : PE X (.Subscript a b pos) (tOp r ta tb) := by
  intro pins s σ H Q I h;exact Subscript_ (binT ha hb I h fun v u s2 x y H2 I2 rx ry q => hr a b pins s2 σ H2 x y v u Q I2 rx ry q (hs _ _))
def rIxL (K : Fg) : R2 := fun x y H Q => ∃ p xs i v, x = .ref p /\ y = .int i /\ SqL K H p xs /\ atI xs i = some v /\ Q v H
def rIxT (K : Fg) : R2 := fun x y H Q => ∃ p xs i v, x = .ref p /\ y = .int i /\ SqT K H p xs /\ atI xs i = some v /\ Q v H
def rIxS : R2 := fun x y H Q => ∃ z i c, x = .str z /\ y = .int i /\ z.length <= sizeLine /\ atI z.cps.toList i = some c /\ Q (.str ⟨#[c]⟩) H
theorem z0 : IxR X (rIxL X.K) := by
  intro value slice pins s σ H x y v u Q I rx ry h hs;obtain ⟨p, xs, i, z, rfl, rfl, hq, he, q⟩ := h;cases rx;obtain ⟨t, rfl⟩ := ry;obtain ⟨its, r, pl, hz⟩ := I.list hq;obtain ⟨j, h1, h2, h3, h4, h5⟩ := dy he;obtain ⟨w, ew, rw'⟩ := r.get h2;have hl := r.length;have hn := m9;have fin : EP X pins σ Q w s := ⟨z, H, I, rw', q⟩
  by_cases h0 : 0 <= i
  . have hj : i.toNat = j := by
      rw [seqIndex_of h0 h5] at h1;exact Option.some.inj h1
    exact item_listR pl.isList h0 (by omega) (by rw [hj]; simpa using ew) fin hs
  . have hj : (i + (its.toArray.size : Int)).toNat = j := by
      rw [seqIndex_neg (by omega) h4] at h1;rw [Zr, <- hl];exact Option.some.inj h1
    exact subscriptTail_builtinR (x := w) pl.isList.typeIs slot_list_getitem.lookup
      (wpAny_getItem_list_neg (Q := fun r s' => r = w /\ EP X pins σ Q r s') pl.isList (by omega) (by rw [Zr] <;> omega) (by omega) (by rw [hj]; simpa using ew) ⟨rfl, fin⟩) hs
theorem yq : IxR X (rIxT X.K) := by
  intro value slice pins s σ H x y v u Q I rx ry h hs;obtain ⟨p, xs, i, z, rfl, rfl, hq, he, q⟩ := h;cases rx;obtain ⟨t, rfl⟩ := ry;obtain ⟨its, r, pl, hz⟩ := I.tuple hq;obtain ⟨j, h1, h2, h3, h4, h5⟩ := dy he;obtain ⟨w, ew, rw'⟩ := r.get h2;have hl := r.length;have hn := m9;have fin : EP X pins σ Q w s := ⟨z, H, I, rw', q⟩
  exact subscriptTail_builtinR (x := w) pl.typeIs slot_tuple_getitem.lookup
    (getItem_tuple (j := j) (Q := fun r s' => r = w /\ EP X pins σ Q r s') pl (by omega) (by omega) (by rw [Zr, <- hl]; exact h1) (by simpa using ew) ⟨rfl, fin⟩) hs
theorem ae : IxR X rIxS := by
  intro value slice pins s σ H x y v u Q I rx ry h hs;obtain ⟨z, i, c, rfl, rfl, hz, he, q⟩ := h;obtain ⟨t, rfl⟩ := rx;obtain ⟨t', rfl⟩ := ry;obtain ⟨j, h1, h2, h3, h4, h5⟩ := dy he;have hl : z.cps.toList.length = z.length := by simp [Str.length]
  rw [hl] at h1 h4 h5;have hn := m9
  exact tail_any (typeIs_str s z t) slot_str_getitem.lookup (getItem_str (c := c) (by
    have e1 : decide (i < -(2 ^ 63 : Int)) = false := decide_eq_false (by omega);have e2 : decide (i ≥ 2 ^ 63) = false := decide_eq_false (by omega)
    rw [e1, e2, Bool.or_false]) (by rw [h1]; simpa using h2) ⟨.str ⟨#[c]⟩, H, I.tok _, ⟨_, rfl⟩, q⟩) hs
def rSetL : V -> V -> V -> Hp -> (Hp -> Prop) -> Prop := fun o i v H Q => ∃ p xs k j, o = .ref p /\ i = .int k /\ H p = some (.lst xs) /\ ixN xs.length k = some j /\ Q (upd H p (.lst (xs.set j v)))
theorem ay (lo hi : Option Int) (n : Nat) : (sliceBounds lo hi none n).1 = ((HT.sIx n 0 lo : Nat) : Int) /\ (sliceBounds lo hi none n).2.1 = ((HT.sIx n n hi : Nat) : Int) /\ (sliceBounds lo hi none n).2.2 = 1 := by
  refine ⟨?_, ?_, rfl⟩
  . cases lo with
    | none => simp [sliceBounds, HT.sIx]
    | some i =>
      simp only [sliceBounds, HT.sIx, Option.getD_none, show (1 : Int) > 0 by decide, if_true]
      by_cases h : i < 0
      . simp only [h, if_true] <;> omega
      . simp only [h, if_false] <;> omega
  . cases hi with
    | none => simp [sliceBounds, HT.sIx]
    | some i =>
      simp only [sliceBounds, HT.sIx, Option.getD_none, show (1 : Int) > 0 by decide, if_true]
      by_cases h : i < 0
      . simp only [h, if_true] <;> omega
      . simp only [h, if_false] <;> omega
theorem bb (its : List Value) (lo hi : Option Int) : slicePick its.toArray lo hi none = ((its.drop (HT.sIx its.length 0 lo)).take (HT.sIx its.length its.length hi - HT.sIx its.length 0 lo)).toArray := by
  obtain ⟨h1, h2, h3⟩ := ay lo hi its.toArray.size;unfold slicePick;rw [h1, h2, h3];simp only [sliceRange_one, pick_run, Zr] <;> rfl
def rSlL (K : Fg) : V -> Option Int -> Option Int -> Hp -> VK -> Prop := fun x lo hi H Q => ∃ a xs, x = .ref a /\ SqL K H a xs /\ ∀ p, H p = none -> Q (.ref p) (upd H p (.lst (cutV xs lo hi)))
theorem dn : SlR X (rSlL X.K) := by
  intro pins s σ H x v vl vu lo hi sl Q I rx hs pl pu h;obtain ⟨a, xs, rfl, hx, q⟩ := h;cases rx;obtain ⟨its, r, ht, hz⟩ := I.list hx;have hlen := r.length;refine ⟨"list", _, slot_list_getitem.lookup, ht.isList.typeIs, ?_⟩;refine wpAny_getItem_list_slice ht.isList hs pl pu .none (by simp) ?_ (by rw [Zr] <;> omega);rw [bb, <- hlen];refine ⟨.ref s.heap.objs.size, _, I.laid (t' := s.toks) (o := .lst (cutV xs lo hi)) (fun b ob q => Heap.get?_push_of_some _ q) (Zm _) ?_, rfl, q _ (I.hok.fresh (Zm _))⟩;exact ⟨Zd (im xs lo hi) hz, _, 0, (r.drop (HT.sIx xs.length 0 lo)).take (HT.sIx xs.length xs.length hi - HT.sIx xs.length 0 lo), Heap.get?_push_size _ rfl⟩
def wb : V -> Bool
  | .non => true
  | .bl _ => true
  | .int _ => true
  | .str _ => true
  | _ => false
def eqV : V -> V -> Bool
  | .non, .non => true
  | .bl a, .bl b => a == b
  | .bl a, .int b => (if a then 1 else 0) == b
  | .int a, .bl b => a == (if b then 1 else 0)
  | .int a, .int b => a == b
  | .str a, .str b => a == b
  | _, _ => false
theorem eqAt_V {A : Around} {s : Shared} {y x : V} {u v : Value} (ry : RelV y u) (rx : RelV x v) (fy : wb y = true) (fx : wb x = true) : SeqAt.EqAt A s u v (eqV y x) := by
  cases y with
  | non =>
    cases ry
    cases x with
    | non => cases rx; exact SeqAt.EqAt.same _
    | bl b => cases rx; exact SeqAt.EqAt.none_bool b
    | int b => obtain ⟨t, rfl⟩ := rx; exact SeqAt.EqAt.none_int b t
    | str b => obtain ⟨t, rfl⟩ := rx; exact SeqAt.EqAt.none_str b t
    | _ => exact absurd (show false = true from fx) Bool.false_ne_true
  | bl a =>
    cases ry
    cases x with
    | non => cases rx; exact SeqAt.EqAt.bool_none a
    | bl b => cases rx; exact SeqAt.EqAt.bool_bool a b
    | int b => obtain ⟨t, rfl⟩ := rx; exact SeqAt.EqAt.bool_int a b t
    | str b => obtain ⟨t, rfl⟩ := rx; exact SeqAt.EqAt.bool_str a b t
    | _ => exact absurd (show false = true from fx) Bool.false_ne_true
  | int a =>
    obtain ⟨t', rfl⟩ := ry
    cases x with
    | non => cases rx; exact SeqAt.EqAt.int_none a t'
    | bl b => cases rx; exact SeqAt.EqAt.int_bool a t' b
    | int b => obtain ⟨t, rfl⟩ := rx; exact SeqAt.EqAt.int_int a t' b t
    | str b => obtain ⟨t, rfl⟩ := rx; exact SeqAt.EqAt.int_str a t' b t
    | _ => exact absurd (show false = true from fx) Bool.false_ne_true
  | str a =>
    obtain ⟨t', rfl⟩ := ry
    cases x with
    | non => cases rx; exact SeqAt.EqAt.str_none a t'
    | bl b => cases rx; exact SeqAt.EqAt.str_bool a t' b
    | int b => obtain ⟨t, rfl⟩ := rx; exact SeqAt.EqAt.str_int a t' b t
    | str b => obtain ⟨t, rfl⟩ := rx; exact SeqAt.EqAt.str_str a t' b t
    | _ => exact absurd (show false = true from fx) Bool.false_ne_true
  | _ => exact absurd (show false = true from fy) Bool.false_ne_true
def eqU (x : V) (u : Value) : Bool := match u with
  | .none => eqV .non x
  | .bool b => eqV (.bl b) x
  | .int i _ => eqV (.int i) x
  | .str z _ => eqV (.str z) x
  | _ => false
theorem zef {x y : V} {u : Value} (r : RelV y u) (f : wb y = true) : eqU x u = eqV y x := by
  cases y with
  | non => cases r; rfl
  | bl b => cases r; rfl
  | int i => obtain ⟨t, rfl⟩ := r; rfl
  | str z => obtain ⟨t, rfl⟩ := r; rfl
  | _ => exact absurd (show false = true from f) Bool.false_ne_true
theorem gq {A : Around} {s : Shared} {x : V} {v : Value} (rx : RelV x v) (fx : wb x = true) : ∀ {xs : List V} {us : List Value}, Vals xs us -> xs.all wb = true -> ∀ u ∈ us, SeqAt.EqAt A s u v (eqU x u)
  | _, _, .nil, _ => fun u hu => by cases hu
  | y :: xs, u :: us, .cons r t, f => fun u' hu => by
    rw [List.all_cons, Bool.and_eq_true] at f
    rcases ZK.mp hu with rfl | hu
    . rw [zef r f.1]; exact eqAt_V r rx f.1 fx
    . exact gq rx fx t f.2 u' hu
def inV (x : V) (xs : List V) : Bool := xs.any fun y => eqV y x
def rIn (K : Fg) (neg : Bool) : R2 := fun x y H Q => ∃ p xs, y = .ref p /\ (SqL K H p xs \/ SqT K H p xs) /\ wb x = true /\ xs.all wb = true /\ Q (.bl (if neg then !inV x xs else inV x xs)) H
theorem zr : ue X (.builtin "len") (fun xs H Q => ∃ p ys, xs = [.ref p] /\ (SqL X.K H p ys \/ SqT X.K H p ys) /\ Q (.int ys.length) H) := by
  intro pins s σ H xs us Q I r h;obtain ⟨p, ys, rfl, hq, q⟩ := h;obtain ⟨u, rfl, rx⟩ := mi r;cases rx;have hn := m9
  rcases hq with hq | hq
  . obtain ⟨its, r', pl, hz⟩ := I.list hq
    have hlen := r'.length;exact Calls.call_len_list pl.isList (by simp only [Zr] <;> omega) ⟨.int ys.length, H, I.tok _, ⟨s.toks + 1, by rw [Zr, hlen]⟩, q⟩
  . obtain ⟨its, r', pl, hz⟩ := I.tuple hq
    have hlen := r'.length;exact len_tuple pl (by simp only [Zr] <;> omega) ⟨.int ys.length, H, I.tok _, ⟨s.toks + 1, by rw [Zr, hlen]⟩, q⟩
theorem zak : ue X (.builtin "len") (fun xs H Q => ∃ z, xs = [.str z] /\ z.length <= sizeLine /\ Q (.int z.length) H) := by
  intro pins s σ H xs us Q I r h;obtain ⟨z, rfl, hz, q⟩ := h;obtain ⟨u, rfl, t, rfl⟩ := mi r;have hn := m9;exact len_str (by omega) ⟨.int z.length, H, I.tok _, ⟨_, rfl⟩, q⟩
theorem na : ue X (.type "list") (fun xs H Q => ∃ p ys, xs = [.ref p] /\ (SqL X.K H p ys \/ SqT X.K H p ys) /\ ∀ l, H l = none -> Q (.ref l) (upd H l (.lst ys))) := by
  intro pins s σ H xs us Q I r h;obtain ⟨p, ys, rfl, hq, q⟩ := h;obtain ⟨u, rfl, rx⟩ := mi r;cases rx
  have fin : ∀ (its : List Value), Vals ys its -> ys.length <= sizeLine -> ∀ (h' : Heap) (c' : Nat), (∀ b o', s.heap.get? b = some o' -> h'.get? b = some o') ->
      h'.get? s.heap.objs.size = some { cls := .type "list", dict := none, data := .seq its.toArray c', slots := #[] } -> EP X pins σ Q (.ref s.heap.objs.size) { s with heap := h' } := fun its r' hz h' c' kp e =>
    ⟨.ref s.heap.objs.size, _, I.laid (t' := s.toks) kp (Zm _) (show ObjOk X.prog X.w _ h' _ (.lst ys) from ⟨hz, its, c', r', e⟩), rfl, q _ (I.hok.fresh (Zm _))⟩
  rcases hq with hq | hq
  . obtain ⟨its, r', pl, hz⟩ := I.list hq
    have hlen := r'.length;obtain ⟨o, ho, hc, n, hd⟩ := pl.isList;exact call_list_seq p (.inl rfl) ho hc hd (fun h' c' kp e => fin its r' hz h' c' kp e) (by simp only [Zr] <;> omega)
  . obtain ⟨its, r', pl, hz⟩ := I.tuple hq
    have hlen := r'.length;obtain ⟨o, ho, hc, n, hd⟩ := pl;exact call_list_seq p (.inr rfl) ho hc hd (fun h' c' kp e => fin its r' hz h' c' kp e) (by simp only [Zr] <;> omega)
theorem bn : ue X (.type "tuple") (fun xs H Q => ∃ p ys, xs = [.ref p] /\ ((SqL X.K H p ys /\ ∀ l, H l = none -> Q (.ref l) (upd H l (.tup ys))) \/ (SqT X.K H p ys /\ Q (.ref p) H))) := by
  intro pins s σ H xs us Q I r h;obtain ⟨p, ys, rfl, h⟩ := h;obtain ⟨u, rfl, rx⟩ := mi r;cases rx
  rcases h with ⟨hq, q⟩ | ⟨hq, q⟩
  . obtain ⟨its, r', pl, hz⟩ := I.list hq
    have hlen := r'.length;refine call_tuple_list pl.isList (fun h' kp => ?_) (by simp only [Zr] <;> omega);have I1 : Inv X pins σ H { s with heap := h' } := I.kept (t' := s.toks) kp
    have I2 : Inv X pins σ (upd H h'.objs.size (.tup ys)) { s with heap := h'.push { cls := .type "tuple", data := .seq its.toArray } } :=
      I1.laid (t' := s.toks) (fun b o e => Heap.get?_push_of_some _ e) (Zm _) (show ObjOk X.prog X.w _ _ _ (.tup ys) from ⟨hz, its, r', IsTupD.new _ _⟩)
    exact ⟨.ref h'.objs.size, _, I2, rfl, q _ (I1.hok.fresh (Zm _))⟩
  . obtain ⟨its, r', pl, hz⟩ := I.tuple hq
    exact call_tuple_same pl ⟨.ref p, H, I, rfl, q⟩
def tyV (K : Fg) (T : String) (x : V) (H : Hp) : Prop := match x with
  | .str _ => T = "str"
  | .int _ => T = "int"
  | .ref p => (T = "list" /\ ∃ xs, SqL K H p xs) \/ (T = "tuple" /\ ∃ o, K.lookup p = some o /\ o.cls = .type "tuple" /\ o.dict = none) \/
      (T = "dict" /\ ((∃ kvs, H p = some (.dK kvs)) \/ ∃ kvs, H p = some (.dT kvs))) \/ (T = "set" /\ ∃ S n, H p = some (.set S n))
  | _ => False
theorem tyV_is {pins : List (Addr × Obj)} {σ : St} {H : Hp} {s : Shared} {T : String} {x : V} {v : Value} (I : Inv X pins σ H s) (r : RelV x v) (ty : tyV X.K T x H) :
    s.TypeIs v T /\ ∀ a, v = .ref a -> ∃ ob, s.heap.get? a = some ob /\ ob.dict = none := by
  cases x with
  | str z =>
    obtain ⟨t, rfl⟩ := r;cases (show T = "str" from ty);exact ⟨typeIs_str s z t, fun _ e => nomatch e⟩
  | int i =>
    obtain ⟨t, rfl⟩ := r;cases (show T = "int" from ty);exact ⟨typeIs_int s i t, fun _ e => nomatch e⟩
  | ref p =>
    cases r
    rcases ty with ⟨rfl, xs, hq⟩ | ⟨rfl, o, hk, hc, hd⟩ | ⟨rfl, hk⟩ | ⟨rfl, S, n, hk⟩
    . obtain ⟨its, _, pl, _⟩ := I.list hq
      refine ⟨pl.isList.typeIs, fun a e => ?_⟩;cases e;obtain ⟨o, n, e, c, hd, _⟩ := pl;exact ⟨o, e, hd⟩
    . refine ⟨⟨o, I.kIn p o hk, hc⟩, fun a e => ?_⟩
      cases e;exact ⟨o, I.kIn _ o hk, hd⟩
    . have z : ∃ o, s.heap.get? p = some o /\ o.ExactDict := by
        rcases hk with ⟨kvs, hk⟩ | ⟨kvs, hk⟩
        . obtain ⟨_, _, _, _, o, _, _, e, ex, _⟩ := I.hok p _ hk
          exact ⟨o, e, ex⟩
        . obtain ⟨_, _, _, _, o, _, _, e, ex, _⟩ := I.hok p _ hk
          exact ⟨o, e, ex⟩
      obtain ⟨o, e, ex⟩ := z;refine ⟨⟨o, e, ex.1⟩, fun a e2 => ?_⟩;cases e2;exact ⟨o, e, ex.2.1⟩
    . obtain ⟨o, _, _, _, e, ex, _⟩ := I.hok p _ hk
      refine ⟨⟨o, e, ex.1⟩, fun a e2 => ?_⟩;cases e2;exact ⟨o, e, ex.2.1⟩
  | _ => exact False.elim ty
def tBM0 (K : Fg) (T : String) (r : V -> List V -> Hp -> VK -> Prop) (to : TE) : TE := fun σ H Q => to σ H fun x H1 => tyV K T x H1 /\ r x [] H1 Q
def tBM (K : Fg) (T : String) (r : V -> List V -> Hp -> VK -> Prop) (to : TE) (t : TA) : TE := fun σ H Q => to σ H fun x H1 => tyV K T x H1 /\ t σ H1 fun xs H2 => r x xs H2 Q
variable {o e : Expr} {es : List Expr} {to : TE} {t : TA} {name : Str} {apos cpos : Pos} {T id : String} {r : V -> List V -> Hp -> VK -> Prop}
theorem kt (pa : PlainAttrs T) (slot : Slot T name id) (hty : typeOf (.builtin id) = pure (.type "method_descriptor")) (hm : MtR X id r) (ho : PE X o to) (ha : PA X (e :: es) t)
    (hbase : attributeBase o name X.env (eval o X.env) = eval o X.env := by rfl)
    (hfew : ((backTo cpos (starEach (e :: es) X.env)).all (fun x => !x.1) && (backToKw cpos (keywordEach [] X.env)).all (fun x => x.1.isSome)
      && decide ((e :: es).length + ([] : List Keyword).length + (if ([] : List Keyword).isEmpty then 0 else 1) < 30)) = true := by rfl)
    (hline : (apos.endLine == cpos.line) = true := by rfl) (hs : starEach (e :: es) X.env = (false, eval e X.env) :: starEach es X.env := by rfl) (hplain : (backTo cpos (starEach es X.env)).any (·.1) = false := by rfl) :
    PE X (.Call (.Attribute o name apos) (e :: es) [] cpos) (tBM X.K T r to t) := by
  intro pins s σ H Q I h;refine wpAny_Call_method_late hbase hfew hline rfl (thn (ho pins s σ H _ I h) fun v s1 ⟨x, H1, I1, r1, ty, q1⟩ => ?_);obtain ⟨h1, h2⟩ := tyV_is I1 r1 ty;refine ⟨T, id, pa, slot, hty, h1, h2, ?_⟩;have hA := ha cpos pins s1 σ H1 _ I1 q1;rw [hs] at hA ⊢;refine Calls.callWith_builtin (by show (false || (backTo cpos (starEach es X.env)).any (·.1)) = false; rw [hplain] <;> rfl) (Calls.evalArgs_plain ?_);exact thn hA fun us s2 ⟨vs, H2, I2, r2, q2⟩ => hm pins s2 σ H2 x vs v us Q I2 r1 r2 q2
end
end L2
namespace L2
open PySem PySem.Spec PyProof.Rows
def MtM (X : Cx) (id : String) (r : V -> List V -> Hp -> VK -> Prop) : Prop :=
  ∀ (pins : List (Addr × Obj)) (s : Shared) (σ : St) (H : Hp) (x : V) (xs : List V) (v : Value) (us : List Value) (Q : VK), Inv X pins σ H s -> RelV x v -> Vals xs us -> r x xs H Q ->
    wpAny (model X.prog X.w) X.A (call (.builtin id) (v :: us)) (EP X pins σ Q) X.xe s
theorem Vals.one : ∀ {x : V} {us : List Value}, Vals [x] us -> ∃ u, us = [u] /\ RelV x u
  | _, _, .cons r .nil => ⟨_, rfl, r⟩
theorem Vals.two : ∀ {x y : V} {us : List Value}, Vals [x, y] us -> ∃ u v, us = [u, v] /\ RelV x u /\ RelV y v
  | _, _, _, .cons r (.cons q .nil) => ⟨_, _, rfl, r, q⟩
section
variable {X : Cx} {pins : List (Addr × Obj)} {σ : St} {H : Hp} {s : Shared} {l b : Addr} {xs ys zs : List V}
theorem Inv.lset {its its' : List Value} {n : Nat} {f : Array Value -> Array Value} {t' : Nat} (I : Inv X pins σ H s) (hH : H l = some (.lst xs))
    (e : s.heap.get? l = some { cls := .type "list", data := .seq its.toArray n }) (hf : f its.toArray = its'.toArray) (hv : Vals ys its') (hz : ys.length <= sizeLine) :
    Inv X pins σ (upd H l (.lst ys)) { s with heap := s.heap.update l (Obj.mapSeq f), toks := t' } := by
  have q := PySem.IsL.update e f;rw [hf] at q;refine I.write (x := l) (e := l) (by rw [hH]; exact trivial) (.inl rfl) (fun b' u hb hu => (Heap.get?_update_other s.heap (Obj.mapSeq f) (Ne.symm hb)).trans hu) ⟨_, q⟩ ?_;exact ⟨hz, its', _, hv, q⟩
theorem Inv.lnew {its : List Value} {t' : Nat} (I : Inv X pins σ H s) (hv : Vals ys its) (hz : ys.length <= sizeLine) :
    Inv X pins σ (upd H s.heap.objs.size (.lst ys)) { s with heap := s.heap.push { cls := .type "list", data := .seq its.toArray }, toks := t' } :=
  I.laid (fun _ _ q => Heap.get?_push_of_some _ q) (Zm _) ⟨hz, its, 0, hv, Heap.get?_push_size _ rfl⟩
theorem Inv.fresh (I : Inv X pins σ H s) : H s.heap.objs.size = none := I.hok.fresh (Zm _)
theorem Inv.lstM (I : Inv X pins σ H s) (hH : H l = some (.lst xs)) : xs.length <= sizeLine /\ ∃ (its : List Value) (n : Nat), Vals xs its /\ xs.length = its.length /\ s.heap.get? l = some { cls := .type "list", data := .seq its.toArray n } := by
  obtain ⟨z, its, n, r, e⟩ := I.hok l _ hH;exact ⟨z, its, n, r, r.length, e⟩
theorem zf6 {n : Nat} (h : n <= sizeLine) : Builtin.List.listTooLong n = false := by
  unfold Builtin.List.listTooLong;exact decide_eq_false (by omega)
end
section
variable {X : Cx}
def zcg : V -> List V -> Hp -> VK -> Prop := fun x vs H Q => ∃ l xs y, x = .ref l /\ vs = [y] /\ H l = some (.lst xs) /\ xs.length < sizeLine /\ Q .non (upd H l (.lst (xs ++ [y])))
theorem md : MtM X "list.append" zcg := by
  intro pins s σ H x vs v us Q I rx rv h;obtain ⟨l, xs, y, rfl, rfl, hH, hz, q⟩ := h;cases rx;obtain ⟨u, rfl, ru⟩ := rv.one;obtain ⟨z, its, n, r, hl, e⟩ := I.lstM hH;refine call_meets F.slot_list_append ⟨_, e, rfl⟩ F.entry_list_append (F.args_list_append_2 _ _) (PySem.list_append l its.toArray n u (by rw [Zr]; omega)) ⟨e, ?_⟩;refine ⟨.non, _, I.lset (its' := its ++ [u]) hH e (by simp) (r.append (.cons ru .nil)) ?_, rfl, q⟩;rw [Zo, Yk];omega
def zcp : V -> List V -> Hp -> VK -> Prop := fun x vs H Q => ∃ l b xs zs, x = .ref l /\ vs = [.ref b] /\ H l = some (.lst xs) /\ H b = some (.lst zs) /\ xs.length + zs.length <= sizeLine /\ Q .non (upd H l (.lst (xs ++ zs)))
theorem zfj : MtM X "list.extend" zcp := by
  intro pins s σ H x vs v us Q I rx rv h;obtain ⟨l, b, xs, zs, rfl, rfl, hH, hB, hz, q⟩ := h;cases rx;obtain ⟨u, rfl, ru⟩ := rv.one;cases ru;obtain ⟨z, its, n, r, hl, e⟩ := I.lstM hH;obtain ⟨z2, its2, n2, r2, hl2, e2⟩ := I.lstM hB;have hsz : its.toArray.size + its2.toArray.size <= sizeLine := by rw [Zr, Zr]; omega
  have hlong : ¬ (!its.toArray.isEmpty && Builtin.List.listTooLong (its.toArray.size + its2.toArray.size)) = true := by
    rw [zf6 hsz, Bool.and_false];exact Bool.false_ne_true
  refine call_meets F.slot_list_extend ⟨_, e, rfl⟩ F.entry_list_extend (F.args_list_extend_2 _ _)
    (AutoSeq1.list_extend_list_list_0 l its.toArray n b its2.toArray n2 hlong (by rw [Zr]; omega) (by omega)) ⟨e, e2, ?_⟩
  refine ⟨.non, _, I.lset (its' := its ++ its2) hH e (by simp) (r.append r2) ?_, rfl, q⟩;rw [Zo];omega
def rPop : V -> List V -> Hp -> VK -> Prop := fun x vs H Q => ∃ l xs y, x = .ref l /\ vs = [] /\ H l = some (.lst xs) /\ xs[xs.length - 1]? = some y /\ Q y (upd H l (.lst xs.dropLast))
def rPopAt : V -> List V -> Hp -> VK -> Prop := fun x vs H Q => ∃ l xs i k y, x = .ref l /\ vs = [.int i] /\ H l = some (.lst xs) /\ -(2 ^ 63) <= i /\ i < 2 ^ 63 /\ seqIndex? i xs.length = some k /\ xs[k]? = some y /\ Q y (upd H l (.lst (xs.eraseIdx k)))
def zfo : V -> List V -> Hp -> VK -> Prop := fun x vs H Q => ∃ l xs, x = .ref l /\ vs = [] /\ H l = some (.lst xs) /\ Q .non (upd H l (.lst xs.reverse))
def rClear : V -> List V -> Hp -> VK -> Prop := fun x vs H Q => ∃ l xs, x = .ref l /\ vs = [] /\ H l = some (.lst xs) /\ Q .non (upd H l (.lst []))
def rCat : R2 := fun x y H Q => ∃ l b xs zs, x = .ref l /\ y = .ref b /\ H l = some (.lst xs) /\ H b = some (.lst zs) /\ xs.length + zs.length <= sizeLine /\ ∀ p, H p = none -> Q (.ref p) (upd H p (.lst (xs ++ zs)))
theorem b7 : OpR X (binaryOp .Add) rCat := by
  intro pins s σ H x y v u Q I rx ry h;obtain ⟨l, b, xs, zs, rfl, rfl, hH, hB, hz, q⟩ := h;cases rx;cases ry;obtain ⟨z, its, n, r, hl, e⟩ := I.lstM hH;obtain ⟨z2, its2, n2, r2, hl2, e2⟩ := I.lstM hB;refine PySem.P.add_list e e2 ?_ (by rw [Zr, Zr]; omega);have ea : its.toArray ++ its2.toArray = (its ++ its2).toArray := by simp
  rw [ea];exact ⟨.ref _, _, I.lnew (t' := s.toks) (r.append r2) (by rw [Zo]; omega), rfl, q _ I.fresh⟩
def rRep : R2 := fun x y H Q => ∃ l k xs, x = .ref l /\ y = .int k /\ H l = some (.lst xs) /\ -(2 ^ 63) <= k /\ k < 2 ^ 63 /\ xs.length * k.toNat <= sizeLine /\
  ∀ p, H p = none -> Q (.ref p) (upd H p (.lst (List.replicate k.toNat xs).flatten))
end
section
variable {prog : Program} {w : World} {A : Around} {E : Value -> Shared -> Prop} {s : Shared}
set_option maxRecDepth 100000 in
end
section
variable {X : Cx}
end
end L2
namespace Att
open PySem PySem.W PySem.Calls PyProof.Rows
theorem fv {P : Params} {h : Heap} : ∀ (ns : List Int) (vs : List Value), WellAll P h vs (ns.map WData.int) -> IntsAre vs ns := by
  intro ns
  induction ns with
  | nil =>
    intro vs w;rw [YB] at w;cases w;exact .nil
  | cons n ns ih =>
    intro vs w;rw [ZO] at w
    cases w with
    | cons a b =>
      cases a;exact .cons _ _ (ih _ b)
theorem zek {l : OpenLaw} {n : Nat} (hn : l.most = some n) {P : Params} {h : Heap} {args : List WData} {vals : List Value}
    (hpre : l.row.toRowW.claim.pre args = true) (hwl : WellAll P h vals args) :
    ∃ a vs ns, vals = [Value.ref a] /\ args = [WData.list (ns.map WData.int)] /\ h.get? a = some { cls := .type "list", data := .seq vs.toArray } /\ IntsAre vs ns /\ ns.length <= n := by
  have hsh : WShape.hasAll [] args [.list .int] = true := (pre_splitW hpre).1;have hc : l.pre.holds [] { args := args } = true := (pre_splitW hpre).2;obtain ⟨d, r, rfl, h1, h2⟩ := hasAllW_cons hsh;obtain rfl := hasAllW_nil h2;obtain ⟨xs, rfl, h3⟩ := hasW_list h1;obtain ⟨ns, rfl⟩ := items_int h3
  have hlen : ns.length <= n := by
    unfold OpenLaw.pre at hc
    have h4 : (WTm.not (.lt (.lit (.int (n : Int))) (.len (.arg 0)))).holds [] { args := [.list (ns.map .int)] } = true := by
      have h4 := (holds_andW hc).1;rw [hn] at h4;exact h4
    have h5 := condW_of h4 (w_not (w_lt w_lit (w_len_list (w_arg rfl))));rw [Za] at h5;refine Nat.le_of_not_lt fun q => ?_
    have q' : (n : Int) < ((ns.length : Nat) : Int) := by omega
    first
      | (rw [decide_eq_true q'] at h5; exact absurd h5 (by decide))
      | (simp at h5; omega)
  cases hwl with
  | cons w1 w2 =>
    cases w2
    cases w1 with
    | list ho hall => exact ⟨_, _, ns, rfl, rfl, ho, fv ns _ hall, hlen⟩
theorem ze5 (l : OpenLaw) (args : List WData) : l.row.toRowW.claim.post args (.bool true) args = true :=
  postW_of (r := l.row.toRowW) (X := (true == true))
    (show WShape.has [] (.bool true) .bool = true by first | rfl | decide | simp [WShape.has, WShape.arms, WShape.armsAll])
    (show (WTm.eq .res (.lit (.bool true))).value [] { args := args, res := some (.bool true), after := args } = some (.bool (true == true)) from w_eq_bool (w_res rfl) w_lit) rfl
theorem za5 {l : OpenLaw} {n : Nat} {q : Program} {loose : List Str} {XP : (Str -> Option Value) -> Heap -> Prop} {YP : World -> Heap -> Prop} {d : DefRec}
    (hn : l.most = some n) (hdf : d.params.defaults = [])
    (call : ∀ (w : World) (s₀ s₁ : Shared) (mg mb : Str -> Option Value) (fa : Addr) (o : Obj) (pm cd doc : Value) (a : Addr) (vs : List Value) (ns : List Int),
      Ground q loose [] XP w s₀ mg mb s₁.heap -> YP w s₁.heap ->
      s₁.heap.get? fa = some o -> o.data = .func (docDef d.name d.params d.body d.scope pm cd doc) -> s₁.heap.CodeRec cd d.name -> mg d.name = some (.ref fa) ->
      s₁.heap.get? a = some { cls := .type "list", data := .seq vs.toArray } -> IntsAre vs ns -> ns.length <= n -> s₁.gens = #[] ->
      codeAny (model l.prog w) callerA (.call (.ref fa) ⟨[.ref a], []⟩) (fun r s' => r = .ok (.ret (.bool true)) /\ OldK s₁.heap s'.heap /\ s'.os = s₁.os /\ AllBare s'.gens) s₁) :
    WalkO q loose XP YP l.row.toRowW d [] (fun f vs => PySem.call f vs) := by
  intro w s₀ s₁ mg mb G Y fa o pm cd doc dV kV ho hd hcd hD hmg hg args vals as hpre hlay hrd hwl hlo;obtain rfl : dV = .none := Dflts.none hD hdf;obtain rfl : kV = .none := Dflts.noKw hD;obtain ⟨a, vs, ns, rfl, rfl, hobj, hints, hlen⟩ := zek hn hpre hwl;refine enter_call (codeAny_mono (call w s₀ s₁ mg mb fa o pm cd doc a vs ns G Y ho (fd_plain hd) hcd hmg hobj hints hlen hg) fun r s' hq => ?_);obtain ⟨rfl, h2, h3, h4⟩ := hq;exact ⟨.inl ⟨.bool true, .bool true, [], rfl, fun _ => rfl, .bool true, ze5 l _, fun _ => ⟨List.Pairwise.nil, fun _ hm => (nomatch hm)⟩⟩, h2, h3, h4⟩
section
variable {prog : Program} {w : World} {A : Around} {E : Value -> Shared -> Prop} {s : Shared} {K : Frag}
end
end Att
namespace L2
open PySem PySem.Spec PyProof.Rows
theorem cb : ∀ {vs : List Value} {ns : List Int}, IntsAre vs ns -> Vals (ns.map V.int) vs
  | _, _, .nil => .nil
  | _, _, .cons n t h => .cons ⟨t, rfl⟩ (cb h)
def Only (H : Hp) : Prop := ∀ b, H b = none \/ ∃ o xs, H b = some (.frz o (.lst xs))
theorem zfp {P : Program} {w : World} {K : Fg} {mg mb : Str -> Option Value} {CX : CXT} {k : Nat} {fa a : Addr} {fd : FuncData} {x : Str} {sp : Sp} {s₁ : Shared} {vs : List Value} {ns : List Int}
    (KX : K.In s₁.heap) (hns : s₁.heap.Ns mainGlobals mg) (hb : s₁.heap.Ns builtinsNs mb) (hbb : ∀ x : Str, x ≠ "__name__" -> mb x = bootBuiltins x) (hlim : s₁.heap.NoLimit) (hg : s₁.gens = #[])
    (ha : s₁.heap.get? a = some { cls := .type "list", data := .seq vs.toArray }) (hi : IntsAre vs ns) (hl : ns.length <= sizeLine) (hr : Room k callerA)
    (F : ∀ base : Heap, K.In base -> base.Ns mainGlobals mg -> FnOk P w K mg base CX k fa fd [x] sp) (hbind : ∀ (s : Shared) (u : Value), BindsTo s fd ⟨[u], []⟩ [(x, u)])
    (hsp : ∀ H : Hp, Only H -> SqL K H a (ns.map V.int) -> sp [.ref a] H (fun v _ => v = .bl true) fun _ _ _ => False)
    (hCX : ∀ H e s', CX [] H s₁ (fun _ _ _ => False) e s' -> False) :
    codeAny (model P w) callerA (.call (.ref fa) ⟨[.ref a], []⟩) (fun r s' => r = .ok (.ret (.bool true)) /\ OldK s₁.heap s'.heap /\ s'.os = s₁.os /\ AllBare s'.gens) s₁ := by
  have rv := cb hi;have lenV := hi.length
  -- from an abstract heap in which nothing but the script may be tracked
  have core : ∀ H : Hp, Only H -> SqL K H a (ns.map V.int) -> HOk P w H s₁.heap -> (∀ b, H b ≠ none -> b = a) -> (H a ≠ none -> K.lookup a = none) ->
      codeAny (model P w) callerA (.call (.ref fa) ⟨[.ref a], []⟩) (fun r s' => r = .ok (.ret (.bool true)) /\ OldK s₁.heap s'.heap /\ s'.os = s₁.os /\ AllBare s'.gens) s₁ := by
    intro H hO hS hok hA hK;have base_of : ∀ {b : Addr} {o : Obj}, s₁.heap.get? b = some o -> H b = none -> (hidT s₁.heap H).get? b = some o := fun e n => zge e n
    have noA : ∀ {b : Addr} {o : Obj} {es : Array DictEntry} {ep : Nat}, s₁.heap.get? b = some o -> o.data = .dict es ep -> H b = none := fun {b o es ep} e d => by
      cases q : H b with
      | none => rfl
      | some u =>
        have e' : b = a := hA b (by rw [q]; simp);subst e';rw [ha] at e; cases e;have d' : Data.seq vs.toArray _ = Data.dict es ep := d;cases d'
    have nsK : ∀ {b : Addr} {m : Str -> Option Value}, s₁.heap.Ns b m -> (hidT s₁.heap H).Ns b m := fun {b m} ⟨o, es, ep, e, d, r⟩ => ⟨o, es, ep, base_of e (noA e d), d, r⟩
    have hKb : K.In (hidT s₁.heap H) := fun b o e => base_of (KX b o e) (by
      cases q : H b with
      | none => rfl
      | some u =>
        have e' : b = a := hA b (by rw [q]; simp);subst e'
        rw [hK (by rw [q]; simp)] at e; cases e)
    have hM : Mod K mg (hidT s₁.heap H) := ⟨hKb, nsK hns, ⟨mb, nsK hb, hbb⟩, let ⟨mc, h1, h2⟩ := hlim; ⟨mc, nsK h1, h2⟩⟩;have e0 : Env0 P w K mg (hidT s₁.heap H) callerA [] s₁ H := ⟨rfl, hM, fun b o e => zg1 e, Nat.le_of_eq (zfm _ _), trivial, fun b hb => absurd (show b ∈ ([] : List Addr) from hb) (by simp), hok, .of_eq hg⟩;refine codeAny_mono ((F _ hKb (nsK hns)).run callerA [] s₁ H ⟨[.ref a], []⟩ [.ref a] [.ref a] _ _ hr e0 (hbind s₁ (.ref a)) (.cons rfl .nil) (hsp H hO hS)) fun r s' h => ?_
    cases r with
    | error e => exact (hCX H e s' h).elim
    | ok fl =>
      cases fl with
      | next => exact False.elim h
      | brk => exact False.elim h
      | cont => exact False.elim h
      | ret u =>
        obtain ⟨v, H', os, bare, un, hok', r', q⟩ := h;have q' : v = .bl true := q;subst q';obtain rfl : u = Value.bool true := r';refine ⟨rfl, OldK.of_keep fun b o e => ?_, os, bare⟩
        cases q : H b with
        | none => exact un.keep b o e q (by intro z; exact absurd (show b ∈ ([] : List Addr) from z) (by simp)) (by simp)
        | some u =>
          rcases hO b with z | ⟨ob, xs, z⟩
          . rw [q] at z; cases z
          . have z2 := un.frzs b ob _ z
            obtain ⟨e1, _⟩ := hok b _ z;obtain ⟨e2, _⟩ := hok' b _ z2;rw [e] at e1; cases e1;exact e2
  cases hk : K.lookup a with
  | some o =>
    -- the script is one of the module's own objects
    have e := KX a o hk;rw [ha] at e;cases e;refine core (fun _ => none) (fun _ => .inl rfl) (.inr ⟨_, vs.toArray, _, hk, rfl, rfl, rfl, by rw [Zr, lenV]; exact hl, by simpa using rv⟩) (fun b u z => by have z' : (none : Option HO) = some u := z; cases z') (fun b z => absurd rfl z) fun z => absurd rfl z
  | none =>
    refine core (fun b => if b = a then some (.frz { cls := .type "list", data := .seq vs.toArray } (.lst (ns.map V.int))) else none) (fun b => ?_) (.inl (.inr ⟨{ cls := .type "list", data := .seq vs.toArray }, if_pos rfl⟩)) (fun b u z => ?_) (fun b z => ?_) fun _ => hk
    . by_cases hb : b = a
      . exact .inr ⟨_, _, if_pos hb⟩
      . exact .inl (if_neg hb)
    . by_cases hb : b = a
      . have z' := (if_pos hb).symm.trans z
        cases z';subst hb;exact ⟨ha, by rw [Za]; exact hl, vs, _, rv, ha⟩
      . have z' := (if_neg hb).symm.trans z
        cases z'
    . by_cases hb : b = a
      . exact hb
      . exact absurd (if_neg hb) z
end L2
namespace L2
open PySem PySem.Spec PyProof.Rows
abbrev KOf {K : Fg} {h : Heap} (_ : K.In h) : Fg := K
theorem zgw {l : PySem.W.OpenLaw} {n k : Nat} {q : Program} {loose : List Str} {XP : (Str -> Option Value) -> Heap -> Prop} {YP : World -> Heap -> Prop} {d : DefRec} {K : Params -> Fg} {CX : World -> CXT} {sp : World -> Sp} {x : Str}
    (hn : l.most = some n) (hn2 : n <= sizeLine) (hdf : d.params.defaults = []) (hr : Room k callerA)
    (hY : ∀ (w : World) (h : Heap), YP w h -> (K w.params).In h)
    (F : ∀ (w : World) (mg : Str -> Option Value) (fa : Addr) (h : Heap), (K w.params).In h -> h.Ns mainGlobals mg -> mg d.name = some (.ref fa) ->
      ∃ fd : FuncData, (∀ (s : Shared) (u : Value), BindsTo s fd ⟨[u], []⟩ [(x, u)]) /\
        ∀ base : Heap, (K w.params).In base -> base.Ns mainGlobals mg -> FnOk l.prog w (K w.params) mg base (CX w) k fa fd [x] (sp w))
    (hsp : ∀ (w : World) (H : Hp) (a : Addr) (ns : List Int), ns.length <= n -> Only H -> SqL (K w.params) H a (ns.map V.int) -> sp w [.ref a] H (fun v _ => v = .bl true) fun _ _ _ => False)
    (hCX : ∀ (w : World) (H : Hp) (s : Shared) (e : Value) (s' : Shared), CX w [] H s (fun _ _ _ => False) e s' -> False) :
    PySem.W.WalkO q loose XP YP l.row.toRowW d [] (fun f vs => PySem.call f vs) := by
  refine Att.za5 hn hdf fun w s₀ s₁ mg mb fa o pm cd doc a vs ns G Y ho hd hcd hmg hobj hints hlen hg => ?_
  have KX := hY w _ Y;obtain ⟨fd, hb, hF⟩ := F w mg fa _ KX G.T.g hmg;exact zfp KX G.T.g G.T.b G.T.builtins G.T.nolimit hg hobj hints (Zd hlen hn2) hr hF hb (fun H hO hS => hsp w H a ns hlen hO hS) fun H e s' => hCX w H s₁ e s'
theorem zf2 {l : PySem.W.OpenLaw} {n k : Nat} {q : Program} {loose : List Str} {XP : (Str -> Option Value) -> Heap -> Prop} {YP : World -> Heap -> Prop} {d : DefRec} {K : Params -> Fg} {CX : CXT} {sp : Fg -> Sp} {x : Str}
    (hn : l.most = some n) (hn2 : n <= sizeLine) (hdf : d.params.defaults = []) (hr : Room k callerA)
    (hY : ∀ (w : World) (h : Heap), YP w h -> (K w.params).In h)
    (F : ∀ (w : World) (mg : Str -> Option Value) (fa : Addr) (h : Heap), (K w.params).In h -> h.Ns mainGlobals mg -> mg d.name = some (.ref fa) ->
      ∃ fd : FuncData, (∀ (s : Shared) (u : Value), BindsTo s fd ⟨[u], []⟩ [(x, u)]) /\
        ∀ base : Heap, (K w.params).In base -> base.Ns mainGlobals mg -> FnOk l.prog w (K w.params) mg base CX k fa fd [x] (sp (K w.params)))
    (hsp : ∀ (K : Fg) (H : Hp) (a : Addr) (ns : List Int), ns.length <= n -> Only H -> SqL K H a (ns.map V.int) -> sp K [.ref a] H (fun v _ => v = .bl true) fun _ _ _ => False)
    (hCX : ∀ (H : Hp) (s : Shared) (e : Value) (s' : Shared), CX [] H s (fun _ _ _ => False) e s' -> False) :
    PySem.W.WalkO q loose XP YP l.row.toRowW d [] (fun f vs => PySem.call f vs) :=
  zgw (K := K) (CX := fun _ => CX) (sp := fun w => sp (K w.params)) hn hn2 hdf hr hY F (fun w H a ns h1 h2 h3 => hsp (K w.params) H a ns h1 h2 h3) fun _ H s e s' => hCX H s e s'
end L2
namespace L2
open PySem PySem.Spec PyProof.Rows
def tz (s : Stmt) : Arguments := match s with
  | .FunctionDef _ a _ _ _ _ _ _ _ _ => a
  | _ => { posonlyargs := [], args := [], vararg := none, kwonlyargs := [], kw_defaults := [], kwarg := none, defaults := [] }
def xh (s : Stmt) : List Stmt := match s with
  | .FunctionDef _ _ b _ _ _ _ _ _ _ => b
  | _ => []
def zi (s : Stmt) : Scope := match s with
  | .FunctionDef _ _ _ _ _ _ sc _ _ _ => sc
  | _ => { kind := .function, names := [], isGenerator := false, isCoroutine := false }
abbrev CX0 : CXT := fun _ _ _ _ _ _ => False
abbrev E0 : XK := fun _ _ _ => False
theorem pass0 {X : Cx} : jl CX0 X E0 := fun _ _ _ _ _ _ _ h => h.elim
structure Fun (K : Fg) (x qual : Str) (st : Stmt) (f : Addr) (fd : FuncData) : Prop where
  ex : ∃ (oc : Value) (od : Option Addr) (kV doc pm : Value) (an : Option Addr) (cdv ct : Value) (osl : Array (Option Value)),
    fd = PySem.W.fnOf x qual (tz st) (xh st) (zi st) .none kV doc pm an cdv ct /\ K.lookup f = some ⟨oc, od, .func fd, osl⟩ /\ PySem.W.codeIn K cdv qual = true
  kp : PySem.W.keepIn K (.ref f) = true
section
variable {P : Program} {w : World} {K : Fg} {mg : Str -> Option Value} {base : Heap}
theorem Fun.ok {x qual : Str} {st : Stmt} {f : Addr} {fd : FuncData} {N ps : List Str} {k : Nat} {sp : Sp} (F : Fun K x qual st f fd) (S : zn N ps (zi st)) (len : ∀ vs H Q E, sp vs H Q E -> vs.length = ps.length)
    (hbody : ∀ (cdv : Value) (A : Around) (outer : List Env) (s : Shared) (H : Hp) (vs : List V) (Q : VK) (E : XK), Room k (A.deeper (envOfC qual (zi st) s.heap.objs.size f cdv)) -> sp vs H Q E ->
      ∃ t, PSs (cxOf CX0 P w K mg base N qual (zi st) f cdv A outer s H E).nox (xh st) t /\ t { nx := fun _ H' => Q .non H', rt := Q } (start N vs) H) : FnOk P w K mg base CX0 (k + 1) f fd ps sp := by
  obtain ⟨oc, od, kV, doc, pm, an, cdv, ct, osl, rfl, lk, hcd⟩ := F.ex;refine fn_of lk hcd S len fun A outer s H vs Q E hr hsp => ?_
  obtain ⟨t, h, q⟩ := hbody cdv A outer s H vs Q E hr hsp;exact ⟨t, h.nox, q⟩
theorem Fun.binds {x qual : Str} {st : Stmt} {f : Addr} {fd : FuncData} {ps : List Str} (F : Fun K x qual st f fd)
    (h : ∀ (kV doc pm : Value) (an : Option Addr) (cdv ct : Value) (us : List Value), us.length = ps.length -> bindArgs (PySem.W.fnOf x qual (tz st) (xh st) (zi st) .none kV doc pm an cdv ct) ⟨us, []⟩ = pure (ps.zip us)) : Binds K fd ps [] := by
  obtain ⟨oc, od, kV, doc, pm, an, cdv, ct, osl, rfl, lk, hcd⟩ := F.ex;exact .all (h kV doc pm an cdv ct)
theorem zes {x qual : Str} {st : Stmt} {f : Addr} {oc : Value} {od an : Option Addr} {osl : Array (Option Value)} {kV doc pm cdv ct : Value} (l : K.lookup f = some ⟨oc, od, .func (PySem.W.fnOf x qual (tz st) (xh st) (zi st) .none kV doc pm an cdv ct), osl⟩)
    (c : PySem.W.codeIn K cdv qual = true) (k : PySem.W.keepIn K (.ref f) = true) : Fun K x qual st f (PySem.W.fnOf x qual (tz st) (xh st) (zi st) .none kV doc pm an cdv ct) := ⟨⟨oc, od, kV, doc, pm, an, cdv, ct, osl, rfl, l, c⟩, k⟩
end
section
variable {X : Cx}
theorem pv (i : Nat) {x : Str} {pos : Pos} (hN : X.N[i]? = some x := by rfl) (hv : Vis X.env.scope x := by first | exact Or.inl rfl | exact Or.inr (Or.inl rfl) | exact Or.inr (Or.inr rfl)) (hd : (x == ("__debug__" : Str)) = false := by decide)
    (hcd : (x == ("__classdict__" : Str)) = false := by decide) : PE X (.Name x pos) (tVar i) := pe_var hN hv hd hcd
end
theorem iteF {A B : Prop} (h : B) : if false = true then A else B := by
  rw [if_neg Bool.false_ne_true];exact h
theorem iteT {A B : Prop} (h : A) : if true = true then A else B := by
  rw [if_pos rfl];exact h
theorem ite2 {c A B : Prop} [Decidable c] (h1 : c -> A) (h2 : ¬ c -> B) : if c then A else B := by
  by_cases h : c
  . rw [if_pos h]
    exact h1 h
  . rw [if_neg h]
    exact h2 h
theorem zds {c A B : Prop} [Decidable c] (hc : c) (h : B) : if (!decide c) = true then A else B := by
  rw [decide_eq_true hc];exact iteF h
def Same (H H' : Hp) : Prop := ∀ b o, H b = some o -> H' b = some o
theorem Same.refl (H : Hp) : Same H H := fun _ _ h => h
theorem Same.trans {H H1 H2 : Hp} (a : Same H H1) (b : Same H1 H2) : Same H H2 := fun c o h => b c o (a c o h)
theorem Same.free {H H' : Hp} (e : Same H H') {l : Addr} (h : H' l = Option.none) : H l = Option.none := by
  cases q : H l with
  | none => rfl
  | some o =>
    rw [e l o q] at h;cases h
theorem Same.seq {K : Fg} {H H' : Hp} {a : Addr} {xs : List V} (e : Same H H') (h : SqL K H a xs) : SqL K H' a xs := by
  rcases h with (h | ⟨o, h⟩) | h
  . exact .inl (.inl (e _ _ h))
  . exact .inl (.inr ⟨o, e _ _ h⟩)
  . exact .inr h
end L2
namespace L2
open PySem PySem.Spec PyProof.Rows
section
variable {κ : Type} [DecidableEq κ]
def valV (kvs : List (κ × V)) (k : κ) : Option V := (kvs.find? fun kv => decide (kv.1 = k)).map (·.2)
def putK (kvs : List (κ × V)) (k : κ) (v : V) : List (κ × V) :=
  if (kvs.any fun kv => decide (kv.1 = k)) = true then kvs.map (fun kv => if kv.1 = k then (kv.1, v) else kv) else kvs ++ [(k, v)]
theorem ku {p : κ × V} {r : List (κ × V)} {k : κ} (e : p.1 = k) : valV (p :: r) k = some p.2 := by simp [valV, Yg, e]
theorem kz {p : κ × V} {r : List (κ × V)} {k : κ} (e : ¬ p.1 = k) : valV (p :: r) k = valV r k := by simp [valV, Yg, e]
theorem kn (k : κ) : ∀ kvs : List (κ × V), (kvs.any fun kv => decide (kv.1 = k)) = (valV kvs k).isSome
  | [] => rfl
  | p :: r => by
    rw [List.any_cons]
    by_cases e : p.1 = k
    . simp only [ku e, decide_eq_true e, Bool.true_or, Option.isSome_some]
    . rw [kz e, decide_eq_false e, Bool.false_or]; exact kn k r
theorem zbq (kvs : List (κ × V)) (k : κ) (v : V) : (putK kvs k v).length <= kvs.length + 1 := by
  unfold putK
  split
  . rw [Za]; omega
  . rw [Zo, ZL, ZW]; omega
theorem zft {kvs : List (κ × V)} {k : κ} (v : V) (h : valV kvs k = none) : putK kvs k v = kvs ++ [(k, v)] := by
  unfold putK;rw [kn, h];exact if_neg (by decide)
theorem RelO.isSome_eq {o : Option V} {u : Option Value} (r : RelO o u) : o.isSome = u.isSome := by
  cases o with
  | none => cases u with
    | none => rfl
    | some _ => exact (show False from r).elim
  | some _ => cases u with
    | none => exact (show False from r).elim
    | some _ => rfl
theorem KV.val {kvs : List (κ × V)} {vs : List (κ × Value)} (r : KV kvs vs) (k : κ) : RelO (valV kvs k) (valueAt vs k) := by
  unfold KV at r
  induction r with
  | nil => exact True.intro
  | @cons p q ps qs h t ih =>
    obtain ⟨h1, h2⟩ := h
    by_cases e : p.1 = k
    . have e' : q.1 = k := h1.symm.trans e
      have b : valueAt (q :: qs) k = some q.2 := by simp [valueAt, Yg, e']
      rw [ku e, b]; exact h2
    . have e' : ¬ q.1 = k := fun z => e (h1.trans z)
      have b : valueAt (q :: qs) k = valueAt qs k := by simp [valueAt, Yg, e']
      rw [kz e, b]; exact ih
end
theorem kV_is {P : Program} {w : World} {k : Key} {u : Value} (r : RelV (kV k) u) : (wv P w).is k u = true := by
  cases k with
  | inl i => obtain ⟨t, e⟩ := (show ∃ t, u = Value.int i t from r); subst e; exact zbi P w i t
  | inr x => obtain ⟨t, e⟩ := (show ∃ t, u = Value.str x t from r); subst e; exact zaz P w x t
theorem cn {P : Program} {w : World} : ∀ {ks : List Key} {us : List Value}, Vals (ks.map kV) us -> ItemsAre (wv P w) ks us
  | [], _, r => by rw [YB] at r; cases r; exact .nil
  | k :: ks, _, r => by
    rw [ZO] at r
    cases r with
    | cons h t => exact .cons (kV_is h) (cn t)
abbrev KT (H : Hp) : List (List Key × V) -> List (List Key × Addr × Value) -> Prop := Paired fun p q => p.1 = q.1 /\ H q.2.1 = some (.tup (p.1.map kV)) /\ RelV p.2 q.2.2
theorem KT.val {H : Hp} {kvs : List (List Key × V)} {xs : List (List Key × Addr × Value)} (r : KT H kvs xs) (k : List Key) : RelO (valV kvs k) ((atKey xs k).map (·.2)) := by
  induction r with
  | nil => exact True.intro
  | @cons p q ps qs h t ih =>
    obtain ⟨h1, _, h2⟩ := h
    by_cases e : p.1 = k
    . have e' : q.1 = k := h1.symm.trans e
      have b : atKey (q :: qs) k = some q.2 := by simp [atKey, Yg, e']
      rw [ku e, b]; exact h2
    . have e' : ¬ q.1 = k := fun z => e (h1.trans z)
      have b : atKey (q :: qs) k = atKey qs k := by simp [atKey, Yg, e']
      rw [kz e, b]; exact ih
theorem KT.repl {H : Hp} {kvs : List (List Key × V)} {xs : List (List Key × Addr × Value)} (r : KT H kvs xs) (k : List Key) {y : V} {u : Value} (ry : RelV y u) :
    KT H (kvs.map fun kv => if kv.1 = k then (kv.1, y) else kv) (xs.map (putAt k u)) := by
  induction r with
  | nil => exact .nil
  | @cons p q ps qs h t ih =>
    rw [ZO, ZO];refine .cons ?_ ih;obtain ⟨h1, h2, h3⟩ := h;unfold putAt
    by_cases e : p.1 = k
    . rw [if_pos e, if_pos (h1.symm.trans e)]; exact ⟨h1, h2, ry⟩
    . rw [if_neg e, if_neg (fun z => e (h1.trans z))]; exact ⟨h1, h2, h3⟩
theorem KT.put {H : Hp} {kvs : List (List Key × V)} {xs : List (List Key × Addr × Value)} (r : KT H kvs xs) (k : List Key) {b : Addr} {y : V} {u : Value} (hb : H b = some (.tup (k.map kV))) (ry : RelV y u) :
    KT H (putK kvs k y) (storedH xs k b u) := by
  have e : (kvs.any fun kv => decide (kv.1 = k)) = (atKey xs k).isSome := by
    rw [kn, (r.val k).isSome_eq, Option.isSome_map]
  unfold putK storedH;rw [e]
  by_cases q : (atKey xs k).isSome = true
  . rw [if_pos q, if_pos q]; exact r.repl k ry
  . rw [if_neg q, if_neg q]; exact Paired.snoc r ⟨rfl, hb, ry⟩
theorem KT.keeps {H H' : Hp} {kvs : List (List Key × V)} {xs : List (List Key × Addr × Value)} (r : KT H kvs xs) (ht : ∀ b ys, H b = some (.tup ys) -> H' b = some (.tup ys)) : KT H' kvs xs :=
  Paired.mapP r fun _ _ z => ⟨z.1, ht _ _ z.2.1, z.2.2⟩
section
variable {P : Program} {w : World} {H : Hp} {h : Heap} {a : Addr}
theorem rd_of {u : HO} (ok : HOk P w H h) (e : Rd H a u) : ObjOk P w H h a u := e.ok ok
theorem dk_rd {kvs : List (Key × V)} (ok : HOk P w H h) (e : Rd H a (.dK kvs)) : kvs.length <= sizeLine /\ (a == sysModules) = false /\ ∃ vs, KV kvs vs /\ h.DictOf (wv P w) a vs :=
  show ObjOk P w H h a (.dK kvs) from rd_of ok e
theorem ak {ks : List Key} (ok : HOk P w H h) (e : H a = some (.tup (ks.map kV))) : (tupleKind (wv P w)).is h ks a := by
  obtain ⟨_, its, r, o, h1, h2, n, h3⟩ := (show ObjOk P w H h a (.tup (ks.map kV)) from ok a _ e);exact ⟨o, its.toArray, n, h1, h2, h3.1, by simpa using cn r⟩
theorem dt_rd {kvs : List (List Key × V)} (ok : HOk P w H h) (e : Rd H a (.dT kvs)) : kvs.length <= sizeLine /\ (a == sysModules) = false /\
    ∃ xs, KT H kvs xs /\ h.DictOfH (tupleKind (wv P w)) a xs := by
  obtain ⟨z, y, xs, r, o, es, ep, h1, h2, h3, h4, h5⟩ := (show ObjOk P w H h a (.dT kvs) from rd_of ok e);refine ⟨z, y, xs, r, o, es, ep, h1, h2, h3, h4, fun x hx => ?_, h5⟩
  have all : ∀ {l : List (List Key × V)} {m : List (List Key × Addr × Value)}, KT H l m -> ∀ x ∈ m, (tupleKind (wv P w)).is h x.1 x.2.1 := by
    intro l m q
    induction q with
    | nil => intro x hx; exact nomatch hx
    | @cons p q ps qs hq t ih =>
      intro x hx
      rcases ZK.mp hx with e | hx
      . subst e
        exact ak ok (by rw [<- hq.1]; exact hq.2.1)
      . exact ih x hx
  exact all r x hx
end
def DGet (H : Hp) (a : Addr) (y : V) (r : Option V) : Prop :=
  (∃ kvs k, Rd H a (.dK kvs) /\ y = kV k /\ r = valV kvs k) \/ ∃ kvs k b, Rd H a (.dT kvs) /\ y = .ref b /\ H b = some (.tup (k.map kV)) /\ r = valV kvs k
def DPut (H : Hp) (a : Addr) (y v : V) (H' : Hp) : Prop :=
  (∃ kvs k, H a = some (.dK kvs) /\ y = kV k /\ kvs.length < sizeLine /\ H' = upd H a (.dK (putK kvs k v))) \/
  ∃ kvs k b, H a = some (.dT kvs) /\ y = .ref b /\ H b = some (.tup (k.map kV)) /\ kvs.length < sizeLine /\ H' = upd H a (.dT (putK kvs k v))
theorem DGet.t {H : Hp} {a b : Addr} {kvs : List (List Key × V)} {k : List Key} (e : H a = some (.dT kvs)) (eb : H b = some (.tup (k.map kV))) : DGet H a (.ref b) (valV kvs k) := .inr ⟨kvs, k, b, .inl e, rfl, eb, rfl⟩
section
variable {X : Cx} {pins : List (Addr × Obj)} {σ : St} {H : Hp} {s : Shared} {a : Addr} {y v : V} {u r : Value} {o : Option V} {A : Around} {E : Value -> Shared -> Prop}
theorem Inv.big (I : Inv X pins σ H s) : sysModules < s.heap.objs.size := by
  have h : mainGlobals < s.heap.objs.size := (I.mod.glob.keeps I.bk).lt;exact Nat.lt_trans (by decide) h
theorem zfa {Q : Value -> Shared -> Prop} (hu : A.units + 1 < cLine) (I : Inv X pins σ H s) (g : DGet H a y (some v)) (ry : RelV y u) (h : ∀ w' s', Inv X pins σ H s' -> RelV v w' -> Q w' s') :
    wpAny (model X.prog X.w) A (getItem (.ref a) u) Q E s := by
  rcases g with ⟨kvs, k, e, ey, l⟩ | ⟨kvs, k, b, e, ey, eb, l⟩
  . subst ey
    obtain ⟨z, hd, vs, rel, dd⟩ := dk_rd I.hok e;obtain ⟨w', hw, rw'⟩ := RelO.some_of (v := v) (o := valueAt vs k) (by rw [l]; exact rel.val k);exact wpAny_getItem_of (kV_is ry) dd.mapOf hw (h w' _ (I.tok _) rw')
  . subst ey
    cases (show u = Value.ref b from ry);obtain ⟨z, hd, xs, rel, dd⟩ := dt_rd I.hok e;obtain ⟨w', hw, rw'⟩ := RelO.some_of (v := v) (o := (atKey xs k).map (·.2)) (by rw [l]; exact rel.val k);obtain ⟨p, hp, hp2⟩ := Option.map_eq_some_iff.mp hw;refine wpAny_getItem_heap (tupleKind_room_in1 hu) (ak I.hok eb) dd hp ?_;rw [hp2];exact h w' _ (I.tok _) rw'
end
section
variable {X : Cx} {pins : List (Addr × Obj)} {σ : St} {H : Hp} {s : Shared} {a : Addr} {kvs : List (Key × V)} {k : Key} {u : Value} {A : Around} {E : Value -> Shared -> Prop}
end
def NoSl (i : Expr) : Prop := ∀ ov iv, subscripted i false ov iv = operate [ov, iv] (getItem ov iv)
theorem zhn {prog : Program} {w : World} {A : Around} {E : Value -> Shared -> Prop} {s : Shared} {env : Env} {value slice : Expr} {pos : Pos} {T id : String} {Q : Value -> Shared -> Prop}
    (hl : typeLookup (.type T) "__getitem__" = pure (some (.builtin id))) (hs : NoSl slice)
    (h : wpAny (model prog w) A (eval value env) (fun o s₁ => wpAny (model prog w) A (eval slice env) (fun i s₂ => s₂.TypeIs o T /\ wpAny (model prog w) A (getItem o i) Q E s₂) E s₁) E s) :
    wpAny (model prog w) A (eval (.Subscript value slice pos) env) Q E s := by
  refine Subscript_ (wpAny_mono h (fun o s₁ h₁ => wpAny_mono h₁ (fun i s₂ h₂ => ?_) fun _ _ x => x) fun _ _ x => x);obtain ⟨hT, h₂⟩ := h₂;unfold subscriptTail;refine wpAny_bind ?_;rw [getitemInPython_of_ne hT.not_modules];refine wpAny_bind (wpAny_specialOf hT hl ?_)
  have fin : wpAny (model prog w) A (subscripted slice false o i) (fun r s₃ => wpAny (model prog w) A (letTemporaryGo value o r >>= fun _ => pure r) Q E s₃) E s₂ := by
    rw [hs o i];exact wpAny_operating (wpAny_mono h₂ (fun r s₃ h₃ => wpAny_bind (wpAny_letTemporaryGo (wpAny_pure h₃))) fun _ _ x => x)
  first
    | exact wpAny_pure (wpAny_bind fin)
    | exact wpAny_bind (wpAny_pure (wpAny_bind fin))
    | exact wpAny_bind fin
theorem zbp {X : Cx} {pins : List (Addr × Obj)} {σ : St} {H : Hp} {s : Shared} {a : Addr} {y : V} {o : Option V} (I : Inv X pins σ H s) (g : DGet H a y o) : s.TypeIs (.ref a) "dict" := by
  rcases g with ⟨kvs, k, e, _, _⟩ | ⟨kvs, k, b, e, _, _, _⟩
  . obtain ⟨_, _, vs, _, dd⟩ := dk_rd I.hok e
    exact dd.typeIs
  . obtain ⟨_, _, xs, _, dd⟩ := dt_rd I.hok e
    exact dd.typeIs
def tDGet (td ty : TE) : TE := fun σ H Q => td σ H fun x H1 => ty σ H1 fun y H2 => ∃ a v, x = .ref a /\ DGet H2 a y (some v) /\ Q v H2
section
variable {X : Cx} {o i e value : Expr} {pos pos' tpos : Pos} {td ty tv : TE}
theorem zbt (hu : X.A.units + 1 < cLine) (ho : PE X o td) (hi : PE X i ty) (hs : NoSl i) : PE X (.Subscript o i pos) (tDGet td ty) := by
  intro pins s σ H Q I h;refine zhn PySem.F.slot_dict_getitem.lookup hs (thn (ho pins s σ H _ I h) fun u s1 ⟨x, H1, I1, rx, q1⟩ => thn (hi pins s1 σ H1 _ I1 q1) fun iv s2 ⟨y, H2, I2, ry, a, v, ex, g, q2⟩ => ?_);subst ex;obtain rfl : u = Value.ref a := rx;exact ⟨zbp I2 g, zfa hu I2 g ry fun w' s3 I3 rw' => ⟨v, H2, I3, rw', q2⟩⟩
end
def tDNewK : TE := fun _ H Q => ∀ p, H p = none -> Q (.ref p) (upd H p (.dK []))
def tDNewT : TE := fun _ H Q => ∀ p, H p = none -> Q (.ref p) (upd H p (.dT []))
section
variable {X : Cx} {pos : Pos}
end
def m7 : List (TE × TE) -> St -> Hp -> (List (V × V) -> Hp -> Prop) -> Prop
  | [], _, H, Q => Q [] H
  | (tk, tv) :: r, σ, H, Q => tk σ H fun x H1 => tv σ H1 fun y H2 => m7 r σ H2 fun ps H3 => Q ((x, y) :: ps) H3
def zfh (kvs more : List (Key × V)) : List (Key × V) := more.foldl (fun acc kv => putK acc kv.1 kv.2) kvs
def tDisp (trs : List (TE × TE)) : TE := fun σ H Q => ∀ p, H p = none -> m7 trs σ (upd H p (.dK [])) fun ps H2 => H2 p = some (.dK []) /\ ∃ kvs : List (Key × V), ps = kvs.map (fun kv => (kV kv.1, kv.2)) /\ kvs.length <= 15 /\ Q (.ref p) (upd H2 p (.dK (zfh [] kvs)))
def IsD (H : Hp) (a : Addr) : Prop := (∃ kvs, Rd H a (.dK kvs)) \/ ∃ kvs, Rd H a (.dT kvs)
section
variable {X : Cx} {pins : List (Addr × Obj)} {σ : St} {H : Hp} {s : Shared} {a : Addr} {y d : V} {u r : Value} {o : Option V} {A : Around} {E : Value -> Shared -> Prop}
end
def tDGet1 (td ty : TE) : TE := fun σ H Q => td σ H fun x H1 => ∃ a, x = .ref a /\ IsD H1 a /\ ty σ H1 fun y H2 => ∃ o, DGet H2 a y o /\ Q (o.getD .non) H2
def tDGet2 (td ty tx : TE) : TE := fun σ H Q => td σ H fun x H1 => ∃ a, x = .ref a /\ IsD H1 a /\ ty σ H1 fun y H2 => tx σ H2 fun z H3 => ∃ o, DGet H3 a y o /\ Q (o.getD z) H3
section
variable {X : Cx} {o e f : Expr} {apos cpos : Pos} {td ty tx : TE}
end
section
variable {X : Cx} {pins : List (Addr × Obj)} {σ : St} {H : Hp} {s : Shared} {a : Addr} {kvs : List (Key × V)} {A : Around} {E : Value -> Shared -> Prop}
end
section
variable {X : Cx} {pins : List (Addr × Obj)} {σ : St} {H : Hp} {s : Shared} {a : Addr} {y : V} {u : Value} {A : Around} {E : Value -> Shared -> Prop}
end
end L2
namespace L2
open PySem PySem.Spec PyProof.Rows
section
variable {X : Cx}
end
section
variable {κ : Type} [DecidableEq κ]
theorem zg6 {kvs : List (κ × V)} {k : κ} {v : V} (h : valV kvs k = some v) : k ∈ kvs.map (·.1) := by
  have q : (kvs.any fun kv => decide (kv.1 = k)) = true := by
    rw [kn, h]
    all_goals rfl
  obtain ⟨p, hp, e⟩ := List.any_eq_true.mp q;exact Zp.mpr ⟨p, hp, of_decide_eq_true e⟩
end
end L2
namespace L2
open PySem PySem.Spec PyProof.Rows
def j7 (ns : List (Str × NameKind)) (y n : Str) : Bool := match ns.lookup y with
  | some .free => y == n
  | some .local => false
  | some .cell => false
  | _ => true
def wm (ns : List (Str × NameKind)) : List Str -> List Str -> Bool
  | [], [] => true
  | y :: ys, n :: ms => j7 ns y n && wm ns ys ms
  | _, _ => false
def uq (ns : List (Str × NameKind)) (env : Env) : Bool := ns.all fun y => !(y.2 == .free) || (env.kindOf y.1 == some .cell || env.kindOf y.1 == some .free)
def ja (ns : List (Str × NameKind)) : Bool := ns.all fun y => !(y.2 == .cell) && (!(y.2 == .local) || ns.lookup y.1 == some .local)
theorem kd {ns : List (Str × NameKind)} : ∀ {N2 N : List Str} {i : Nat} {y : Str}, wm ns N2 N = true -> N2[i]? = some y -> j7 ns y y = true /\ (ns.lookup y = some .free -> N[i]? = some y)
  | [], [], _, _, _, e => by simp at e
  | y' :: ys, n :: ms, 0, y, h, e => by
    simp at e; subst e;unfold wm at h;rw [Bool.and_eq_true] at h;refine ⟨?_, fun hf => ?_⟩
    . have h1 := h.1
      unfold j7 at h1 ⊢
      split at h1 <;> first | rfl | (exact absurd h1 Bool.false_ne_true) | (exact beq_self_eq_true _)
    . have h1 := h.1
      unfold j7 at h1;rw [hf] at h1;have e : y' = n := eq_of_beq h1;simp [e]
  | y' :: ys, n :: ms, i + 1, y, h, e => by
    unfold wm at h;rw [Bool.and_eq_true] at h;obtain ⟨h1, h2⟩ := kd (i := i) (y := y) h.2 (by simpa using e);exact ⟨h1, fun hf => by simpa using h2 hf⟩
  | [], _ :: _, _, _, h, _ => by cases h
  | _ :: _, [], _, _, h, _ => by cases h
theorem sk {ns : List (Str × NameKind)} {env : Env} (h : uq ns env = true) {y : Str × NameKind} (hy : y ∈ ns) (hf : y.2 = .free) : env.kindOf y.1 = some .cell \/ env.kindOf y.1 = some .free := by
  have q := ZQ.mp h y hy;rw [hf] at q
  simpa using q
theorem fq {ns : List (Str × NameKind)} (h : ja ns = true) : ∀ y ∈ ns, y.2 ≠ .cell := fun y hy e => by
  have q := ZQ.mp h y hy;rw [e] at q;simp at q
theorem i5 {ns : List (Str × NameKind)} (h : ja ns = true) : ∀ y ∈ ns, y.2 = .local -> ns.lookup y.1 = some .local := fun y hy e => by
  have q := ZQ.mp h y hy;rw [e] at q
  simpa using q
theorem w9 {env : Env} {x : Str} : ∀ {ns : List (Str × NameKind)}, (ns.map fun (n, k) => if (k == NameKind.free && env.scope.kind == .function && env.kindOf n == some .cell) then (n, NameKind.cell) else (n, k)).lookup x =
    (ns.lookup x).map fun k => if (k == NameKind.free && env.scope.kind == .function && env.kindOf x == some .cell) then NameKind.cell else k
  | [] => rfl
  | (n, k) :: r => by
    have ih := @w9 env x r
    show List.lookup x ((if (k == NameKind.free && env.scope.kind == .function && env.kindOf n == some .cell) = true then (n, NameKind.cell) else (n, k)) :: _) = _
    cases hx : x == n with
    | true =>
      have e : x = n := eq_of_beq hx;subst e;simp only [ZF, beq_self_eq_true]
      by_cases hc : (k == NameKind.free && env.scope.kind == .function && env.kindOf x == some .cell) = true
      . rw [if_pos hc]; simp only [ZF, beq_self_eq_true, Yh]; rw [if_pos hc]
      . rw [if_neg hc]; simp only [ZF, beq_self_eq_true, Yh]; rw [if_neg hc]
    | false =>
      simp only [ZF, hx]
      by_cases hc : (k == NameKind.free && env.scope.kind == .function && env.kindOf n == some .cell) = true
      . rw [if_pos hc]; simp only [ZF, hx]; exact ih
      . rw [if_neg hc]; simp only [ZF, hx]; exact ih
theorem l7 {scope : Scope} {env : Env} (h : ∀ y ∈ scope.names, y.2 = .free -> ∃ c, env.cells.lookup y.1 = some c) :
    ∃ cl, closureFor scope env = pure cl /\ (∀ x c, cl.lookup x = some c -> env.cells.lookup x = some c) /\ (∀ y ∈ scope.names, y.2 = .free -> ∃ c, cl.lookup y.1 = some c) := by
  have all : ∀ (ns : List (Str × NameKind)) (cs : List (Str × Addr)), (∀ y ∈ ns, y.2 = .free -> ∃ c, env.cells.lookup y.1 = some c) -> (∀ x c, cs.lookup x = some c -> env.cells.lookup x = some c) ->
      ∃ cl, (forIn ns cs fun x r => (if (x.2 == NameKind.free) = true then do let a <- cellOf env x.1; pure (ForInStep.yield ((x.1, a) :: r)) else pure (ForInStep.yield r) : Sem (ForInStep (List (Str × Addr))))) = pure cl /\
        (∀ x c, cl.lookup x = some c -> env.cells.lookup x = some c) /\ (∀ x, (cs.lookup x).isSome = true -> (cl.lookup x).isSome = true) /\ (∀ y ∈ ns, y.2 = .free -> ∃ c, cl.lookup y.1 = some c) := by
    intro ns
    induction ns with
    | nil => intro cs _ hc; exact ⟨cs, rfl, hc, fun _ z => z, fun _ z => nomatch z⟩
    | cons y r ih =>
      intro cs hh hc;have hr : ∀ z ∈ r, z.2 = .free -> ∃ c, env.cells.lookup z.1 = some c := fun z hz => hh z (Zv _ hz)
      by_cases hf : y.2 = .free
      . obtain ⟨c, ec⟩ := hh y ZA hf
        have hc' : ∀ x d, ((y.1, c) :: cs).lookup x = some d -> env.cells.lookup x = some d := fun x d e => by
          rw [ZF] at e
          cases hx : x == y.1 with
          | true =>
            rw [hx] at e;have e2 : x = y.1 := eq_of_beq hx;cases e;rw [e2]; exact ec
          | false =>
            rw [hx] at e;exact hc x d e
        obtain ⟨cl, e1, e2, e3, e4⟩ := ih ((y.1, c) :: cs) hr hc';refine ⟨cl, ?_, e2, fun x hx => e3 x ?_, fun z hz hzf => ?_⟩
        . rw [List.forIn_cons]
          have ek : (y.2 == NameKind.free) = true := by rw [hf]; rfl
          simp only [ek, if_true, cellOf, ec, pure_bind];exact e1
        . rw [ZF]; split <;> first | rfl | exact hx
        . rcases ZK.mp hz with rfl | hz
          . have := e3 z.1 (by rw [ZF, beq_self_eq_true]; rfl)
            exact Yo.mp this
          . exact e4 z hz hzf
      . obtain ⟨cl, e1, e2, e3, e4⟩ := ih cs hr hc
        refine ⟨cl, ?_, e2, e3, fun z hz hzf => ?_⟩
        . rw [List.forIn_cons]
          have ek : (y.2 == NameKind.free) = false := by simpa using hf
          simp only [ek, Bool.false_eq_true, if_false, pure_bind];exact e1
        . rcases ZK.mp hz with rfl | hz
          . exact absurd hzf hf
          . exact e4 z hz hzf
  obtain ⟨cl, e1, e2, _, e4⟩ := all scope.names [] h (fun _ _ z => by cases z);refine ⟨cl, ?_, e2, e4⟩;unfold closureFor
  first
    | (rw [show (forIn scope.names ([] : List (Str × Addr)) _ : Sem (List (Str × Addr))) = pure cl from e1]; rfl)
    | (simp only [bind_pure]; exact e1)
    | (show (forIn scope.names [] _ >>= _) = _; exact (congrArg (fun t => t >>= fun cs => pure cs) e1))
structure Dyn where
  cl : List (Str × Addr)
  C : Addr
  s₀ : Shared
  H₀ : Hp
  fp : List Addr
abbrev yz (X : Cx) (scope : Scope) (N' : List Str) (d : Dyn) : Cx where
  prog := X.prog
  w := X.w
  K := X.K
  mg := X.mg
  base := X.base
  A := X.A
  N := N'
  s₀ := d.s₀
  H₀ := d.H₀
  env := compEnvC scope d.cl d.C X.env
  outer := X.stack
  stack := X.stack
  ex := d.fp
  fn := fun _ => false
  calm := true
  pn := []
  xe := fun _ _ => False
theorem iw {prog : Program} {w : World} {A : Around} {R : Result -> Shared -> Prop} {s : Shared} {elt target iter : Expr} {ifs : List Expr} {scope : Scope} {pos : Pos} {it acc : Value} {env : Env} (I : Nat -> Shared -> Prop)
    (turn : ∀ n s, I n s -> wpAny (model prog w) A (pyNext it) (fun r s₁ => match r with
      | none => R (.ok .next) s₁
      | some v => wpAny (model prog w) A (letOwnedTupleGo target it v) (fun _ s₁' => wpAny (model prog w) A (assign target env v) (fun _ s₂ =>
          wpAny (model prog w) A (forIn ifs true fun c r => if r = true then do let ok <- isTrue c env (eval c env); pure (ForInStep.yield ok) else pure (ForInStep.yield r)) (fun ok s₃ =>
            if ok = true then wpAny (model prog w) A (eval elt env) (fun x s₄ =>
              wpAny (model prog w) A (call (.builtin "list.append") [acc, x]) (fun _ s₅ => ∃ m, m < n /\ I m s₅) (fun _ _ => False) s₄) (fun _ _ => False) s₃
            else ∃ m, m < n /\ I m s₃) (fun _ _ => False) s₂) (fun _ _ => False) s₁') (fun _ _ => False) s₁) (fun _ _ => False) s)
    (n : Nat) (h : I n s) :
    codeAny (model prog w) A (.compLoop (.ListComp elt [⟨target, iter, ifs, 0⟩] scope pos) 0 it acc env) R s := by
  refine codeAny_loop rfl I (fun n s hI => ?_) n h
  show wpAny _ A ((compTurn (.ListComp elt [⟨target, iter, ifs, 0⟩] scope pos) 0 it acc env).onRaise (fun x => do noteFrame x env; theTreesLotGoes x)) _ _ s
  refine wpAny_noted ?_;rw [compTurn_list];refine wpAny_bind (wpAny_standAt (wpAny_bind (wpAny_mono (turn n s hI) (fun r s₁ h₁ => ?_) fun _ _ f => f.elim)))
  cases r with
  | none => exact wpAny_pure h₁
  | some v =>
    refine wpAny_bind (wpAny_mono h₁ (fun _ s₁' h₁' => ?_) fun _ _ f => f.elim);refine wpAny_bind (wpAny_mono h₁' (fun _ s₂ h₂ => wpAny_bind (wpAny_mono h₂ (fun ok s₃ h₃ => ?_) fun _ _ f => f.elim)) fun _ _ f => f.elim)
    cases ok with
    | false => exact wpAny_pure ⟨rfl, h₃⟩
    | true =>
      exact wpAny_bind (wpAny_bind (wpAny_mono h₃ (fun x s₄ h₄ => wpAny_bind (wpAny_mono h₄ (fun _ s₅ h₅ => wpAny_pure (wpAny_pure ⟨rfl, h₅⟩)) fun _ _ f => f.elim)) fun _ _ f => f.elim))
def PTs (X : Cx) (ifs : List Expr) (t : TT) : Prop :=
  ∀ (pins : List (Addr × Obj)) (s : Shared) (σ : St) (H : Hp) (Q : Bool -> Hp -> Prop), Inv X pins σ H s -> t σ H Q ->
    wpAny (model X.prog X.w) X.A (forIn ifs true fun c r => if r = true then do let ok <- isTrue c X.env (eval c X.env); pure (ForInStep.yield ok) else pure (ForInStep.yield r)) (TP X pins σ Q) X.xe s
def tAll : TT := fun _ H Q => Q true H
theorem zt {X : Cx} : PTs X [] tAll := fun _ _ _ H _ I h => wpAny_tests_nil ⟨H, I, h⟩
def sj (J : It) (σ : St) (k : Nat) (g : TG) (tt : TT) (te : TE) (H1 : Hp) (Fin : List V -> Hp -> Prop) : Prop :=
  ∃ W : Nat -> Nat -> List V -> Hp -> Prop, (∃ m, W 0 m [] H1) /\ ∀ i m ys H, W i m ys H -> ys.length <= sizeLine /\
    ((J.stop i H /\ Fin ys H) \/ (J.go i H /\ ∃ N : List V -> Hp -> Prop, (∀ ys' H', N ys' H' -> ∃ m', m' < m /\ W (i + 1) m' ys' H') /\ ∀ x H', J.yld i H x H' -> g x (List.replicate k none ++ σ) H' fun σ2 H2 => σ2.drop k = σ /\
      tt σ2 H2 fun b H3 => if b = true then te σ2 H3 fun v H4 => N (ys ++ [v]) H4 else N ys H3))
abbrev lobj (its : List Value) : Obj := { cls := .type "list", data := .seq its.toArray its.length }
section
variable {X : Cx} {pins : List (Addr × Obj)} {σ : St} {H2 : Hp} {s₂ : Shared} {scope : Scope} {ts N2 : List Str} {cl : List (Str × Addr)} {C D : Addr} {fp : List Addr}
theorem zhw (I2 : Inv X pins σ H2 s₂) (hc : X.calm = true) (f2 : ∀ b ∈ fp, FpOk X pins H2 b /\ b < s₂.heap.objs.size) (hkind : scope.kind = .function) (hown : ja scope.names = true) (hfree : uq scope.names X.env = true)
    (hcl1 : ∀ x c, cl.lookup x = some c -> X.env.cells.lookup x = some c) (hcl2 : ∀ y ∈ scope.names, y.2 = .free -> ∃ c, cl.lookup y.1 = some c) (hC : s₂.heap.objs.size <= C) :
    (yz X scope (ts ++ N2) ⟨cl, C, s₂, H2, fp⟩).Ok := by
  refine ⟨I2.ok.mod, hkind, I2.ok.glob, I2.ok.blt, hC, fun x y c e1 e2 => I2.ok.inj x y c (hcl1 _ _ e1) (hcl1 _ _ e2), fun x hx => ?_, fun x c z _ => absurd (show false = true from z) Bool.false_ne_true, fun _ => I2.ok.hd hc, I2.ok.frames, .inl rfl, fun b hb => ?_, I2.bs, Zd I2.ok.bsz I2.sz, fun b o e hb => ?_, fun b hb hfs => ?_, I2.stack, I2.stkFree⟩
  . have hx' : (relabel scope X.env).names.lookup x = some .cell \/ (relabel scope X.env).names.lookup x = some .free := hx
    have e0 : (relabel scope X.env).names.lookup x = _ := w9 (env := X.env) (x := x) (ns := scope.names);rw [e0] at hx'
    cases q : scope.names.lookup x with
    | none => rw [q] at hx'; simp at hx'
    | some k =>
      rw [q] at hx';simp only [Yh, Option.some.injEq] at hx';have hm : (x, k) ∈ scope.names := PySem.mem_of_lookup q
      have hk : k = .free := by
        have nc := fq hown _ hm
        split at hx'
        . rename_i hcond
          simp only [Bool.and_eq_true] at hcond;exact eq_of_beq hcond.1.1
        . rcases hx' with z | z
          . exact absurd z nc
          . exact z
      exact hcl2 _ hm hk
  . obtain ⟨⟨f0, f1, f3, f4, f5, f6⟩, hlt⟩ := f2 b hb
    exact ⟨Zs (Zh hlt hC), fun x c e => f5 x c (hcl1 x c e)⟩
  . obtain ⟨⟨f0, f1, f3, f4, f5, f6⟩, hlt⟩ := f2 b hb
    rcases f4 with z | z
    . exact I2.ok.noex b o e z
    . exact absurd (Zh (Heap.lt_size e) (Zd I2.ok.bsz z)) (ZJ _)
  . obtain ⟨⟨f0, f1, f3, f4, f5, f6⟩, hlt⟩ := f2 b hb
    rcases ZK.mp (I2.stkSub b hfs) with z | z
    . exact f1 z
    . exact f3 z
theorem zcy (I2 : Inv X pins σ H2 s₂) (hc : X.calm = true) (f2 : ∀ b ∈ fp, FpOk X pins H2 b /\ b < s₂.heap.objs.size) (hkind : scope.kind = .function) (hown : ja scope.names = true) (hfree : uq scope.names X.env = true) (hout : wm scope.names N2 X.N = true)
    (hcl1 : ∀ x c, cl.lookup x = some c -> X.env.cells.lookup x = some c) (hcl2 : ∀ y ∈ scope.names, y.2 = .free -> ∃ c, cl.lookup y.1 = some c) (hC : s₂.heap.objs.size <= C) (hDC : D ≠ C) (hD : s₂.heap.objs.size <= D)
    {h₁ : Heap} {tk : Nat} {m : Str -> Option Value} (hn : h₁.Ns C m) (old : ∀ b o, s₂.heap.get? b = some o -> h₁.get? b = some o) (hacc : h₁.get? D = some (lobj [])) :
    Inv (yz X scope (ts ++ N2) ⟨cl, C, s₂, H2, fp⟩) [(D, lobj [])] (List.replicate ts.length none ++ σ) H2 { s₂ with heap := h₁, toks := tk } := by
  have ok := zhw (ts := ts) (N2 := N2) I2 hc f2 hkind hown hfree hcl1 hcl2 hC
  have hlN : ∀ {a b : List Str}, wm scope.names a b = true -> a.length = b.length := by
    intro a
    induction a with
    | nil => intro b h; cases b with | nil => rfl | cons _ _ => cases h
    | cons y ys ih =>
      intro b h
      cases b with
      | nil => cases h
      | cons n ms =>
        unfold wm at h;rw [Bool.and_eq_true] at h;rw [ZL, ZL, ih h.2]
  refine ⟨ok, rfl, I2.bare, Un.kept old, ⟨m, hn, fun i x v e1 e2 e3 => ?_⟩, fun x c e => ?_, ?_, fun x c e => I2.freeC x c (hcl1 x c e), fun p hp => ?_, I2.hok.kept old, ?_⟩
  . by_cases hi : i < ts.length
    . rw [Zg (by simpa using hi), ZZ] at e2
      split at e2 <;> cases e2
    . have hi' : ts.length <= i := ZD.mp hi
      rw [Zf (by simpa using hi')] at e2;rw [ZI] at e2;have e1' : (ts ++ N2)[i]? = some x := e1;rw [Zf hi'] at e1';obtain ⟨k1, k2⟩ := kd hout e1';have e0 : (relabel scope X.env).names.lookup x = _ := w9 (env := X.env) (x := x) (ns := scope.names);have e3' : (relabel scope X.env).names.lookup x = some .local \/ (relabel scope X.env).names.lookup x = some .cell \/ (relabel scope X.env).names.lookup x = some .free := e3;rw [e0] at e3'
      cases q : scope.names.lookup x with
      | none => rw [q] at e3'; simp at e3'
      | some k =>
        have hm : (x, k) ∈ scope.names := PySem.mem_of_lookup q
        have hk : k = .free := by
          unfold j7 at k1;rw [q] at k1 e3'
          cases k with
          | free => rfl
          | «local» => cases k1
          | cell => cases k1
          | _ => exfalso; revert e3'; simp
        subst hk;obtain ⟨mo, hmo, hl⟩ := I2.loc;have hkv := sk hfree hm rfl;have vis : Vis X.env.scope x := hkv.elim (fun z => .inr (.inl z)) fun z => .inr (.inr z)
        obtain ⟨u, r, l⟩ := hl _ x v (k2 q) e2 vis;refine ⟨u, r, .inr ⟨?_, ?_⟩⟩
        . show (relabel scope X.env).names.lookup x = some .cell \/ (relabel scope X.env).names.lookup x = some .free
          rw [e0, q];simp only [Yh, Option.some.injEq]
          split
          . exact .inl rfl
          . exact .inr rfl
        . rcases l with ⟨kl, _⟩ | ⟨_, c, ec, z⟩
          . exfalso
            rcases hkv with z | z <;> (rw [kl] at z; cases z)
          . obtain ⟨c', ec'⟩ := hcl2 _ hm rfl
            have := hcl1 _ _ ec';rw [ec] at this;cases this;obtain ⟨o, ho, hd⟩ := z;exact ⟨c, ec', o, old _ _ ho, hd⟩
  . obtain ⟨v, o, ho, hd⟩ := I2.cell x c (hcl1 x c e)
    exact ⟨v, o, old _ _ ho, hd⟩
  . exact I2.hok.fresh hC
  . have e : p = (D, lobj []) := by simpa using hp
    subst e;refine ⟨hacc, I2.hok.fresh hD, hDC, fun z => ?_, fun v z => by cases z⟩
    rcases ZK.mp (I2.stkSub D z) with z | z
    . exact absurd (Zh I2.lt (by rw [<- z]; exact hD)) (ZJ _)
    . exact I2.nofs hD z
  . show (List.replicate ts.length none ++ σ).length = (ts ++ N2).length
    rw [Zo, Zo, ZI, I2.len, hlN hout]
theorem zgm (I2 : Inv X pins σ H2 s₂) (f2 : ∀ b ∈ fp, FpOk X pins H2 b) (hD : s₂.heap.objs.size <= D) {σ' : St} {H' : Hp} {s' : Shared} {its : List Value} {ys : List V} {pl : List (Addr × Obj)}
    (J : Inv (yz X scope (ts ++ N2) ⟨cl, C, s₂, H2, fp⟩) pl σ' H' s') (hp : s'.heap.get? D = some (lobj its)) (hn : H' D = none) (hv : Vals ys its) (hz : ys.length <= sizeLine) : Inv X pins σ (upd H' D (.lst ys)) s' := by
  have neD : ∀ b o, s₂.heap.get? b = some o -> b ≠ D := fun b o e => Zs (Zh (Heap.lt_size e) hD)
  have neH : ∀ b o, H2 b = some o -> b ≠ D := fun b o e => Zs (Zh (I2.hok.lt e) hD)
  have u := J.base
  have un : Un (frs X.stack) fp H2 (upd H' D (.lst ys)) s₂.heap s'.heap :=
    ⟨u.keep, u.slot, fun b o e n hx => by rw [zx (neD b o e)]; exact u.free b o e n hx, u.there, fun b xs e => by rw [zx (neH b _ e)]; exact u.tups b xs e, fun b o v e => by rw [zx (neH b _ e)]; exact u.frzs b o v e,
      fun b ps e => by rw [zx (neH b _ e)]; exact u.tbls b ps e⟩
  have hok : HOk X.prog X.w (upd H' D (.lst ys)) s'.heap := fun b o e => by
    by_cases hb : b = D
    . subst hb
      rw [zf] at e;cases e;exact ⟨hz, its, its.length, hv, hp⟩
    . rw [zx hb] at e
      exact (J.hok b o e).stay (fun c v _ q => q) (fun c q => by rw [zx (y8 q hn)]; exact q) fun c xs q => by rw [zx (y8 q hn)]; exact q
  exact I2.call' (ch := fp) J.os un hok J.bare fun b hb => by
    obtain ⟨f0, f1, f3, f4, f5, f6⟩ := f2 b hb;exact ⟨f4, f1, f5, f6⟩
theorem fc {E : Value -> Shared -> Prop} {tg elt iter : Expr} {ifs : List Expr} {pos : Pos} {it : Addr} {tn : Nat -> Heap -> Prop} {J : It} {g : Dyn -> TG} {tt : Dyn -> TT} {te : Dyn -> TE} {RR : Value -> Addr -> Result -> Shared -> Prop} {Fin : List V -> Hp -> Prop}
    (I2 : Inv X pins σ H2 s₂) (hc : X.calm = true) (T : Turn X.prog X.w X.K tg J fp it tn) (st : tn 0 s₂.heap) (f2 : ∀ b ∈ fp, FpOk X pins H2 b) (hkind : scope.kind = .function) (hown : ja scope.names = true) (hfree : uq scope.names X.env = true) (hout : wm scope.names N2 X.N = true)
    (hcl1 : ∀ x c, cl.lookup x = some c -> X.env.cells.lookup x = some c) (hcl2 : ∀ y ∈ scope.names, y.2 = .free -> ∃ c, cl.lookup y.1 = some c)
    (hg : ∀ d, PG (yz X scope (ts ++ N2) d) tg (g d)) (ht : ∀ d, PTs (yz X scope (ts ++ N2) d) ifs (tt d)) (he : ∀ d, PE (yz X scope (ts ++ N2) d) elt (te d))
    (hW : ∀ d, sj J σ ts.length (g d) (tt d) (te d) H2 Fin)
    (hRR : ∀ D C s' H' ys, s₂.heap.objs.size <= C -> C ≠ D -> Inv X pins σ (upd H' D (.lst ys)) s' -> H' D = none -> H' C = none -> (∃ m, s'.heap.Ns C m) -> ys.length <= sizeLine -> Fin ys H' -> RR (.ref D) C (.ok .next) s') :
    wpAny (model X.prog X.w) X.A (newList []) (fun acc s₃ => wpAny (model X.prog X.w) X.A (newFunctionEnv scope X.env.globals cl [] X.env.qual none .none (some X.env)) (fun cenv s₄ =>
      codeAny (model X.prog X.w) X.A (.compStart (.ListComp elt [⟨tg, iter, ifs, 0⟩] scope pos) 0 (.ref it) acc { cenv with scope := relabel scope X.env }) (RR acc cenv.locals) s₄) E s₃) E s₂ := by
  refine wpAny_newObj_type (wpAny_newFunctionEnv (fq hown) (by intro y hy; simp at hy) (fun h₁ hns₁ hsb₁ => ?_) hkind);dsimp only at hns₁ hsb₁ ⊢;generalize hH2 : s₂.heap.push { cls := .type "list", dict := none, data := .seq ([] : List Value).toArray } = HP at hns₁ hsb₁ ⊢;have hC : HP.objs.size = s₂.heap.objs.size + 1 := by rw [<- hH2, Heap.size_push]
  have hDC : s₂.heap.objs.size ≠ HP.objs.size := by rw [hC]; exact Zs (Yw _)
  have hCle : s₂.heap.objs.size <= HP.objs.size := by rw [hC]; exact Ys _
  have below : ∀ b, b < s₂.heap.objs.size -> b ≠ HP.objs.size /\ b ≠ s₂.heap.objs.size := fun b hb => ⟨by rw [hC]; exact Zs (Yd hb), Zs hb⟩
  have old : ∀ b o, s₂.heap.get? b = some o -> h₁.get? b = some o := fun b o e => hsb₁.extBut b o (below b (Heap.lt_size e)).1 (Heap.get?_push_of_some _ (hH2 ▸ Heap.get?_push_of_some _ e))
  have hacc : h₁.get? s₂.heap.objs.size = some (lobj []) := hsb₁.extBut _ _ hDC (Heap.get?_push_of_some _ (hH2 ▸ Heap.get?_push_size _ rfl))
  have flt : ∀ b ∈ fp, b < s₂.heap.objs.size := fun b hb => by
    obtain ⟨o, e, _⟩ := T.obj _ _ st b hb;exact Heap.lt_size e
  generalize hDD : s₂.heap.objs.size = D at *;generalize hCC : HP.objs.size = C at *;have hDle : s₂.heap.objs.size <= D := Nat.le_of_eq hDD;have I4 := fun (tk : Nat) => zcy (ts := ts) (D := D) (C := C) (tk := tk) I2 hc (fun b hb => ⟨f2 b hb, by rw [hDD]; exact flt b hb⟩) hkind hown hfree hout hcl1 hcl2 (by rw [hDD]; exact hCle) hDC hDle hns₁ old hacc
  generalize hd : (⟨cl, C, s₂, H2, fp⟩ : Dyn) = d at *;obtain ⟨W, ⟨m0, w0⟩, turn⟩ := hW d
  have Xs : ∀ {pl : List (Addr × Obj)} {H' : Hp}, (∀ b ∈ fp, H' b = none) -> (∀ p ∈ pl, p.1 = D) -> ∀ b ∈ fp, FpOk (yz X scope (ts ++ N2) d) pl H' b := fun {pl H'} hn hp b hb => by
    subst hd;obtain ⟨f0, f1, f3, f4, f5, f6⟩ := f2 b hb;refine ⟨hn b hb, (below b (flt b hb)).1, fun z => ?_, .inl hb, fun x c e => f5 x c (hcl1 x c e), fun p hp' => ?_⟩
    . rcases ZK.mp (I2.stkSub b z) with z | z
      . exact f1 z
      . exact f3 z
    . rw [hp p (by simpa using hp')]
      exact Ne.symm (below b (flt b hb)).2
  have loop : ∀ s₃ : Shared, s₃ = { s₂ with heap := h₁, toks := s₂.toks + ([] : List (Str × Value)).length } ->
      codeAny (model X.prog X.w) X.A (.compLoop (.ListComp elt [⟨tg, iter, ifs, 0⟩] scope pos) 0 (.ref it) (.ref D) (compEnvC scope cl C X.env)) (RR (.ref D) C) s₃ := by
    rintro s₃ rfl
    refine iw (fun n s' => ∃ i ys H' its, Inv (yz X scope (ts ++ N2) d) [(D, lobj its)] (List.replicate ts.length none ++ σ) H' s' /\ tn i s'.heap /\ (∀ b ∈ fp, H' b = none) /\ Vals ys its /\ W i n ys H') ?_ m0
      ⟨0, [], H2, [], I4 _, T.keep _ _ _ st fun b _ o e => old b o e, fun b hb => (f2 b hb).1, .nil, w0⟩
    rintro n s3 ⟨i, ys, H3, its, I3, st3, fr3, hv3, w3⟩
    obtain ⟨hlen, tr⟩ := turn i n ys H3 w3
    have one : ∀ p ∈ [(D, lobj its)], p.1 = D := fun p hp => by
      have e : p = (D, lobj its) := by simpa using hp
      rw [e]
    have eenv : (yz X scope (ts ++ N2) d).env = compEnvC scope cl C X.env := by subst hd; rfl
    rcases tr with ⟨stop, fin⟩ | ⟨go, N, hN, step⟩
    . refine thn (T.done (yz X scope (ts ++ N2) d) rfl rfl rfl rfl i _ s3 _ H3 (fun _ _ => False) I3 (Xs fr3 one) st3 stop) fun r s4 ⟨hr, J4⟩ => ?_
      subst hr
      show RR (.ref D) C (.ok .next) s4
      obtain ⟨pe, pn, _⟩ := J4.pin (D, lobj its) (by simp);have fC : H3 C = none := by have := J4.free; rw [eenv] at this; exact this
      have nC : ∃ m, s4.heap.Ns C m := by
        obtain ⟨m, z, _⟩ := J4.loc;rw [eenv] at z;exact ⟨m, z⟩
      subst hd;exact hRR D C s4 H3 ys hCle (Ne.symm hDC) (zgm I2 f2 hDle J4 pe pn hv3 hlen) pn fC nC hlen fin
    . refine thn (T.item (yz X scope (ts ++ N2) d) rfl rfl rfl rfl i _ s3 _ H3 (fun _ _ => False) I3 (Xs fr3 one) st3 go) fun r s4 ⟨u, hr, h4⟩ => ?_
      subst hr;refine thn h4 fun _ s5 ⟨x, H5, I5, r5, y5, st5, fr5⟩ => ?_
      have I5' := I5.pinned (Xs fr5 one) (T.obj _ _ st5);rw [<- eenv];refine thn (hg d _ s5 _ H5 x u _ I5' r5 (step x H5 y5)) fun _ s6 ⟨σ6, H6, I6, hdrop, q6⟩ => ?_
      have back : ∀ {ys' : List V} {its' : List Value} {H' : Hp} {s' : Shared} {pl : List (Addr × Obj)}, Inv (yz X scope (ts ++ N2) d) ([(D, lobj its')] ++ pl) σ6 H' s' -> Inv (yz X scope (ts ++ N2) d) [(D, lobj its')] (List.replicate ts.length none ++ σ) H' s' := fun {ys' its' H' s' pl} I' => by
        have hl : σ6.length = (ts ++ N2).length := I'.len;refine (I'.pins_of (pins' := [(D, lobj its')]) fun p hp => I'.pin p (Zu _ (ZU _ hp))).weak ?_ ?_
        . rw [hl]; exact I3.len
        . intro j v e
          by_cases hj : j < ts.length
          . rw [Zg (by simpa using hj), ZZ] at e
            split at e <;> cases e
          . have hj' : ts.length <= j := ZD.mp hj
            rw [Zf (by simpa using hj'), ZI, <- hdrop, Yp] at e;rw [show ts.length + (j - ts.length) = j by omega] at e;exact e
      refine thn (ht d _ s6 σ6 H6 _ I6 q6) fun b s7 ⟨H7, I7, q7⟩ => ?_
      have pinsOf : ∀ {its' : List Value} {H' : Hp} {s' : Shared}, Inv (yz X scope (ts ++ N2) d) ([(D, lobj its')] ++ ld fp s5.heap) σ6 H' s' -> (∀ b ∈ fp, ∀ o, s5.heap.get? b = some o -> s'.heap.get? b = some o) /\ ∀ b ∈ fp, H' b = none := fun {its' H' s'} I' => by
        refine ⟨fun b hb o e => (I'.pin (b, o) (Zu _ (Zu _ (ve hb e)))).1, fun b hb => ?_⟩;obtain ⟨o, e, _⟩ := T.obj _ _ st5 b hb;exact (I'.pin (b, o) (Zu _ (Zu _ (ve hb e)))).2.1
      cases b with
      | false =>
        have q7' : N ys H7 := by simpa using q7
        obtain ⟨m', hm, w7⟩ := hN _ _ q7';obtain ⟨k1, k2⟩ := pinsOf I7
        show ∃ m, m < n /\ _
        exact ⟨m', hm, i + 1, ys, H7, its, back (ys' := ys) I7, T.keep _ _ _ st5 k1, k2, hv3, w7⟩
      | true =>
        have q7' : te d σ6 H7 fun v H4 => N (ys ++ [v]) H4 := by simpa using q7
        show wpAny _ _ _ _ _ _
        refine thn (he d _ s7 σ6 H7 _ I7 q7') fun y s8 ⟨v, H8, I8, r8, n8⟩ => ?_
        obtain ⟨m', hm, w8⟩ := hN _ _ n8;obtain ⟨k1, k2⟩ := pinsOf I8;obtain ⟨pe, pn, pC, pf, pd⟩ := I8.pin (D, lobj its) (by simp);have hsz : its.toArray.size <= sizeLine := by rw [Zr, <- hv3.length]; exact hlen
        refine append_at (hsz := hsz) pe fun h9 sb9 e9 => ?_
        have J8 : Inv (yz X scope (ts ++ N2) d) [] σ6 H8 s8 := I8.pins_of fun p hp => nomatch hp
        have hDs : (yz X scope (ts ++ N2) d).s₀.heap.objs.size <= D := by subst hd; exact hDle
        have J9 : Inv (yz X scope (ts ++ N2) d) [] σ6 H8 { s8 with heap := h9 } := J8.turned (t' := s8.toks) (it := D) (fun b o hb e => sb9.extBut b o hb e) pn pC (.inr hDs)
          (fun x c e => by
            obtain ⟨v', z⟩ := I3.cell x c e;subst hd;obtain ⟨v2, z2⟩ := I2.cell x c (hcl1 x c e)
            exact Zs (Zh z2.lt hDle)) (fun p hp => nomatch hp)
        have e9' : h9.get? D = some (lobj (its ++ [y])) := by
          rw [e9]
          show some ({ cls := .type "list", data := .seq (its.toArray.push y) (its.length + 1) } : Obj) = some { cls := .type "list", data := .seq (its ++ [y]).toArray (its ++ [y]).length }
          rw [Zo, Yk, List.push_toArray]
        have J9' : Inv (yz X scope (ts ++ N2) d) ([(D, lobj (its ++ [y]))] ++ []) σ6 H8 { s8 with heap := h9 } := J9.pins_of fun p hp => by
          have e : p = (D, lobj (its ++ [y])) := by simpa using hp
          subst e;exact ⟨e9', pn, pC, pf, fun v z => by cases z⟩
        refine ⟨m', hm, i + 1, ys ++ [v], H8, its ++ [y], back (ys' := ys) J9', ?_, k2, hv3.append (.cons r8 .nil), w8⟩;exact T.keep _ _ _ st5 fun b hb o e => sb9.extBut b o (below b (flt b hb)).2 (k1 b hb o e)
  exact codeAny_compStart_list (loop _ rfl) (T.self _ 0 _ _ _ (T.keep _ _ _ st fun b _ o e => old b o e) (loop _ rfl))
end
def bq (k : Nat) (wi : TI) (g : Dyn -> TG) (tt : Dyn -> TT) (te : Dyn -> TE) : TE := fun σ H Q => wi σ H fun J H1 => ∀ d : Dyn, sj J σ k (g d) (tt d) (te d) H1 fun ys H' => ∀ l, H' l = none -> Q (.ref l) (upd H' l (.lst ys))
theorem z7 {X : Cx} {tg elt iter : Expr} {ifs : List Expr} {scope : Scope} {pos : Pos} (ts N2 : List Str) {wi : TI} {g : Dyn -> TG} {tt : Dyn -> TT} {te : Dyn -> TE} (hc : X.calm = true) (hi : PI X tg iter wi)
    (hg : ∀ d, PG (yz X scope (ts ++ N2) d) tg (g d)) (ht : ∀ d, PTs (yz X scope (ts ++ N2) d) ifs (tt d)) (he : ∀ d, PE (yz X scope (ts ++ N2) d) elt (te d))
    (hkind : scope.kind = .function) (hown : ja scope.names = true) (hfree : uq scope.names X.env = true) (hout : wm scope.names N2 X.N = true)
    (hs : ∀ x, foldedSetIterable iter X.env x = pure x := by intro _; rfl) : PE X (.ListComp elt [⟨tg, iter, ifs, 0⟩] scope pos) (bq ts.length wi g tt te) := by
  intro pins s σ H Q I h;obtain ⟨cl, hclos, hcl1, hcl2⟩ := l7 (scope := scope) (env := X.env) fun y hy hf => I.ok.has y.1 (sk hfree hy hf)
  rw [eval_ListComp];refine wpAny_comprehension_free (use := none) rfl hs hclos hkind (i5 hown) (thn (hi pins s σ H _ I h) fun v s1 h1 => thn h1 fun itv s2 h2 => ?_);obtain ⟨it, fp, tn, J, H2, e, I2, T, st2, f2, hW⟩ := h2;subst e;refine fc (RR := fun acc C => compPost (model X.prog X.w) X.A X.xe none (EP X pins σ Q) acc C) I2 hc T st2 f2 hkind hown hfree hout hcl1 hcl2 hg ht he hW ?_;intro D C s' H' ys hC hCD I' hD hCn hNs hl fin;obtain ⟨m, hm⟩ := hNs;refine ⟨m, hm, fun h' sb => ?_⟩
  have I'' : Inv X pins σ (upd H' D (.lst ys)) { s' with heap := h' } := by
    refine I'.turned (t' := s'.toks) (it := C) (fun b o hb e => sb.extBut b o hb e) (by rw [zx hCD]; exact hCn) (ZR (Zh I2.lt hC)) (.inr (Zd I2.sz hC)) (fun x c e => ?_) fun p hp => ?_
    . obtain ⟨v, q⟩ := I2.cell x c e
      exact Zs (Zh q.lt hC)
    . exact Zs (Zh (Heap.lt_size (I2.pin p hp).1) hC)
  exact ⟨.ref D, _, I'', rfl, fin D hD⟩
def tSetC (i : Nat) (te : TE) : TS := fun D σ H => te σ H fun x H1 => D.nx (σ.set i (some x)) H1
theorem va {X : Cx} {tg elt iter : Expr} {ifs : List Expr} {scope : Scope} {pos spos py : Pos} {i : Nat} {y : Str} (ts N2 : List Str) {wi : TI} {g : Dyn -> TG} {tt : Dyn -> TT} {te : Dyn -> TE} (hN : X.N.Nodup) (hi' : X.N[i]? = some y) (hy : X.env.scope.names.lookup y = some .local) (hc : X.calm = true) (hi : PI X tg iter wi)
    (hg : ∀ d, PG (yz X scope (ts ++ N2) d) tg (g d)) (ht : ∀ d, PTs (yz X scope (ts ++ N2) d) ifs (tt d)) (he : ∀ d, PE (yz X scope (ts ++ N2) d) elt (te d))
    (hkind : scope.kind = .function) (hown : ja scope.names = true) (hfree : uq scope.names X.env = true) (hout : wm scope.names N2 X.N = true)
    (hsw : swapsWith (.ListComp elt [⟨tg, iter, ifs, 0⟩] scope pos) (some (.Name y py)) spos.line X.env = pure true)
    (hs : ∀ x, foldedSetIterable iter X.env x = pure x := by intro _; rfl) : PS X (.Assign [.Name y py] (.ListComp elt [⟨tg, iter, ifs, 0⟩] scope pos) spos) (tSetC i (bq ts.length wi g tt te)) := by
  intro pins s σ H D0 I h;obtain ⟨cl, hclos, hcl1, hcl2⟩ := l7 (scope := scope) (env := X.env) fun z hz hf => I.ok.has z.1 (sk hfree hz hf)
  rw [exec_Assign_Name_used _ _ _ _ hsw];refine wpAny_bind (wpAny_standAt (wpAny_bind ?_))
  show wpAny _ X.A (do let _ <- comprehension (.ListComp elt [⟨tg, iter, ifs, 0⟩] scope pos) scope X.env _ (newList []) false (eval iter X.env) (some (assign (.Name y py) X.env))) _ _ s
  refine wpAny_bind (wpAny_mono (wpAny_comprehension_free (use := some (assign (.Name y py) X.env)) (Q := fun _ s' => SP X pins D0 .next s') rfl hs hclos hkind (i5 hown)
    (thn (hi pins s σ H _ I h) fun v s1 h1 => thn h1 fun itv s2 h2 => ?_)) (fun _ s' hq => wpAny_pure (wpAny_pure hq)) fun _ _ e => e)
  obtain ⟨it, fp, tn, J, H2, e, I2, T, st2, f2, hW⟩ := h2;subst e;refine fc (RR := fun acc C => compPost (model X.prog X.w) X.A X.xe (some (assign (.Name y py) X.env)) (fun _ s' => SP X pins D0 .next s') acc C) I2 hc T st2 f2 hkind hown hfree hout hcl1 hcl2 hg ht he hW ?_;intro D C s' H' ys hC hCD I' hD hCn hNs hl fin;obtain ⟨m, hm⟩ := hNs
  show wpAny _ _ _ _ _ _
  have hcl : C ≠ X.env.locals := ZR (Zh I2.lt hC)
  have hcc : ∀ x c, X.env.cells.lookup x = some c -> c ≠ C := fun x c e => by
    obtain ⟨v, q⟩ := I2.cell x c e;exact Zs (Zh q.lt hC)
  refine wpAny_assign_Name (cv I' hN hi' (.inl hy) (v := .ref D) (u := .ref D) rfl (fun s'' I'' ⟨a, sb, ha⟩ => ?_) (.inr hy))
  have haC : C ≠ a := by
    rcases ha with z | z
    . rw [z]; exact hcl
    . exact Ne.symm (hcc y a z)
  refine ⟨m, hm.sameBut sb haC, fun h' sb' => ?_⟩
  have I3 : Inv X pins (σ.set i (some (.ref D))) (upd H' D (.lst ys)) { s'' with heap := h' } := by
    refine I''.turned (t' := s''.toks) (it := C) (fun b o hb e => sb'.extBut b o hb e) (by rw [zx hCD]; exact hCn) hcl (.inr (Zd I2.sz hC)) hcc fun p hp => ?_
    exact Zs (Zh (Heap.lt_size (I2.pin p hp).1) hC)
  exact ⟨_, _, I3, fin D hD⟩
section
variable {σ : St} {k : Nat} {g : TG} {tt : TT} {te : TE} {H1 : Hp} {Fin : List V -> Hp -> Prop}
theorem xy {lo : Int} {n : Nat} (Pv : Nat -> List V -> Hp -> Prop) (h0 : Pv 0 [] H1) (hz : ∀ i ys H, i <= n -> Pv i ys H -> ys.length <= sizeLine)
    (hs : ∀ i ys H, i < n -> Pv i ys H -> g (.int (lo + i)) (List.replicate k none ++ σ) H fun σ2 H2 => σ2.drop k = σ /\ tt σ2 H2 fun b H3 => if b = true then te σ2 H3 fun v H4 => Pv (i + 1) (ys ++ [v]) H4 else Pv (i + 1) ys H3)
    (hd : ∀ ys H, Pv n ys H -> Fin ys H) : sj (Itr lo n) σ k g tt te H1 Fin := by
  refine ⟨fun i m ys H => m = n - i /\ i <= n /\ Pv i ys H, ⟨n, by simp, ZE _, h0⟩, ?_⟩
  rintro i m ys H ⟨rfl, hi, p⟩
  refine ⟨hz i ys H hi p, ?_⟩
  by_cases hlt : i < n
  . refine .inr ⟨hlt, Pv (i + 1), fun ys' H' p' => ⟨n - (i + 1), by omega, rfl, hlt, p'⟩, fun x H' y => ?_⟩
    obtain ⟨e, y⟩ := y;subst e y;exact hs i ys _ hlt p
  . have e : i = n := by omega
    subst e;exact .inl ⟨Zm _, hd ys H p⟩
theorem zz {K : Fg} {a : Addr} {xs : List V} (Pv : Nat -> List V -> Hp -> Prop) (h0 : Pv 0 [] H1) (hz : ∀ i ys H, i <= xs.length -> Pv i ys H -> ys.length <= sizeLine /\ SqL K H a xs)
    (hs : ∀ i x ys H, xs[i]? = some x -> Pv i ys H -> g x (List.replicate k none ++ σ) H fun σ2 H2 => σ2.drop k = σ /\ tt σ2 H2 fun b H3 => if b = true then te σ2 H3 fun v H4 => Pv (i + 1) (ys ++ [v]) H4 else Pv (i + 1) ys H3)
    (hd : ∀ ys H, Pv xs.length ys H -> Fin ys H) : sj (Itl K a) σ k g tt te H1 Fin := by
  refine ⟨fun i m ys H => m = xs.length - i /\ i <= xs.length /\ Pv i ys H, ⟨xs.length, by simp, ZE _, h0⟩, ?_⟩
  rintro i m ys H ⟨rfl, hi, p⟩
  have q := (hz i ys H hi p).2;refine ⟨(hz i ys H hi p).1, ?_⟩
  by_cases hlt : i < xs.length
  . refine .inr ⟨⟨xs, xs[i], q, by simp [hlt]⟩, Pv (i + 1), fun ys' H' p' => ⟨xs.length - (i + 1), by omega, rfl, hlt, p'⟩, fun x H' y => ?_⟩
    obtain ⟨e, y⟩ := y;subst e;exact hs i x ys _ (y xs q) p
  . have e : i = xs.length := by omega
    subst e;exact .inl ⟨⟨xs, q, Zm _⟩, hd ys H p⟩
end
end L2
namespace L2
open PySem PySem.Spec PyProof.Rows
section
variable {X : Cx} {pins : List (Addr × Obj)} {σ : St} {H : Hp} {s : Shared} {A : Around} {a b : Addr}
end
def GridL (K : Fg) (H : Hp) (a : Addr) (as : List Addr) (rows : List (List Int)) : Prop := SqL K H a (as.map V.ref) /\ as.length = rows.length /\ ∀ (i : Nat) (r : Addr) (ns : List Int), as[i]? = some r -> rows[i]? = some ns -> SqL K H r (ns.map V.int)
section
variable {X : Cx} {pins : List (Addr × Obj)} {σ : St} {H : Hp} {s : Shared} {A : Around} {a b : Addr}
end
def kit0 (T1 T2 : String) : Option Bool := if (Value.type T1 == Value.type T2) = true then some true else if PySem.W.kitMeta T2 = true then (fastBuiltinMro T1).map (·.contains (Value.type T2)) else none
theorem zfx (K : Fg) (T1 T2 : String) : PySem.W.kitOne K (.type T1) (.type T2) = kit0 T1 T2 := rfl
section
variable {X : Cx}
theorem we : ue X (.builtin "isinstance") (fun xs H Q => ∃ x T T1 b, xs = [x, .ty T] /\ TyOf X.K H x (.type T1) /\ kit0 T1 T = some b /\ Q (.bl b) H) := by
  intro pins s σ H xs us Q I r h;obtain ⟨x, T, T1, b, rfl, ty, e, q⟩ := h;obtain ⟨u, v, rfl, rx, ry⟩ := Vals.two r;cases ry;exact zem I rx ty ((zfx X.K T1 T).trans e) fun tk => ⟨.bl b, H, I.tok _, rfl, q⟩
theorem nv {x : Str} {T : String} {pos : Pos} (hg : Gl X x) (hm : X.mg x = none) (hv : bootBuiltins x = some (.type T)) (hn : x ≠ "__name__" := by decide) (hd : (x == ("__debug__" : Str)) = false := by decide) : PE X (.Name x pos) (tC (.ty T)) :=
  zhu hg hm hv rfl hn hd
end
theorem yk : bootBuiltins "len" = some (.builtin "len") := by decide +kernel
theorem xr : bootBuiltins "isinstance" = some (.builtin "isinstance") := by decide +kernel
theorem zdv : bootBuiltins "max" = some (.builtin "max") := by decide +kernel
theorem jh : bootBuiltins "min" = some (.builtin "min") := by decide +kernel
theorem my : bootBuiltins "all" = some (.builtin "all") := by decide +kernel
theorem ax : bootBuiltins "abs" = some (.builtin "abs") := by decide +kernel
theorem bt_int : bootBuiltins "int" = some (.type "int") := by decide +kernel
theorem zhb : bootBuiltins "bool" = some (.type "bool") := by decide +kernel
theorem rk : bootBuiltins "list" = some (.type "list") := by decide +kernel
theorem rg : bootBuiltins "tuple" = some (.type "tuple") := by decide +kernel
theorem bt_str : bootBuiltins "str" = some (.type "str") := by decide +kernel
theorem zhk : bootBuiltins "dict" = some (.type "dict") := by decide +kernel
theorem bt_set : bootBuiltins "set" = some (.type "set") := by decide +kernel
theorem zel : bootBuiltins "zip" = some (.type "zip") := by decide +kernel
theorem au : bootBuiltins "enumerate" = some (.type "enumerate") := by decide +kernel
structure zc (K : Fg) (mg : Str -> Option Value) (name : Str) (st : Stmt) (ps : List Str) : Prop where
  ex : ∃ f fd, mg name = some (.ref f) /\ Fun K name name st f fd /\ Binds K fd ps []
structure FnAt (P : Program) (w : World) (K : Fg) (mg : Str -> Option Value) (base : Heap) (name : Str) (k : Nat) (ps : List Str) (sp : Sp) : Prop where
  ex : ∃ f fd, mg name = some (.ref f) /\ PySem.W.keepIn K (.ref f) = true /\ Binds K fd ps [] /\ FnOk P w K mg base CX0 k f fd ps sp
theorem FnAt.of {P : Program} {w : World} {K : Fg} {mg : Str -> Option Value} {base : Heap} {name : Str} {st : Stmt} {N ps : List Str} {k : Nat} {sp : Sp} (D : zc K mg name st ps) (S : zn N ps (zi st)) (len : ∀ vs H Q E, sp vs H Q E -> vs.length = ps.length)
    (hbody : ∀ (f : Addr) (cdv : Value) (A : Around) (outer : List Env) (s : Shared) (H : Hp) (vs : List V) (Q : VK) (E : XK), Room k (A.deeper (envOfC name (zi st) s.heap.objs.size f cdv)) -> sp vs H Q E ->
      ∃ t, PSs (cxOf CX0 P w K mg base N name (zi st) f cdv A outer s H E).nox (xh st) t /\ t { nx := fun _ H' => Q .non H', rt := Q } (start N vs) H) : FnAt P w K mg base name (k + 1) ps sp := by
  obtain ⟨f, fd, hm, F, hb⟩ := D.ex;exact ⟨f, fd, hm, F.kp, hb, F.ok S len (hbody f)⟩
theorem def_mk {K : Fg} {h : Heap} {mg : Str -> Option Value} (X : K.In h) (G : h.Ns mainGlobals mg) {name : Str} {st : Stmt} {f : Addr} {oc : Value} {od an : Option Addr} {osl : Array (Option Value)} {kV doc pm cdv ct : Value} {ps : List Str}
    (a : PySem.W.nsIn K mainGlobals name = some (some (.ref f))) (l : K.lookup f = some ⟨oc, od, .func (PySem.W.fnOf name name (tz st) (xh st) (zi st) .none kV doc pm an cdv ct), osl⟩)
    (c : PySem.W.codeIn K cdv name = true) (k : PySem.W.keepIn K (.ref f) = true)
    (hb : ∀ (kV doc pm : Value) (an : Option Addr) (cdv ct : Value) (us : List Value), us.length = ps.length -> bindArgs (PySem.W.fnOf name name (tz st) (xh st) (zi st) .none kV doc pm an cdv ct) ⟨us, []⟩ = pure (ps.zip us)) : zc K mg name st ps :=
  ⟨f, _, PySem.W.mg_of X G a, zes l c k, (zes (st := st) l c k).binds hb⟩
section
variable {X : Cx} {x : Str} {k : Nat} {ps : List Str} {sp : Sp} {p pos : Pos} {e : Expr} {es : List Expr} {t : TA}
theorem zg (F : FnAt X.prog X.w X.K X.mg X.base x k ps sp) (hr : Room k X.A) (hg : Gl X x) (ha : PA X (e :: es) t) (hdb : (x == ("__debug__" : Str)) = false := by decide) (he : starEach (e :: es) X.env = (false, eval e X.env) :: starEach es X.env := by rfl)
    (hpl : (backTo pos (starEach es X.env)).any (·.1) = false := by rfl) : PE X (.Call (.Name x p) (e :: es) [] pos) (bu sp [] E0 t) := by
  obtain ⟨f, fd, hm, hk, hb, G⟩ := F.ex;exact zbw G hr hg hm hk hb .nil pass0 ha hdb he hpl
end
theorem cxK {CX : CXT} {P : Program} {w : World} {K : Fg} {mg : Str -> Option Value} {base : Heap} {N : List Str} {qual : Str} {scope : Scope} {f : Addr} {cd : Value} {A : Around} {outer : List Env} {s : Shared} {H : Hp} {E : XK} : (cxOf CX P w K mg base N qual scope f cd A outer s H E).K = K := rfl
section
variable {D : Ends} {σ : St} {H : Hp} {Q : VK} {QT : Bool -> Hp -> Prop} {QA : List V -> Hp -> Prop} {QS : St -> Hp -> Prop} {R : It -> Hp -> Prop} {a b c : TE} {s t : TS} {tt uu : TT} {ta tr : TA} {g : TG} {i : Nat} {v x y z : V} {r r' : R2} {wi : TI}
theorem e_var : tVar i σ H Q = ∃ v, σ[i]? = some (some v) /\ Q v H := rfl
theorem e_C : tC v σ H Q = Q v H := rfl
theorem e_op : tOp r a b σ H Q = a σ H fun x H1 => b σ H1 fun y H2 => r x y H2 Q := rfl
theorem e_un {u : V -> Hp -> VK -> Prop} : tUn u a σ H Q = a σ H fun x H1 => u x H1 Q := rfl
theorem e_rI {C : Int -> Int -> Prop} {f : Int -> Int -> V} : rI C f x y H Q = ∃ i j, x = .int i /\ y = .int j /\ C i j /\ Q (f i j) H := rfl
theorem e_rI0 {f : Int -> Int -> V} : rI0 f x y H Q = ∃ i j, x = .int i /\ y = .int j /\ Q (f i j) H := rfl
theorem e_rU {f : Int -> V} : rU f x H Q = ∃ i, x = .int i /\ Q (f i) H := rfl
theorem e_rEq : rEq x y H Q = (scal x y = true /\ Q (.bl (decide (x = y))) H) := rfl
theorem e_rNe : rNe x y H Q = (scal x y = true /\ Q (.bl (!decide (x = y))) H) := rfl
theorem e_ixL {K : Fg} : rIxL K x y H Q = ∃ p xs i v, x = .ref p /\ y = .int i /\ SqL K H p xs /\ atI xs i = some v /\ Q v H := rfl
theorem e_ixT {K : Fg} : rIxT K x y H Q = ∃ p xs i v, x = .ref p /\ y = .int i /\ SqT K H p xs /\ atI xs i = some v /\ Q v H := rfl
theorem e_set {o i v : V} {Q : Hp -> Prop} : rSetL o i v H Q = ∃ p xs k j, o = .ref p /\ i = .int k /\ H p = some (.lst xs) /\ ixN xs.length k = some j /\ Q (upd H p (.lst (xs.set j v))) := rfl
theorem e_cat : rCat x y H Q = ∃ l b xs zs, x = .ref l /\ y = .ref b /\ H l = some (.lst xs) /\ H b = some (.lst zs) /\ xs.length + zs.length <= sizeLine /\ ∀ p, H p = none -> Q (.ref p) (upd H p (.lst (xs ++ zs))) := rfl
theorem e_test : zc3 a σ H QT = a σ H fun x H' => ∃ k, x = .bl k /\ QT k H' := rfl
theorem e_B : tB a σ H QT = a σ H fun x H1 => ∃ c, x = .bl c /\ QT c H1 := rfl
theorem e_and : tAnd tt uu σ H QT = tt σ H fun c H1 => if c = true then uu σ H1 QT else QT false H1 := rfl
theorem e_or : tOr tt uu σ H QT = tt σ H fun c H1 => if c = true then QT true H1 else uu σ H1 QT := rfl
theorem e_not : tNot tt σ H QT = tt σ H fun c H1 => QT (!c) H1 := rfl
theorem e_andV : tAndV a b σ H Q = a σ H fun x H1 => ∃ c, x = .bl c /\ if c = true then b σ H1 Q else Q (.bl false) H1 := rfl
theorem e_orV : tOrV a b σ H Q = a σ H fun x H1 => ∃ c, x = .bl c /\ if c = true then Q (.bl true) H1 else b σ H1 Q := rfl
theorem e_notV : tNotV a σ H Q = a σ H fun x H1 => ∃ c, x = .bl c /\ Q (.bl (!c)) H1 := rfl
theorem e_ifE : tIf tt a b σ H Q = tt σ H fun c H1 => if c = true then a σ H1 Q else b σ H1 Q := rfl
theorem e_all : tAll σ H QT = QT true H := rfl
theorem e_next : tNext D σ H = D.nx σ H := rfl
theorem e_seq : tSeq s t D σ H = s { D with nx := t D } σ H := rfl
theorem e_brk : tBreak D σ H = D.bk σ H := rfl
theorem e_cnt : tCont D σ H = D.ct σ H := rfl
theorem e_drop : tDrop a D σ H = a σ H fun _ H1 => D.nx σ H1 := rfl
theorem e_ret : tRet a D σ H = a σ H D.rt := rfl
theorem e_retN : tRetN D σ H = D.rt .non H := rfl
theorem e_ifS : tIfS tt s t D σ H = tt σ H fun b H1 => if b = true then s D σ H1 else t D σ H1 := rfl
theorem e_asg : tAsg a g D σ H = a σ H fun x H1 => g x σ H1 D.nx := rfl
theorem zhr : zc2 i v σ H QS = QS (σ.set i (some v)) H := rfl
theorem e_setC : tSetC i a D σ H = a σ H fun x H1 => D.nx (σ.set i (some x)) H1 := rfl
theorem e_augS {tget : V -> V -> Hp -> VK -> Prop} {tip : TIp} {tset : TSet} : tAugS a b c tget tip tset D σ H = a σ H fun o H1 => b σ H1 fun i H2 => tget o i H2 fun x H3 => c σ H3 fun y H4 => tip x y H4 fun z H5 => tset o i z H5 fun H6 => D.nx σ H6 := rfl
theorem e_ipI {f : Int -> Int -> Int} : ipI f x y H Q = ∃ i j, x = .int i /\ y = .int j /\ Q (.int (f i j)) H := rfl
theorem e_nil : tNil σ H QA = QA [] H := rfl
theorem e_cons : zdi a ta σ H QA = a σ H fun x H1 => ta σ H1 fun xs H2 => QA (x :: xs) H2 := rfl
theorem e_tup : tTup ta σ H Q = ta σ H fun xs H1 => xs.length <= sizeLine /\ ∀ p, H1 p = none -> Q (.ref p) (upd H1 p (.tup xs)) := rfl
theorem e_lst : tLst ta σ H Q = ta σ H fun xs H1 => xs.length <= sizeLine /\ ∀ p, H1 p = none -> Q (.ref p) (upd H1 p (.lst xs)) := rfl
theorem e_call {sp : Sp} {E : XK} : bu sp [] E ta σ H Q = ta σ H fun vs H1 => sp (vs ++ []) H1 Q E := rfl
theorem e_CB {u : List V -> Hp -> VK -> Prop} : tCB u ta σ H Q = ta σ H fun vs H1 => u vs H1 Q := rfl
theorem e_BM {K : Fg} {T : String} {u : V -> List V -> Hp -> VK -> Prop} : tBM K T u a ta σ H Q = a σ H fun x H1 => tyV K T x H1 /\ ta σ H1 fun xs H2 => u x xs H2 Q := rfl
theorem e_app {vs : List V} : zcg x vs H Q = ∃ l xs y, x = .ref l /\ vs = [y] /\ H l = some (.lst xs) /\ xs.length < sizeLine /\ Q .non (upd H l (.lst (xs ++ [y]))) := rfl
theorem e_rng1 : iRng1 ta σ H R = ta σ H fun vs H1 => ∃ j : Int, vs = [.int j] /\ -(2 ^ 62) <= j /\ j < 2 ^ 62 /\ R (Itr 0 j.toNat) H1 := rfl
theorem e_rng2 : iRng2 ta σ H R = ta σ H fun vs H1 => ∃ i j : Int, vs = [.int i, .int j] /\ (-(2 ^ 62) <= i /\ i < 2 ^ 62 /\ -(2 ^ 62) <= j /\ j < 2 ^ 62) /\ R (Itr i (j - i).toNat) H1 := rfl
theorem e_iL {K : Fg} : iList K a σ H R = a σ H fun x H1 => ∃ p, x = .ref p /\ (∃ xs, SqL K H1 p xs) /\ R (Itl K p) H1 := rfl
def ForW (J : It) (g : TG) (tb : TS) (D : Ends) (σ : St) (H1 : Hp) : Prop := ∃ W : Nat -> Nat -> St -> Hp -> Prop, (∃ m, W 0 m σ H1) /\ ∀ i m σ H, W i m σ H ->
  (J.stop i H /\ D.nx σ H) \/ (J.go i H /\ ∃ N : St -> Hp -> Prop, (∀ σ' H', N σ' H' -> ∃ m', m' < m /\ W (i + 1) m' σ' H') /\ ∀ x H', J.yld i H x H' -> g x σ H' fun σ2 H2 => tb { D with nx := N, ct := N, bk := D.nx } σ2 H2)
theorem e_for : tFor wi g t D σ H = wi σ H fun J H1 => ForW J g t D σ H1 := rfl
theorem e_comp {k : Nat} {g : Dyn -> TG} {tt : Dyn -> TT} {te : Dyn -> TE} : bq k wi g tt te σ H Q = wi σ H fun J H1 => ∀ d : Dyn, sj J σ k (g d) (tt d) (te d) H1 fun ys H' => ∀ l, H' l = none -> Q (.ref l) (upd H' l (.lst ys)) := rfl
end
end L2
namespace L2
open PySem PySem.Spec PyProof.Rows
section
variable {X : Cx}
theorem tu (hc : X.calm = true) : ue X (.builtin "all") (fun xs H Q => ∃ (p : Addr) (bs : List Bool), xs = [.ref p] /\ SqL X.K H p (bs.map V.bl) /\ Q (.bl (bs.all id)) H) := by
  intro pins s σ H xs us Q I r h;obtain ⟨p, bs, rfl, hq, q⟩ := h;obtain ⟨u, rfl, rx⟩ := Vals.one r;cases rx;obtain ⟨its, rv, pl, hz⟩ := I.list hq;have hlt : p < s.heap.objs.size := by obtain ⟨_, e, _⟩ := pl.isList; exact Heap.lt_size e
  have hlen : its.length = bs.length := by have := rv.length; rw [Za] at this; exact this.symm
  refine call_all_walk (wpAny_pyIter_list pl.isList ?_)
  refine ⟨s.heap.objs.size, [s.heap.objs.size, p], [s.heap.objs.size], its.toArray.size, _, _, fun i => (bs[i]?).getD true, rfl, Walks.list (A := X.A.in1) (I.ok.hd hc) _ p (Zs hlt) its.toArray,
    ⟨⟨_, Heap.get?_push_size _ rfl, rfl, rfl⟩, pl.isList.push _⟩, fun i v s' Q' E' hP hQ => ?_, fun h' tk hk => ?_⟩
  . have hi : its[i]? = some v := by simpa using hP
    have hil : i < bs.length := by rw [<- hlen]; exact (Zc.mp hi).1
    have e : bs[i]? = some bs[i] := by simp [hil]
    obtain ⟨u, hu, ru⟩ := rv.get (i := i) (x := V.bl bs[i]) (by rw [Ze, e]; rfl);rw [hi] at hu;cases hu;cases ru;simp only [e, Option.getD_some] at hQ;exact wpAny_truthy_bool hQ
  . have e : ((List.range its.toArray.size).all fun i => (bs[i]?).getD true) = bs.all id := by
      rw [Zr, hlen];rw [Bool.eq_iff_iff, ZQ, ZQ]
      constructor
      . intro z b hb
        obtain ⟨i, hi, rfl⟩ := Zy hb;have := z i (ZS.mpr hi)
        simpa [Zb hi] using this
      . intro z i hi
        have hi' := ZS.mp hi;simp only [Zb hi', Option.getD_some];exact z _ (Zl hi')
    rw [e];exact ⟨.bl (bs.all id), H, I.kept fun b x e => hk b x (fun hm => by rw [ZC.mp hm] at e; exact ZJ _ (Heap.lt_size e)) (Heap.get?_push_of_some _ e), rfl, q⟩
end
def Itz (K : Fg) (a b : Addr) : It :=
  ⟨fun i H => ∃ xs ys x y, SqL K H a xs /\ SqL K H b ys /\ xs[i]? = some x /\ ys[i]? = some y,
   fun i H v H' => ∃ T x y, v = .ref T /\ H T = none /\ H' = upd H T (.tup [x, y]) /\ ∀ xs ys, SqL K H a xs -> SqL K H b ys -> xs[i]? = some x /\ ys[i]? = some y,
   fun i H => ∃ xs ys, SqL K H a xs /\ SqL K H b ys /\ (xs.length <= i \/ ys.length <= i)⟩
structure zaa (z TI TO i1 i2 : Addr) : Prop where
  TIz : TI ≠ z
  TOz : TO ≠ z
  i1z : i1 ≠ z
  i2z : i2 ≠ z
  TITO : TI ≠ TO
  TIi1 : TI ≠ i1
  TIi2 : TI ≠ i2
  TOi1 : TO ≠ i1
  TOi2 : TO ≠ i2
  i12 : i1 ≠ i2
def tnZip (z TI TO i1 i2 l1 l2 : Addr) (i : Nat) (h : Heap) : Prop := IsZip h z TI TO .none /\ IsPair h TI (.ref i1) (.ref i2) /\ (∃ a b, IsPair h TO a b) /\ h.IsListIter i1 l1 i /\ h.IsListIter i2 l2 i
theorem ce {z TI TO i1 i2 l1 l2 : Addr} {i : Nat} {h : Heap} {xs ys : Array Value} (D : zaa z TI TO i1 i2) (t : tnZip z TI TO i1 i2 l1 l2 i h) (h1 : h.IsList l1 xs) (h2 : h.IsList l2 ys) : ZipApart z TI TO i1 i2 l1 l2 := by
  obtain ⟨hz, hTI, ⟨a, b, hTO⟩, k1, k2⟩ := t
  have n1 : ∀ {l : Addr} {ws : Array Value}, h.IsList l ws -> l ≠ z := fun {l ws} q e => by
    obtain ⟨o, e1, c, _⟩ := q;subst e;rw [hz] at e1; cases e1; simp at c
  have n2 : ∀ {l : Addr} {ws : Array Value}, h.IsList l ws -> l ≠ TO := fun {l ws} q e => by
    obtain ⟨o, e1, c, _⟩ := q;subst e;rw [hTO] at e1; cases e1; simp at c
  have n3 : ∀ {l j l' : Addr} {k : Nat} {ws : Array Value}, h.IsListIter j l' k -> h.IsList l ws -> l ≠ j := fun {l j l' k ws} k1 q e => by
    obtain ⟨o, e1, c, _⟩ := q;obtain ⟨o', e1', c', _⟩ := k1;subst e;rw [e1'] at e1; cases e1; rw [c'] at c; simp at c
  exact ⟨D.TIz, D.TOz, D.i1z, D.i2z, D.TITO, D.TIi1, D.TIi2, D.TOi1, D.TOi2, D.i12, n1 h1, n2 h1, n3 k1 h1, n3 k2 h1, n1 h2, n2 h2, n3 k1 h2, n3 k2 h2⟩
theorem Inv.turnedLaid {X : Cx} {pins : List (Addr × Obj)} {σ : St} {H : Hp} {s : Shared} {h' : Heap} {t' : Nat} {ch : List Addr} {T : Addr} {o : HO} (I : Inv X pins σ H s) (hf : ∀ b ∈ ch, FpOk X pins H b)
    (k : ∀ b o, b ∉ ch -> s.heap.get? b = some o -> h'.get? b = some o) (hT : s.heap.objs.size <= T) (new : ObjOk X.prog X.w (upd H T o) h' T o) : Inv X pins σ (upd H T o) { s with heap := h', toks := t' } := by
  have nch : ∀ b u, H b = some u -> b ∉ ch := fun b u e z => by rw [(hf b z).1] at e; cases e
  have nT : ∀ b u, H b = some u -> b ≠ T := fun b u e => Zs (Zh (I.hok.lt e) hT)
  have nT' : ∀ b u, s.heap.get? b = some u -> b ≠ T := fun b u e => Zs (Zh (Heap.lt_size e) hT)
  refine I.step (g' := s.gens) (d' := s.drawn) (ch := ch) (fun b hb => ?_) (fun b o _ _ hc e _ => k b o hc e) (fun b o _ _ hc e _ => ⟨o.slots, k b o hc e⟩) (fun b o _ e n => by rw [zx (nT' b o e)]; exact n)
    (fun b o hc e => ⟨o, k b o hc e⟩) (fun b xs e => by rw [zx (nT b _ e)]; exact e) (fun b ob u e => by rw [zx (nT b _ e)]; exact e) (fun b ps e => ⟨#[], by rw [zx (nT b _ e), e]; simp⟩) (fun m hm => ?_) (fun b u e => ?_) I.bare
  . obtain ⟨f0, f1, f2, f3, f4, f5⟩ := hf b hb
    exact ⟨f3, f1, f4, f5⟩
  . obtain ⟨ob, es, ep, ho, r⟩ := hm
    exact ⟨ob, es, ep, k _ ob (fun z => (hf _ z).2.1 rfl) ho, r⟩
  . by_cases hb : b = T
    . subst hb
      rw [zf] at e;cases e;exact new
    . rw [zx hb] at e
      refine (I.hok b u e).stay (fun c v hc q => k c v ?_ q) (fun c q => by rw [zx (nT c _ q)]; exact q) fun c xs q => by rw [zx (nT c _ q)]; exact q
      rcases hc with z | z
      . rw [z]; exact nch b u e
      . exact nch c _ z
theorem zfz {P : Program} {w : World} {K : Fg} {elts : List Expr} {x1 : Nat} {pos : Pos} (z TI TO i1 i2 l1 l2 : Addr) (D : zaa z TI TO i1 i2) :
    Turn P w K (.Tuple elts x1 pos) (Itz K l1 l2) [z, TI, TO, i1, i2] z (tnZip z TI TO i1 i2 l1 l2) where
  mem := by simp
  obj := fun i h st b hb => by
    obtain ⟨hz, hTI, ⟨a, b', hTO⟩, ⟨o1, e1, c1, d1⟩, ⟨o2, e2, c2, d2⟩⟩ := st;simp only [ZK, Zx, or_false] at hb
    rcases hb with rfl | rfl | rfl | rfl | rfl
    . exact ⟨_, hz, fun v q => by cases q⟩
    . exact ⟨_, hTI, fun v q => by cases q⟩
    . exact ⟨_, hTO, fun v q => by cases q⟩
    . exact ⟨o1, e1, fun v q => by rw [d1] at q; cases q⟩
    . exact ⟨o2, e2, fun v q => by rw [d2] at q; cases q⟩
  keep := fun i h h' st k => by
    obtain ⟨hz, hTI, ⟨a, b, hTO⟩, h1, h2⟩ := st;exact ⟨k z (by simp) _ hz, k TI (by simp) _ hTI, ⟨a, b, k TO (by simp) _ hTO⟩, h1.at fun o e => k i1 (by simp) o e, h2.at fun o e => k i2 (by simp) o e⟩
  item := by
    intro X hP hw hK hc i pins s σ H E I hf st hg;subst hP hw hK;obtain ⟨xs, ys, x, y, qa, qb, hx, hy⟩ := hg;obtain ⟨us, ru, pu, zu⟩ := I.list qa;obtain ⟨vs, rv, pv', zv⟩ := I.list qb;obtain ⟨u, hu, rxu⟩ := ru.get hx;obtain ⟨v, hv, ryv⟩ := rv.get hy;have A := ce D st pu.isList pv'.isList;obtain ⟨hz, hTI, ⟨a, b, hTO⟩, h1, h2⟩ := id st;refine wpAny_pyNext_zip_item A hz hTI hTO h1 h2 pu.isList pv'.isList (x := u) (y := v) (by simpa using hu) (by simpa using hv) fun h' a1 a2 a3 a4 a5 a6 hk => ?_
    have ltT : ∀ {c o}, s.heap.get? c = some o -> c ≠ s.heap.objs.size := fun e => Zs (Heap.lt_size e)
    refine ⟨_, rfl, wpAny_letOwnedTupleGo_zip (s := { s with heap := h' }) a1 fun h'' b1 sb => ?_⟩;have hTz : s.heap.objs.size ≠ z := Ne.symm (ltT hz)
    have hf4 : ∀ b ∈ [z, TO, i1, i2], FpOk X pins H b := fun b hb => hf b (by
      simp only [ZK, Zx, or_false] at hb ⊢
      rcases hb with h | h | h | h <;> simp [h])
    have I1 : Inv X pins σ (upd H s.heap.objs.size (.tup [x, y])) { s with heap := h'', toks := s.toks } := I.turnedLaid (ch := [z, TO, i1, i2]) hf4 (fun b o hb e => by
      simp only [ZK, Zx, or_false, not_or] at hb
      exact sb.extBut b o hb.1 (hk b o hb.1 hb.2.1 hb.2.2.1 hb.2.2.2 e)) (Zm _) ⟨by show 2 <= sizeLine; decide, [u, v], .cons rxu (.cons ryv .nil), by
        have e := sb.extBut _ _ hTz a5
        exact ⟨_, e, rfl, _, rfl, rfl⟩⟩
    refine ⟨.ref s.heap.objs.size, _, I1, rfl, ⟨s.heap.objs.size, x, y, rfl, I.hok.fresh (Zm _), rfl, fun xs' ys' q1 q2 => ?_⟩, ?_, fun b hb => ?_⟩
    . rw [I.list_inj q1 qa, I.list_inj q2 qb]
      exact ⟨hx, hy⟩
    . exact ⟨b1, sb.extBut _ _ A.TIz (hk _ _ A.TIz A.TITO A.TIi1 A.TIi2 hTI), ⟨_, _, sb.extBut _ _ A.TOz a2⟩, a3.extBut sb.extBut A.i1z, a4.extBut sb.extBut A.i2z⟩
    . have hb' := (hf b hb).1
      rw [zx ?_]
      . exact hb'
      . simp only [ZK, Zx, or_false] at hb
        rcases hb with rfl | rfl | rfl | rfl | rfl
        . exact ltT hz
        . exact ltT hTI
        . exact ltT hTO
        . obtain ⟨_, e, _⟩ := h1; exact ltT e
        . obtain ⟨_, e, _⟩ := h2; exact ltT e
  done := by
    intro X hP hw hK hc i pins s σ H E I hf st hg;subst hP hw hK;obtain ⟨xs, ys, qa, qb, hend⟩ := hg;obtain ⟨us, ru, pu, zu⟩ := I.list qa;obtain ⟨vs, rv, pv', zv⟩ := I.list qb;have A := ce D st pu.isList pv'.isList;obtain ⟨hz, hTI, ⟨a, b, hTO⟩, h1, h2⟩ := id st;have l1' := ru.length;have l2' := rv.length
    refine wpAny_pyNext_zip_end (I.ok.hd hc) A hz hTI hTO h1 h2 pu.isList pv'.isList (by
      rcases hend with h | h
      . left; simp; omega
      . right; simp; omega) fun h' hk => ⟨rfl, ?_⟩
    have nch : ∀ b u, H b = some u -> b ∉ [z, TO, i1, i2] := fun b u e q => by
      have := (hf b (by simp only [ZK, Zx, or_false] at q ⊢; rcases q with h | h | h | h <;> simp [h])).1;rw [this] at e; cases e
    have k : ∀ b o, b ∉ [z, TO, i1, i2] -> s.heap.get? b = some o -> h'.get? b = some o := fun b o hb e => by
      simp only [ZK, Zx, or_false, not_or] at hb;exact hk b o hb.1 hb.2.1 hb.2.2.1 hb.2.2.2 e
    have hf4 : ∀ b ∈ [z, TO, i1, i2], FpOk X pins H b := fun b hb => hf b (by
      simp only [ZK, Zx, or_false] at hb ⊢
      rcases hb with h | h | h | h <;> simp [h])
    exact I.step (g' := s.gens) (d' := s.drawn) (t' := s.toks) (ch := [z, TO, i1, i2]) (fun b hb => by
        obtain ⟨f0, f1, f2, f3, f4, f5⟩ := hf4 b hb
        exact ⟨f3, f1, f4, f5⟩) (fun b o _ _ hc e _ => k b o hc e) (fun b o _ _ hc e _ => ⟨o.slots, k b o hc e⟩) (fun b o _ e n => n)
      (fun b o hc e => ⟨o, k b o hc e⟩) (fun b xs e => e) (fun b ob u e => e) (fun b ps e => ⟨#[], by rw [e]; simp⟩) (fun m hm => by
        obtain ⟨ob, es, ep, ho, r⟩ := hm
        exact ⟨ob, es, ep, k _ ob (fun q => (hf4 _ q).2.1 rfl) ho, r⟩) (fun b u e => (I.hok b u e).stay (fun c v hc q => k c v (by
          rcases hc with r | r
          . rw [r]; exact nch b u e
          . exact nch c _ r) q) (fun _ q => q) fun _ _ q => q) I.bare
  self := fun _ _ _ _ _ st h => wpAny_pyIter_zip st.1 h
def iZip (K : Fg) (ta : TA) : TI := fun σ H R => ta σ H fun vs H1 => ∃ a b, vs = [.ref a, .ref b] /\ (∃ xs, SqL K H1 a xs) /\ (∃ ys, SqL K H1 b ys) /\ R (Itz K a b) H1
theorem a8 {X : Cx} {a b : Expr} {ta : TA} {p pos tpos : Pos} {elts : List Expr} {x1 : Nat} (hg : Gl X "zip") (hm : X.mg "zip" = none) (ha : PA X [a, b] ta) (hs : starEach [a, b] X.env = [(false, eval a X.env), (false, eval b X.env)] := by rfl) (hs2 : starEach [b] X.env = [(false, eval b X.env)] := by rfl) :
    PI X (.Tuple elts x1 tpos) (.Call (.Name "zip" p) [a, b] [] pos) (iZip X.K ta) := by
  intro pins s σ H R I h;refine Call_ (ud I hg hm zel (PyProof.Rows.callWith_type1 (thn (ha pos pins s σ H _ I h) fun us s1 ⟨vs, H1, I1, r1, q1⟩ => ?_) (by rw [hs, hs2]) (by rw [hs2]; rfl)));obtain ⟨a, b, e, ⟨xs, qa⟩, ⟨ys, qb⟩, q⟩ := q1;subst e;obtain ⟨u, v, rfl, ru, rv⟩ := Vals.two r1;cases ru; cases rv;obtain ⟨its, _, pa, _⟩ := I1.list qa;obtain ⟨jts, _, pb, _⟩ := I1.list qb;refine call_zip_2 pa.isList pb.isList fun h' z1 z2 z3 z4 z5 z6 kp => ?_
  refine wpAny_pyIter_zip (s := { s1 with heap := h' }) z1 ?_;have I2 : Inv X pins σ H1 { s1 with heap := h' } := I1.kept (t' := s1.toks) kp;have D : zaa (s1.heap.objs.size + 4) (s1.heap.objs.size + 2) (s1.heap.objs.size + 3) s1.heap.objs.size (s1.heap.objs.size + 1) := by constructor <;> (show (_ : Nat) ≠ _; omega)
  refine ⟨s1.heap.objs.size + 4, [s1.heap.objs.size + 4, s1.heap.objs.size + 2, s1.heap.objs.size + 3, s1.heap.objs.size, s1.heap.objs.size + 1], _, _, H1, rfl, I2, zfz _ _ _ _ _ a b D, ⟨z1, z2, ⟨_, _, z3⟩, z4, z5⟩, fun c hc => ?_, q⟩
  have hle : s1.heap.objs.size <= c := by
    simp only [ZK, Zx, or_false] at hc
    rcases hc with h | h | h | h | h <;> (rw [h]; omega)
  exact I1.fpOk hle (I1.hok.fresh hle)
theorem e_zip {K : Fg} {ta : TA} {σ : St} {H : Hp} {R : It -> Hp -> Prop} : iZip K ta σ H R = ta σ H fun vs H1 => ∃ a b, vs = [.ref a, .ref b] /\ (∃ xs, SqL K H1 a xs) /\ (∃ ys, SqL K H1 b ys) /\ R (Itz K a b) H1 := rfl
theorem e_gTup {K : Fg} {n : Nat} {t : TGs} {v : V} {σ : St} {H : Hp} {Q : St -> Hp -> Prop} : gTup K n t v σ H Q = ∃ a xs, v = .ref a /\ SqT K H a xs /\ xs.length = n /\ t xs σ H Q := rfl
theorem e_gNil {vs : List V} {σ : St} {H : Hp} {Q : St -> Hp -> Prop} : gNil vs σ H Q = (vs = [] /\ Q σ H) := rfl
theorem zhc {t : TG} {u : TGs} {vs : List V} {σ : St} {H : Hp} {Q : St -> Hp -> Prop} : gCons t u vs σ H Q = ∃ v r, vs = v :: r /\ t v σ H fun σ' H' => u r σ' H' Q := rfl
end L2
namespace L2
open PySem PySem.Spec PyProof.Rows
section
variable {X : Cx}
end
section
variable {X : Cx}
end
theorem e_gSub {to ti : TE} {t : TSet} {v : V} {σ : St} {H : Hp} {Q : St -> Hp -> Prop} : gSub to ti t v σ H Q = to σ H fun o H1 => ti σ H1 fun i H2 => t o i v H2 fun H3 => Q σ H3 := rfl
theorem e_rep {x y : V} {H : Hp} {Q : VK} : rRep x y H Q = ∃ l k xs, x = .ref l /\ y = .int k /\ H l = some (.lst xs) /\ -(2 ^ 63) <= k /\ k < 2 ^ 63 /\ xs.length * k.toNat <= sizeLine /\ ∀ p, H p = none -> Q (.ref p) (upd H p (.lst (List.replicate k.toNat xs).flatten)) := rfl
end L2
namespace L2
open PySem PySem.Spec PyProof.Rows
section
variable {σ : St} {k : Nat} {g : TG} {tt : TT} {te : TE} {H1 : Hp} {Fin : List V -> Hp -> Prop}
theorem gz {K : Fg} {a b : Addr} {xs zs : List V} (Pv : Nat -> List V -> Hp -> Prop) (h0 : Pv 0 [] H1) (hz : ∀ i ys H, i <= min xs.length zs.length -> Pv i ys H -> ys.length <= sizeLine /\ SqL K H a xs /\ SqL K H b zs)
    (hs : ∀ i x z ys H T, xs[i]? = some x -> zs[i]? = some z -> H T = none -> Pv i ys H -> g (.ref T) (List.replicate k none ++ σ) (upd H T (.tup [x, z])) fun σ2 H2 => σ2.drop k = σ /\ tt σ2 H2 fun b H3 => if b = true then te σ2 H3 fun v H4 => Pv (i + 1) (ys ++ [v]) H4 else Pv (i + 1) ys H3)
    (hd : ∀ ys H, Pv (min xs.length zs.length) ys H -> Fin ys H) : sj (Itz K a b) σ k g tt te H1 Fin := by
  refine ⟨fun i m ys H => m = min xs.length zs.length - i /\ i <= min xs.length zs.length /\ Pv i ys H, ⟨min xs.length zs.length, by simp, ZE _, h0⟩, ?_⟩
  rintro i m ys H ⟨rfl, hi, p⟩
  obtain ⟨q0, qa, qb⟩ := hz i ys H hi p;refine ⟨q0, ?_⟩
  by_cases hlt : i < min xs.length zs.length
  . have h1 : i < xs.length := by omega
    have h2 : i < zs.length := by omega
    refine .inr ⟨⟨xs, zs, xs[i], zs[i], qa, qb, by simp [h1], by simp [h2]⟩, Pv (i + 1), fun ys' H' p' => ⟨min xs.length zs.length - (i + 1), by omega, rfl, hlt, p'⟩, fun x H' y => ?_⟩;obtain ⟨T, x', z', rfl, hT, rfl, hy⟩ := y;obtain ⟨e1, e2⟩ := hy xs zs qa qb;exact hs i x' z' ys _ T e1 e2 hT p
  . have e : i = min xs.length zs.length := by omega
    subst e;exact .inl ⟨⟨xs, zs, qa, qb, by omega⟩, hd ys H p⟩
end
theorem e_slL {K : Fg} {x : V} {lo hi : Option Int} {H : Hp} {Q : VK} : rSlL K x lo hi H Q = ∃ a xs, x = .ref a /\ SqL K H a xs /\ ∀ p, H p = none -> Q (.ref p) (upd H p (.lst (cutV xs lo hi))) := rfl
theorem e_tSl {r : V -> Option Int -> Option Int -> Hp -> VK -> Prop} {te : TE} {tl th : TO} {σ : St} {H : Hp} {Q : VK} : tSl r te tl th σ H Q = te σ H fun x H1 => tl σ H1 fun l H2 => th σ H2 fun u H3 => r x l u H3 Q := rfl
theorem zf8 {σ : St} {H : Hp} {Q : Option Int -> Hp -> Prop} : zb4 σ H Q = Q none H := rfl
theorem e_part {t : TE} {σ : St} {H : Hp} {Q : Option Int -> Hp -> Prop} : tPart t σ H Q = t σ H fun x H1 => ∃ i, x = .int i /\ Q (some i) H1 := rfl
end L2
namespace L2
open PySem PySem.Spec PyProof.Rows
section
variable {σ : St} {H : Hp} {Q : VK} {a b c : TE} {x : V} {vs : List V} {r r' : R2}
theorem e_pop : rPop x vs H Q = ∃ l xs y, x = .ref l /\ vs = [] /\ H l = some (.lst xs) /\ xs[xs.length - 1]? = some y /\ Q y (upd H l (.lst xs.dropLast)) := rfl
theorem e_BM0 {K : Fg} {T : String} {u : V -> List V -> Hp -> VK -> Prop} : tBM0 K T u a σ H Q = a σ H fun x H1 => tyV K T x H1 /\ u x [] H1 Q := rfl
theorem zh7 : zal r r' a b c σ H Q = a σ H fun x H1 => b σ H1 fun y H2 => r x y H2 fun z H3 => ∃ k, z = .bl k /\ (if k = true then c σ H3 fun w' H4 => r' y w' H4 Q else Q (.bl false) H3) := rfl
theorem zg0 : tDNewK σ H Q = ∀ p, H p = none -> Q (.ref p) (upd H p (.dK [])) := rfl
theorem e_in {K : Fg} {neg : Bool} {y : V} : rIn K neg x y H Q = ∃ p xs, y = .ref p /\ (SqL K H p xs \/ SqT K H p xs) /\ wb x = true /\ xs.all wb = true /\ Q (.bl (if neg then !inV x xs else inV x xs)) H := rfl
end
theorem oi {X : Cx} {x : Str} {i : Int} {pos : Pos} (hg : Gl X x) (hm : ∃ t, X.mg x = some (Value.int i t)) (hd : (x == ("__debug__" : Str)) = false := by decide) : PE X (.Name x pos) (tC (.int i)) := by
  obtain ⟨t, hm⟩ := hm;exact zcu hg hm ⟨t, rfl⟩ hd
def Its (lo st : Int) (n : Nat) : It := ⟨fun i _ => i < n, fun i H x H' => H' = H /\ x = .int (lo + i * st), fun i _ => n <= i⟩
def iRng3 (ta : TA) : TI := fun σ H R => ta σ H fun vs H1 => ∃ i j k : Int, vs = [.int i, .int j, .int k] /\ (-(2 ^ 61) <= i /\ i < 2 ^ 61 /\ -(2 ^ 61) <= j /\ j < 2 ^ 61 /\ 0 < k /\ k < 2 ^ 30) /\ R (Its i k (Builtin.Range.rangeSize i j k).toNat) H1
theorem e_rng3 {ta : TA} {σ : St} {H : Hp} {R : It -> Hp -> Prop} : iRng3 ta σ H R = ta σ H fun vs H1 => ∃ i j k : Int, vs = [.int i, .int j, .int k] /\ (-(2 ^ 61) <= i /\ i < 2 ^ 61 /\ -(2 ^ 61) <= j /\ j < 2 ^ 61 /\ 0 < k /\ k < 2 ^ 30) /\ R (Its i k (Builtin.Range.rangeSize i j k).toNat) H1 := rfl
def Ite (K : Fg) (a : Addr) : It :=
  ⟨fun i H => ∃ xs x, SqL K H a xs /\ xs[i]? = some x,
   fun i H v H' => ∃ T x, v = .ref T /\ H T = none /\ H' = upd H T (.tup [.int i, x]) /\ ∀ xs, SqL K H a xs -> xs[i]? = some x,
   fun i H => ∃ xs, SqL K H a xs /\ xs.length <= i⟩
def tnEnum (e it l : Addr) (i : Nat) (h : Heap) : Prop := (∃ old, IsEnum h e it i old) /\ h.IsListIter it l i
theorem zfc {P : Program} {w : World} {K : Fg} {elts : List Expr} {x1 : Nat} {pos : Pos} (e it l : Addr) (hne : e ≠ it) :
    Turn P w K (.Tuple elts x1 pos) (Ite K l) [e, it] e (tnEnum e it l) where
  mem := by simp
  obj := fun i h st b hb => by
    obtain ⟨⟨old, he⟩, ⟨o1, e1, c1, d1⟩⟩ := st;simp only [ZK, Zx, or_false] at hb
    rcases hb with rfl | rfl
    . exact ⟨_, he, fun v q => by cases q⟩
    . exact ⟨o1, e1, fun v q => by rw [d1] at q; cases q⟩
  keep := fun i h h' st k => by
    obtain ⟨⟨old, he⟩, h1⟩ := st;exact ⟨⟨old, k e (by simp) _ he⟩, h1.at fun o q => k it (by simp) o q⟩
  item := by
    intro X hP hw hK hc i pins s σ H E I hf st hg;subst hP hw hK;obtain ⟨xs, x, qa, hx⟩ := hg;obtain ⟨us, ru, pu, zu⟩ := I.list qa;obtain ⟨u, hu, rxu⟩ := ru.get hx;obtain ⟨⟨old, he⟩, h1⟩ := id st;refine wpAny_pyNext_enum_item he h1 pu.isList (x := u) (by simpa using hu) hne fun h' a1 a2 a3 a4 hk => ?_
    have ltT : ∀ {c o}, s.heap.get? c = some o -> c ≠ s.heap.objs.size := fun q => Zs (Heap.lt_size q)
    have hit1 : it ≠ s.heap.objs.size := by obtain ⟨_, q, _⟩ := h1; exact ltT q
    have hTe : s.heap.objs.size ≠ e := Ne.symm (ltT he);refine ⟨_, rfl, wpAny_letOwnedTupleGo_enum (s := { s with heap := h', toks := s.toks + 1 }) a1 fun h'' b1 sb => ?_⟩
    have I1 : Inv X pins σ (upd H s.heap.objs.size (.tup [.int i, x])) { s with heap := h'', toks := s.toks + 1 } := I.turnedLaid (ch := [e, it]) hf (fun b o hb q => by
      simp only [ZK, Zx, or_false, not_or] at hb
      exact sb.extBut b o hb.1 (hk b o hb.1 hb.2 q)) (Zm _) ⟨by show 2 <= sizeLine; decide, [.int i s.toks, u], .cons ⟨_, rfl⟩ (.cons rxu .nil), by
        have q := sb.extBut _ _ hTe a3
        exact ⟨_, q, rfl, _, rfl, rfl⟩⟩
    refine ⟨.ref s.heap.objs.size, _, I1, rfl, ⟨s.heap.objs.size, x, rfl, I.hok.fresh (Zm _), rfl, fun xs' q1 => ?_⟩, ?_, fun b hb => ?_⟩
    . rw [I.list_inj q1 qa]
      exact hx
    . refine ⟨⟨u, ?_⟩, a2.extBut sb.extBut (Ne.symm hne)⟩
      have z : ((i + 1 : Nat) : Int) = (i : Int) + 1 := by omega
      rw [z];exact b1
    . have hb' := (hf b hb).1
      rw [zx ?_]
      . exact hb'
      . simp only [ZK, Zx, or_false] at hb
        rcases hb with rfl | rfl
        . exact Ne.symm hTe
        . exact hit1
  done := by
    intro X hP hw hK hc i pins s σ H E I hf st hg;subst hP hw hK;obtain ⟨xs, qa, hend⟩ := hg;obtain ⟨us, ru, pu, zu⟩ := I.list qa;obtain ⟨⟨old, he⟩, h1⟩ := id st;have l1' := ru.length;obtain ⟨f0, f1, f2, f3, f4, f5⟩ := hf it (by simp);exact wpAny_pyNext_enum_end (I.ok.hd hc) he h1 pu.isList (by simp; omega) fun h' eb => ⟨rfl, I.turned (t' := s.toks) (fun b o hb q => eb b o hb q) f0 f1 f3 f4 f5⟩
  self := fun _ _ _ _ _ st h => by
    obtain ⟨⟨old, he⟩, _⟩ := st;exact wpAny_pyIter_enum he h
def iEnum (K : Fg) (ta : TA) : TI := fun σ H R => ta σ H fun vs H1 => ∃ a, vs = [.ref a] /\ (∃ xs, SqL K H1 a xs) /\ R (Ite K a) H1
theorem e_enum {K : Fg} {ta : TA} {σ : St} {H : Hp} {R : It -> Hp -> Prop} : iEnum K ta σ H R = ta σ H fun vs H1 => ∃ a, vs = [.ref a] /\ (∃ xs, SqL K H1 a xs) /\ R (Ite K a) H1 := rfl
theorem jx {X : Cx} {a : Expr} {ta : TA} {p pos tpos : Pos} {elts : List Expr} {x1 : Nat} (hg : Gl X "enumerate") (hm : X.mg "enumerate" = none) (ha : PA X [a] ta) (hs : starEach [a] X.env = [(false, eval a X.env)] := by rfl) :
    PI X (.Tuple elts x1 tpos) (.Call (.Name "enumerate" p) [a] [] pos) (iEnum X.K ta) := by
  intro pins s σ H R I h;refine Call_ (ud I hg hm au (PyProof.Rows.callWith_type1 (thn (ha pos pins s σ H _ I h) fun us s1 ⟨vs, H1, I1, r1, q1⟩ => ?_) hs rfl));obtain ⟨a, e, ⟨xs, qa⟩, q⟩ := q1;subst e;obtain ⟨u, rfl, ru⟩ := Vals.one r1;cases ru;obtain ⟨its, _, pa, _⟩ := I1.list qa;refine call_enumerate_list pa.isList fun h' z1 z2 z3 kp => ?_
  refine wpAny_pyIter_enum (s := { s1 with heap := h' }) z1 ?_;have I2 : Inv X pins σ H1 { s1 with heap := h' } := I1.kept (t' := s1.toks) kp;refine ⟨s1.heap.objs.size + 1, [s1.heap.objs.size + 1, s1.heap.objs.size], _, _, H1, rfl, I2, zfc _ _ a (by show (_ : Nat) ≠ _; omega), ⟨⟨_, z1⟩, z2⟩, fun c hc => ?_, q⟩
  have hle : s1.heap.objs.size <= c := by
    simp only [ZK, Zx, or_false] at hc
    rcases hc with h | h <;> (rw [h]; omega)
  exact I1.fpOk hle (I1.hok.fresh hle)
theorem zf1 {K : Fg} {a : Addr} {xs : List V} {g : TG} {tb : TS} {D : Ends} {σ : St} {H : Hp} (Pv : Nat -> St -> Hp -> Prop) (h0 : Pv 0 σ H) (hl : ∀ i σ H, i <= xs.length -> Pv i σ H -> SqL K H a xs)
    (hs : ∀ i x σ H T, xs[i]? = some x -> H T = none -> Pv i σ H -> g (.ref T) σ (upd H T (.tup [.int i, x])) fun σ2 H2 => tb { D with nx := Pv (i + 1), ct := Pv (i + 1), bk := D.nx } σ2 H2)
    (hd : ∀ σ H, Pv xs.length σ H -> D.nx σ H) : ForW (Ite K a) g tb D σ H := by
  refine ⟨fun i m σ H => m = xs.length - i /\ i <= xs.length /\ Pv i σ H, ⟨xs.length, by simp, ZE _, h0⟩, ?_⟩
  rintro i m σ H ⟨rfl, hi, p⟩
  have q := hl i σ H hi p
  by_cases hlt : i < xs.length
  . refine .inr ⟨⟨xs, xs[i], q, by simp [hlt]⟩, Pv (i + 1), fun σ' H' p' => ⟨xs.length - (i + 1), by omega, rfl, hlt, p'⟩, fun x H' y => ?_⟩
    obtain ⟨T, x', rfl, hT, rfl, hy⟩ := y;exact hs i x' σ _ T (hy xs q) hT p
  . have e : i = xs.length := by omega
    subst e;exact .inl ⟨⟨xs, q, Zm _⟩, hd σ H p⟩
section
variable {X : Cx}
end
section
variable {X : Cx}
end
end L2
namespace L2
open PySem PySem.Spec PyProof.Rows
section
variable {X : Cx} {pins : List (Addr × Obj)} {σ : St} {H : Hp} {k : Nat} {f : Addr} {fd : FuncData} {ps : List Str} {sp : Sp}
theorem zah {s : Shared} {fp : List Addr} {x : V} {u : Value} {n : Int} {Q : Value -> Shared -> Prop} {E : Value -> Shared -> Prop} (F : FnOk X.prog X.w X.K X.mg X.base CX0 k f fd ps sp) (hb : Binds X.K fd ps []) (hr : Room k X.A.in1)
    (I : Inv X pins σ H s) (hf : ∀ b ∈ fp, FpOk X pins H b) (ho : ∀ b ∈ fp, ∃ o, s.heap.get? b = some o /\ ∀ v, o.data ≠ .cell v) (rx : RelV x u)
    (h : sp [x] H (fun v H' => v = .int n /\ H' = H) E0)
    (q : ∀ t s', Inv X pins σ H s' -> (∀ b ∈ fp, ∀ o, s.heap.get? b = some o -> s'.heap.get? b = some o) -> Q (.int n t) s') :
    wpAny (model X.prog X.w) X.A.in1 (call (.ref f) [u]) Q E s := by
  have I1 := I.pinned hf ho;have hl : [u].length = ps.length := F.len [x] _ _ _ h;refine wpAny_call (codeAny_mono (F.run X.A.in1 X.stack s H ⟨[u], []⟩ [u] [x] _ E0 hr I1.env0.in1 (hb s [u] I.kIn hl) (.cons rx .nil) h) fun r s' hq => ?_)
  cases r with
  | error e => exact hq.elim
  | ok fl =>
    cases fl with
    | ret u' =>
      obtain ⟨v, H', I2, rv, e1, e2⟩ := I1.after hq;subst e1 e2;obtain ⟨t, rfl⟩ := rv;refine q t s' I2.unpinned fun b hb o e => ?_
      exact (I2.pin (b, o) (Zu _ (Zu _ (ve hb e)))).1
    | next => exact False.elim hq
    | brk => exact False.elim hq
    | cont => exact False.elim hq
theorem Inv.turned1 {s : Shared} {h' : Heap} {it : Addr} {t' : Nat} (I : Inv X pins σ H s) (hf : FpOk X pins H it) (k : ∀ b o, b ≠ it -> s.heap.get? b = some o -> h'.get? b = some o) : Inv X pins σ H { s with heap := h', toks := t' } := by
  obtain ⟨f0, f1, f2, f3, f4, f5⟩ := hf;exact I.turned k f0 f1 f3 f4 f5
theorem zee (kf : Nat -> Int) {l I0 S : Addr} {xs : List V} {R : Result -> Shared -> Prop} (hc : X.calm = true) (F : FnOk X.prog X.w X.K X.mg X.base CX0 k f fd ps sp) (hb : Binds X.K fd ps []) (hr : Room k X.A.in1)
    (hlI : l ≠ I0) (hlS : l ≠ S) (hSI : S ≠ I0) (hl : SqL X.K H l xs) (fS : FpOk X pins H S) (fI : FpOk X pins H I0)
    (turn : ∀ i x, xs[i]? = some x -> sp [x] H (fun v H' => v = .int (kf i) /\ H' = H) E0)
    (hR : ∀ i x u s', xs[i]? = some x -> RelV x u -> (∀ j, j < xs.length -> kf i <= kf j /\ (j < i -> kf i < kf j)) -> Inv X pins σ H s' -> R (.ok (.ret u)) s') :
    ∀ (r j i : Nat) (s : Shared) (x : V) (vb : Value) (tb : Tok) (c : Nat), xs.length - (j + 1) = r -> j + 1 <= xs.length -> Inv X pins σ H s -> s.heap.get? S = some (seqObj "list" #[vb, .int (kf i) tb] c) ->
      s.heap.IsListIter I0 l (j + 1) -> xs[i]? = some x -> RelV x vb -> i <= j -> (∀ j', j' <= j -> kf i <= kf j' /\ (j' < i -> kf i < kf j')) ->
      codeAny (model X.prog X.w) X.A (.builtin "min.loop" ⟨[.ref I0, .ref f, .ref S], []⟩) R s := by
  have hname : (toString "min" ++ toString ".loop" : String) = "min.loop" := by decide
  intro r
  induction r with
  | zero =>
    intro j i s x vb tb c hr' hj I hS hit hx rx hij hbest;have hin : j + 1 = xs.length := by omega
    obtain ⟨its, rv, pl, hz⟩ := I.list hl;have hlen := rv.length;have W := Walks.list (prog := X.prog) (w := X.w) (A := X.A.in1) (I.ok.hd hc) I0 l hlI its.toArray;refine codeAny_builtin PySem.F.entry_min_loop ?_;rw [Around.under_plainId PySem.F.plain_min_loop _]
    show wpAny _ X.A.in1 (seqItems? (.ref S) >>= _) _ _ _
    refine wpAny_bind (wpAny_seqItems hS rfl ?_)
    show wpAny _ X.A.in1 (tryCatch (pyNext (.ref I0)) _ >>= _) _ _ _
    refine wpAny_bind (wpAny_tryCatch (W.done _ _ _ ⟨by rw [Zr, <- hlen, <- hin]; exact hit, pl.isList⟩ fun h' tk' hk' => ?_));have I1 : Inv X pins σ H { s with heap := h', toks := tk' } := I.turned1 fI fun b o hb e => hk' b o (by simpa using hb) e
    have hS' := hk' S _ (by simpa using hSI) hS;have s1 := Heap.SameBut.update h' S (Obj.mapSeq fun _ => (#[] : Array Value))
    show wpAny _ X.A.in1 (updateSeq S (fun _ => #[]) >>= _) _ _ _
    refine wpAny_bind ?_;refine wpAny_updateSeq hS' rfl (wpAny_bind (wpAny_letGo (wpAny_pure ?_)));exact hR i x vb _ hx rx (fun j' hj' => hbest j' (by omega)) (I1.turned1 (t' := tk') fS fun b o hb e => (s1.2 b hb).trans e)
  | succ r ih =>
    intro j i s x vb tb c hr' hj I hS hit hx rx hij hbest;have hlt : j + 1 < xs.length := by omega
    obtain ⟨its, rv, pl, hz⟩ := I.list hl;have hlen := rv.length;have W := Walks.list (prog := X.prog) (w := X.w) (A := X.A.in1) (I.ok.hd hc) I0 l hlI its.toArray;refine codeAny_builtin PySem.F.entry_min_loop ?_;rw [Around.under_plainId PySem.F.plain_min_loop _]
    show wpAny _ X.A.in1 (seqItems? (.ref S) >>= _) _ _ _
    refine wpAny_bind (wpAny_seqItems hS rfl ?_)
    show wpAny _ X.A.in1 (tryCatch (pyNext (.ref I0)) _ >>= _) _ _ _
    refine wpAny_bind (wpAny_tryCatch (W.item (j + 1) _ _ _ (by rw [Zr, <- hlen]; exact hlt) ⟨hit, pl.isList⟩ fun v h' tk' hP hst' hk' => ?_));have hv : its[j + 1]? = some v := by simpa using hP
    have ey : xs[j + 1]? = some xs[j + 1] := by simp [hlt]
    obtain ⟨v', hv', ry⟩ := rv.get ey;rw [hv] at hv';cases hv';have I1 : Inv X pins σ H { s with heap := h', toks := tk' } := I.turned1 fI fun b o hb e => hk' b o (by simpa using hb) e
    have hS' := hk' S _ (by simpa using hSI) hS;obtain ⟨oI', hoI', hoc, hod⟩ := id hst'.1
    show wpAny _ X.A.in1 (tryCatch (holding [v] (call (.ref f) [v])) _ >>= _) _ _ _
    refine wpAny_bind (wpAny_tryCatch (wpAny_holding (zah (fp := [S, I0]) F hb hr I1 (fun b hb => ?_) (fun b hb => ?_) ry (turn (j + 1) _ ey) fun t2 s2 I2 kp => ?_)))
    . simp only [ZK, Zx, or_false] at hb
      rcases hb with rfl | rfl
      . exact fS
      . exact fI
    . simp only [ZK, Zx, or_false] at hb
      rcases hb with rfl | rfl
      . exact ⟨_, hS', fun v q => by cases q⟩
      . exact ⟨oI', hoI', fun v q => by rw [hod] at q; cases q⟩
    have nS2 := kp S (by simp) _ hS';have nI2 := kp I0 (by simp) _ hoI';have hit2 : s2.heap.IsListIter I0 l (j + 1 + 1) := ⟨oI', nI2, hoc, hod⟩
    show wpAny _ X.A.in1 (tryCatch (holding [v, .int (kf (j + 1)) t2] (richCompare .Lt (.int (kf (j + 1)) t2) (.int (kf i) tb) >>= _)) _ >>= _) _ _ _
    refine wpAny_bind (wpAny_tryCatch (wpAny_holding (wpAny_bind (CmpOf.ints_lt (prog := X.prog) (w := X.w) (A := X.A.in1) (P := fun i v => ∃ t, v = .int (kf i) t) kf (fun i v h => h) (j + 1) i _ _ _ _ _ ⟨t2, rfl⟩ ⟨tb, rfl⟩ ?_))));refine wpAny_bind (wpAny_holding (wpAny_truthy_bool ?_));refine wpAny_bind (wpAny_letGo (wpAny_pure ?_))
    by_cases hb' : kf (j + 1) < kf i
    . have s1 := Heap.SameBut.update s2.heap S (Obj.mapSeq fun _ => #[v, .int (kf (j + 1)) t2])
      obtain ⟨c2, hc2⟩ : ∃ c2, (s2.heap.update S (Obj.mapSeq fun _ => #[v, .int (kf (j + 1)) t2])).get? S = some (seqObj "list" #[v, .int (kf (j + 1)) t2] c2) := ⟨_, get?_update_seq nS2 fun _ => #[v, .int (kf (j + 1)) t2]⟩;simp only [hb', decide_true, if_true];refine wpAny_bind ?_;refine wpAny_updateSeq nS2 rfl (wpAny_bind (wpAny_letGo ?_));rw [hname];refine wpAny_pure ⟨plainId_quiet PySem.F.plain_min_loop _, ih (j + 1) (j + 1) _ _ v t2 c2 (by omega) hlt (I2.turned1 (t' := s2.toks) fS fun b o hb e => (s1.2 b hb).trans e) hc2 ⟨oI', (s1.2 I0 hSI.symm).trans nI2, hoc, hod⟩ ey ry (Zm _) fun j' hj' => ?_⟩
      by_cases e : j' = j + 1
      . subst e
        exact ⟨by omega, fun _ => by omega⟩
      . have hb1 := hbest j' (by omega)
        have hb2 := hb1.1;exact ⟨by omega, fun _ => by omega⟩
    . simp only [hb', decide_false, Bool.false_eq_true, if_false]
      refine wpAny_bind (wpAny_letGo ?_);rw [hname];refine wpAny_pure ⟨plainId_quiet PySem.F.plain_min_loop _, ih (j + 1) i s2 x vb tb c (by omega) hlt I2 nS2 hit2 hx rx (by omega) fun j' hj' => ?_⟩
      by_cases e : j' = j + 1
      . subst e
        exact ⟨by omega, fun _ => by omega⟩
      . exact hbest j' (by omega)
theorem zgl (kf : Nat -> Int) {s : Shared} {l : Addr} {xs : List V} {Q : VK} {E : Value -> Shared -> Prop} (hc : X.calm = true) (F : FnOk X.prog X.w X.K X.mg X.base CX0 k f fd ps sp) (hb : Binds X.K fd ps []) (hr : Room k X.A.in1)
    (I : Inv X pins σ H s) (hl : SqL X.K H l xs) (hne : 0 < xs.length)
    (turn : ∀ i x, xs[i]? = some x -> sp [x] H (fun v H' => v = .int (kf i) /\ H' = H) E0)
    (hQ : ∀ i x, xs[i]? = some x -> (∀ j, j < xs.length -> kf i <= kf j /\ (j < i -> kf i < kf j)) -> Q x H) :
    wpAny (model X.prog X.w) X.A (call (.builtin "min") [.ref l] [(Str.ofString "key", .ref f)]) (EP X pins σ Q) E s := by
  have hname : (toString "min" ++ toString ".loop" : String) = "min.loop" := by decide
  obtain ⟨its, rv, pl, hz⟩ := I.list hl;have hlen := rv.length;have hls := pl.isList;obtain ⟨ol, hol, _⟩ := id hls;have hll : l < s.heap.objs.size := Heap.lt_size hol;refine kmk_tree PySem.F.kind_min PySem.F.plain_min PySem.F.entry_min (kmk_min_key _ _) ?_
  show wpAny _ X.A.in1 (Builtin.Builtins.bindParams "min" ["key", "default"] 0 ⟨[], [(Str.ofString "key", .ref f)]⟩ >>= _) _ _ s
  refine wpAny_bind (wpAny_of_eq (show Builtin.Builtins.bindParams "min" ["key", "default"] 0 ⟨[], [(Str.ofString "key", .ref f)]⟩ = pure [some (.ref f), none] from rfl) ?_);refine wpAny_bind (wpAny_pure ?_);refine wpAny_bind (wpAny_pyIter_list hls ?_);refine wpAny_bind (wpAny_newList ?_ (ZE _));rw [hname];generalize hP : s.heap.push { cls := .type "list_iterator", data := .fields #[.ref l, .int 0 0] } = HP;have hS : HP.objs.size = s.heap.objs.size + 1 := by rw [<- hP]; exact size_push' ..
  have hlI : l ≠ s.heap.objs.size := Zs hll;have hSI : HP.objs.size ≠ s.heap.objs.size := by rw [hS]; exact ZR (Yw _)
  have hlS : l ≠ HP.objs.size := by rw [hS]; exact Zs (Yd hll)
  refine wpAny_pure ⟨plainId_quiet PySem.F.plain_min_loop _, ?_⟩;have old : ∀ b o, s.heap.get? b = some o -> (HP.push (seqObj "list" #[] 0)).get? b = some o := fun b o e => Heap.get?_push_of_some _ (by rw [<- hP]; exact Heap.get?_push_of_some _ e)
  have I0 : Inv X pins σ H { s with heap := HP.push (seqObj "list" #[] 0), toks := s.toks } := I.kept old
  have gI : (HP.push (seqObj "list" #[] 0)).get? s.heap.objs.size = some { cls := .type "list_iterator", data := .fields #[.ref l, .int 0 0] } :=
    Heap.get?_push_of_some _ (by rw [<- hP]; exact Heap.get?_push_size _ rfl)
  have gS : (HP.push (seqObj "list" #[] 0)).get? HP.objs.size = some (seqObj "list" #[] 0) := Heap.get?_push_size _ rfl;have fI : FpOk X pins H s.heap.objs.size := I.fpOk (Zm _) (I.hok.fresh (Zm _));have fS : FpOk X pins H HP.objs.size := I.fpOk (by rw [hS]; exact Ys _) (I.hok.fresh (by rw [hS]; exact Ys _));have W := Walks.list (prog := X.prog) (w := X.w) (A := X.A.in1) (I.ok.hd hc) s.heap.objs.size l hlI its.toArray;refine codeAny_builtin PySem.F.entry_min_loop ?_;rw [Around.under_plainId PySem.F.plain_min_loop _]
  show wpAny _ X.A.in1 (seqItems? (.ref _) >>= _) _ _ _
  refine wpAny_bind (wpAny_seqItems gS rfl ?_)
  show wpAny _ X.A.in1 (tryCatch (pyNext (.ref s.heap.objs.size)) _ >>= _) _ _ _
  have hlist : (HP.push (seqObj "list" #[] 0)).IsList l its.toArray := by
    obtain ⟨o, e, r⟩ := hls;exact ⟨o, old l o e, r⟩
  refine wpAny_bind (wpAny_tryCatch (W.item 0 _ _ _ (by rw [Zr, <- hlen]; exact hne) ⟨⟨_, gI, rfl, rfl⟩, hlist⟩ fun v h' tk' hP' hst' hk' => ?_));have hv : its[0]? = some v := by simpa using hP'
  have ey : xs[0]? = some xs[0] := by simp [hne]
  obtain ⟨v', hv', ry⟩ := rv.get ey;rw [hv] at hv';cases hv';have I1 : Inv X pins σ H { s with heap := h', toks := tk' } := I0.turned1 fI fun b o hb e => hk' b o (by simpa using hb) e
  have hS' := hk' HP.objs.size _ (by simpa using hSI) gS;obtain ⟨oI', hoI', hoc, hod⟩ := id hst'.1
  show wpAny _ X.A.in1 (tryCatch (holding [v] (call (.ref f) [v])) _ >>= _) _ _ _
  refine wpAny_bind (wpAny_tryCatch (wpAny_holding (zah (fp := [HP.objs.size, s.heap.objs.size]) F hb hr I1 (fun b hb => ?_) (fun b hb => ?_) ry (turn 0 _ ey) fun t2 s2 I2 kp => ?_)))
  . simp only [ZK, Zx, or_false] at hb
    rcases hb with rfl | rfl
    . exact fS
    . exact fI
  . simp only [ZK, Zx, or_false] at hb
    rcases hb with rfl | rfl
    . exact ⟨_, hS', fun v q => by cases q⟩
    . exact ⟨oI', hoI', fun v q => by rw [hod] at q; cases q⟩
  have nS2 := kp HP.objs.size (by simp) _ hS';have nI2 := kp s.heap.objs.size (by simp) _ hoI';have s1 := Heap.SameBut.update s2.heap HP.objs.size (Obj.mapSeq fun _ => #[v, .int (kf 0) t2]);obtain ⟨c2, hc2⟩ : ∃ c2, (s2.heap.update HP.objs.size (Obj.mapSeq fun _ => #[v, .int (kf 0) t2])).get? HP.objs.size = some (seqObj "list" #[v, .int (kf 0) t2] c2) := ⟨_, get?_update_seq nS2 fun _ => #[v, .int (kf 0) t2]⟩
  show wpAny _ X.A.in1 (updateSeq HP.objs.size (fun _ => #[v, .int (kf 0) t2]) >>= _) _ _ _
  refine wpAny_bind ?_;refine wpAny_updateSeq nS2 rfl ?_;rw [hname];refine wpAny_pure ⟨plainId_quiet PySem.F.plain_min_loop _, zee kf hc F hb hr hlI hlS hSI hl fS fI turn (fun i x u s' h1 h2 h3 h4 => ⟨x, H, h4, h2, hQ i x h1 h3⟩) _ 0 0 _ _ v t2 c2 rfl hne (I2.turned1 (t' := s2.toks) fS fun b o hb e => (s1.2 b hb).trans e) hc2 ⟨oI', (s1.2 _ hSI.symm).trans nI2, hoc, hod⟩ ey ry (Zm _) fun j' hj' => ?_⟩;have e : j' = 0 := by omega
  subst e;exact ⟨by omega, fun _ => by omega⟩
def tMinK (K : Fg) (sp : Sp) (ta : TA) : TE := fun σ H Q => ta σ H fun vs H1 => ∃ (l : Addr) (xs : List V) (kf : Nat -> Int), vs = [.ref l] /\ SqL K H1 l xs /\ 0 < xs.length /\
  (∀ i x, xs[i]? = some x -> sp [x] H1 (fun v H' => v = .int (kf i) /\ H' = H1) E0) /\ ∀ i x, xs[i]? = some x -> (∀ j, j < xs.length -> kf i <= kf j /\ (j < i -> kf i < kf j)) -> Q x H1
theorem e_minK {K : Fg} {ta : TA} {Q : VK} : tMinK K sp ta σ H Q = ta σ H fun vs H1 => ∃ (l : Addr) (xs : List V) (kf : Nat -> Int), vs = [.ref l] /\ SqL K H1 l xs /\ 0 < xs.length /\
  (∀ i x, xs[i]? = some x -> sp [x] H1 (fun v H' => v = .int (kf i) /\ H' = H1) E0) /\ ∀ i x, xs[i]? = some x -> (∀ j, j < xs.length -> kf i <= kf j /\ (j < i -> kf i < kf j)) -> Q x H1 := rfl
theorem zcq {y : Str} {e : Expr} {t : TA} {p p2 pos kpos : Pos} (F : FnAt X.prog X.w X.K X.mg X.base y k ps sp) (hr : Room (k + 1) X.A) (hc : X.calm = true) (hgm : Gl X "min") (hm : X.mg "min" = none) (hg : Gl X y) (ha : PA X [e] t)
    (hdb : (y == ("__debug__" : Str)) = false := by decide)
    (he : backTo pos (starEach [e] X.env) = (false, eval e X.env) :: backTo pos (starEach [] X.env) := by rfl) (hpl : (backTo pos (starEach [e] X.env)).any (·.1) = false := by rfl) :
    PE X (.Call (.Name "min" p) [e] [⟨some (Str.ofString "key"), .Name y p2, kpos⟩] pos) (tMinK X.K sp t) := by
  intro pins s σ H Q I h;obtain ⟨f, fd, hmy, hk, hb, G⟩ := F.ex;refine wpAny_Call_Name_kw (ud I hgm hm jh ?_);refine PyProof.Rows.callWith_kw (thn (ha pos pins s σ H _ I h) fun us s1 ⟨vs, H1, I1, r1, q1⟩ => ?_) he hpl rfl rfl;obtain ⟨l, xs, kf, ev, hl, hne, turn, q⟩ := q1;subst ev;obtain ⟨u, rfl, ru⟩ := Vals.one r1;cases ru;refine thn ((zhf (nm := some (Str.ofString "key")) (kpos := kpos) (zcu (v := .ref f) hg hmy rfl hdb) pk_nil) pos pins s1 σ H1 (fun zs H2 => zs = [.ref f] /\ H2 = H1) I1 ⟨rfl, rfl⟩) fun ws s2 ⟨zs, H2, I2, rz, ez, eh⟩ => ?_
  subst ez eh;obtain ⟨w1, rfl, rw1⟩ := Vals.one rz;cases rw1;exact zgl kf hc G hb hr.in1 I2 hl hne turn q
end
end L2
namespace L2
open PySem PySem.Spec PyProof.Rows
def CX1 (P : Program) (w : World) : CXT := fun outer H s E e s' => ∃ (ea C : Addr) (a0 : Value) (B : Heap) (H' : Hp), e = .ref ea /\ s'.os = s.os /\ AllBare s'.gens /\ Un (frs outer) [] H H' s.heap s'.heap /\ HOk P w H' s'.heap /\
  Heap.FlyingW B outer ea (.ref C) a0 s'.heap /\ H' ea = none /\ (∀ b o, H' b = some o -> ∃ ob, B.get? b = some ob) /\ (∀ b o, s.heap.get? b = some o -> b ∉ frs outer -> ∃ ob, B.get? b = some ob /\ (H b = none -> ob = o)) /\ E (.ref C) none H'
theorem pass1 {P : Program} {w : World} {X : Cx} : jl (CX1 P w) X E0 := fun _ _ _ _ _ _ _ h => by
  obtain ⟨_, _, _, _, _, _, _, _, _, _, _, _, _, _, z⟩ := h;exact z.elim
theorem HOk.flown {P : Program} {w : World} {H : Hp} {h h' B : Heap} (x : HOk P w H h) (bh : B.StaysIn h) (bh' : B.StaysIn h') (dom : ∀ b o, H b = some o -> ∃ ob, B.get? b = some ob) : HOk P w H h' := fun a o e =>
  (x a o e).stay (fun b u hb q => by
    have hB : ∃ ob, B.get? b = some ob := by
      rcases hb with rfl | hb
      . exact dom _ _ e
      . exact dom _ _ hb
    obtain ⟨ob, hob⟩ := hB;have := bh b ob hob;rw [q] at this;cases this
    exact bh' b u hob) (fun _ q => q) fun _ _ q => q
theorem iu {P : Program} {w : World} {H : Hp} {h : Heap} {a : Addr} {o : HO} (x : ObjOk P w H h a o) : ∃ ob, h.get? a = some ob := by
  cases o with
  | lst xs => obtain ⟨_, _, _, _, e⟩ := x; exact ⟨_, e⟩
  | tup xs => obtain ⟨_, _, _, o, e, _⟩ := x; exact ⟨_, e⟩
  | dK kvs => obtain ⟨_, _, _, _, o, _, _, e, _⟩ := x; exact ⟨_, e⟩
  | dT kvs => obtain ⟨_, _, _, _, o, _, _, e, _⟩ := x; exact ⟨_, e⟩
  | set S n => obtain ⟨o, _, _, _, e, _⟩ := x; exact ⟨_, e⟩
  | ins C dx fs => obtain ⟨_, _, _, e, _⟩ := x; exact ⟨_, e⟩
  | own y => exact x
  | xd fs => obtain ⟨_, ⟨_, _, _, e, _⟩, _⟩ := x; exact ⟨_, e⟩
  | rng lo hi => obtain ⟨_, _, _, e⟩ := x; exact ⟨_, e⟩
  | frz ob u => obtain ⟨e, _⟩ := x; exact ⟨_, e⟩
  | tbl ps => exact ⟨_, (show h.get? a = some _ from x)⟩
  | met f y => exact ⟨_, (show h.get? a = some _ from x)⟩
  | ext φ => obtain ⟨_, e, _⟩ := x; exact e
section
variable {X : Cx} {pins : List (Addr × Obj)} {σ : St} {H : Hp} {s : Shared}
theorem zaj {fs : List Addr} {H0 H1 : Hp} {h0 h1 h2 B : Heap} (u : Un fs [] H0 H1 h0 h1) (dom2 : ∀ b o, h0.get? b = some o -> b ∉ fs -> ∃ ob, B.get? b = some ob /\ (H0 b = none -> ob = o))
    (bh' : B.StaysIn h2) (sl : h1.UpToSlots h2) (hfr : ∀ b ∈ fs, ∀ o, h1.get? b = some o -> ∀ vs, o.data ≠ .fields vs) : Un fs [] H0 H1 h0 h2 where
  keep := fun b o e n hb _ => by
    obtain ⟨ob, e1, e2⟩ := dom2 b o e hb;rw [e2 n] at e1;exact bh' b o e1
  slot := fun b o e n hb hx => by
    obtain ⟨s1, e1⟩ := u.slot b o e n hb hx;obtain ⟨s2, e2⟩ := sl b _ e1 (hfr b hb _ e1);exact ⟨s2, e2⟩
  free := u.free
  there := fun b o e hx => by
    by_cases hb : b ∈ fs
    . obtain ⟨o1, e1⟩ := u.there b o e hx
      obtain ⟨s2, e2⟩ := sl b _ e1 (hfr b hb _ e1);exact ⟨_, e2⟩
    . obtain ⟨ob, e1, _⟩ := dom2 b o e hb
      exact ⟨ob, bh' b ob e1⟩
  tups := u.tups
  frzs := u.frzs
  tbls := u.tbls
theorem zae {P : Program} {w : World} {K : Fg} {mg : Str -> Option Value} {base : Heap} {N : List Str} {qual : Str} {scope : Scope} {f : Addr} {cd : Value} {A : Around} {outer : List Env} {s0 : Shared} {H0 : Hp} {E : XK} {h' : Heap} {e C : Addr} {args : List Value}
    (hX : X = cxOf (CX1 P w) P w K mg base N qual scope f cd A outer s0 H0 E) (I : Inv X pins σ H s) (hx : Heap.MadeExcOf s.heap h' e (.ref C) args) (hE : E (.ref C) none H) (tk : Nat) : X.xe (.ref e) { s with heap := h', toks := tk } := by
  subst hX
  show wpAny _ _ (leaving _ (.ref e)) _ _ _
  have hst : s.heap.FunFrames base (envOfC qual scope s0.heap.objs.size f cd :: outer) := I.stack;have hin : ∀ env ∈ (envOfC qual scope s0.heap.objs.size f cd :: outer), ∀ b, env.frame = some b -> b ∈ (envOfC qual scope s0.heap.objs.size f cd :: outer).filterMap (·.frame) := fun env he b hb => ZY.mpr ⟨env, he, hb⟩
  have getB : ∀ b o, s.heap.get? b = some o -> b ∉ (envOfC qual scope s0.heap.objs.size f cd :: outer).filterMap (·.frame) -> (PySem.W.hideAll s.heap ((envOfC qual scope s0.heap.objs.size f cd :: outer).filterMap (·.frame))).get? b = some o := fun b o q n => PySem.W.hideAll_get _ q n
  refine wpAny_leaves_madeW (s := { s with heap := h', toks := tk }) (h := s.heap) I.ok.frames rfl (fun b o q => PySem.W.of_hideAll _ q) (PySem.W.funFrames_hide hst hin) hx fun h'' t x1 x2 x3 x4 => ?_
  have dom : ∀ b o, H b = some o -> ∃ ob, (PySem.W.hideAll s.heap ((envOfC qual scope s0.heap.objs.size f cd :: outer).filterMap (·.frame))).get? b = some ob := fun b o q => by
    have hlt := I.hok.lt q
    have hnf : b ∉ (envOfC qual scope s0.heap.objs.size f cd :: outer).filterMap (·.frame) := fun z => by
      have := I.stkFree b z;rw [q] at this; cases this
    obtain ⟨ob, hob⟩ := iu (I.hok b o q);exact ⟨ob, getB b ob hob hnf⟩
  have un : Un (frs outer) [] H0 H s0.heap s.heap := I.base
  have dom2 : ∀ b o, s0.heap.get? b = some o -> b ∉ frs outer -> ∃ ob, (PySem.W.hideAll s.heap ((envOfC qual scope s0.heap.objs.size f cd :: outer).filterMap (·.frame))).get? b = some ob /\ (H0 b = none -> ob = o) := fun b o q n => by
    have hnf : b ∉ (envOfC qual scope s0.heap.objs.size f cd :: outer).filterMap (·.frame) := fun z => by
      rcases ZK.mp (I.stkSub b z) with y | y
      . have h1 : s0.heap.objs.size <= b := by rw [y]; exact I.ok.above
        exact absurd (Zh (Heap.lt_size q) h1) (ZJ _)
      . exact n y
    obtain ⟨o1, e1⟩ := un.there b o q (by simp);refine ⟨o1, getB b o1 e1 hnf, fun z => ?_⟩;have := un.keep b o q z n (by simp);rw [e1] at this;exact Option.some.inj this
  have hfr : ∀ b ∈ frs outer, ∀ o, s.heap.get? b = some o -> ∀ vs, o.data ≠ .fields vs := fun b hb o q => by
    obtain ⟨_, o', e', n'⟩ := hst.mem (b := b) (by
      obtain ⟨env, he, hf⟩ := ZY.mp hb
      exact ZY.mpr ⟨env, Zv _ he, hf⟩)
    rw [q] at e'; cases e';exact n'
  have sl : s.heap.UpToSlots h'' := (Heap.UpToSlots.of_keeps hx.keeps).trans x4;refine ⟨e, C, _, _, H, rfl, I.os, I.bare, zaj un dom2 x1.1 sl hfr, HOk.flown I.hok (fun b o q => PySem.W.of_hideAll _ q) x1.1 dom, x1, ?_, dom, dom2, hE⟩
  cases q : H e with
  | none => rfl
  | some o =>
    obtain ⟨ob, hob⟩ := iu (I.hok e o q);rw [hx.new] at hob; cases hob
theorem passX {P : Program} {w : World} {K : Fg} {mg : Str -> Option Value} {base : Heap} {N : List Str} {qual : Str} {scope : Scope} {f : Addr} {cd : Value} {A : Around} {outer : List Env} {s0 : Shared} {H0 : Hp} {E E1 : XK}
    (hX : X = cxOf (CX1 P w) P w K mg base N qual scope f cd A outer s0 H0 E) (hE : ∀ c H', E1 c none H' -> E c none H') : jl (CX1 P w) X E1 := by
  subst hX;intro pins σ H s e s' I h;obtain ⟨ea, C, a0, B, H', rfl, os, bare, un, hok, fl, hea, dom, dom2, hE1⟩ := h
  show wpAny _ _ (leaving _ (.ref ea)) _ _ _
  have hst : s'.heap.FunFrames B (envOfC qual scope s0.heap.objs.size f cd :: outer) := fl.2.2.1;have un0 : Un (frs outer) [] H0 H s0.heap s.heap := I.base
  have sub : ∀ b ∈ frs outer, b ∈ frs (envOfC qual scope s0.heap.objs.size f cd :: outer) := fun b hb => by
    obtain ⟨env, he, hf⟩ := ZY.mp hb;exact ZY.mpr ⟨env, Zv _ he, hf⟩
  have notL : ∀ b o, s0.heap.get? b = some o -> b ∉ frs outer -> b ∉ frs (envOfC qual scope s0.heap.objs.size f cd :: outer) := fun b o q n z => by
    rcases ZK.mp (I.stkSub b z) with y | y
    . have h1 : s0.heap.objs.size <= b := by rw [y]; exact I.ok.above
      exact absurd (Zh (Heap.lt_size q) h1) (ZJ _)
    . exact n y
  refine wpAny_leaves_onW I.ok.frames rfl fl fun h'' x1 x2 => ?_
  have ut := (un0.mono sub (fun _ z => z)).trans un;have un1 : Un (frs outer) [] H0 H' s0.heap s'.heap := ⟨fun b o e n hb hx => ut.keep b o e n (notL b o e hb) hx, fun b o e n hb hx => ut.slot b o e n (sub b hb) hx, ut.free, ut.there, ut.tups, ut.frzs, ut.tbls⟩
  have dom2' : ∀ b o, s0.heap.get? b = some o -> b ∉ frs outer -> ∃ ob, B.get? b = some ob /\ (H0 b = none -> ob = o) := fun b o q n => by
    obtain ⟨o1, e1⟩ := un0.there b o q (by simp);obtain ⟨ob, k1, k2⟩ := dom2 b o1 e1 (notL b o q n);refine ⟨ob, k1, fun z => ?_⟩;have e2 := un0.keep b o q z n (by simp);rw [e1] at e2;cases e2;exact k2 (un0.free b _ q z (by simp))
  have hfr : ∀ b ∈ frs outer, ∀ o, s'.heap.get? b = some o -> ∀ vs, o.data ≠ .fields vs := fun b hb o q => by
    obtain ⟨_, o', e', n'⟩ := hst.mem (b := b) (sub b hb);rw [q] at e'; cases e';exact n'
  exact ⟨ea, C, a0, B, H', rfl, os.trans I.os, bare, zaj un1 dom2' x1.1 x2 hfr, HOk.flown hok fl.1 x1.1 dom, x1, hea, dom, dom2', hE _ _ hE1⟩
def ExcO (ea C : Addr) : HO := .ext fun h => ∃ o, h.get? ea = some o /\ o.cls = .ref C /\ ∃ vs, o.data = .fields vs
abbrev Cx.suite (X : Cx) (e : Value) : Cx := { X with A := X.A.mark (some e), calm := false, xe := fun _ _ => False }
end
abbrev VE : List Value := [.type "ValueError", .type "Exception", .type "BaseException", .type "object"]
structure Err (K : Fg) (C : Addr) : Prop where
  ok : PySem.W.excIn K C VE "ValueError.__new__" = true
theorem Err.obj {K : Fg} {C : Addr} {h : Heap} (c : Err K C) (X : K.In h) : ∃ bm N nm q bs hdct sn sub ab col dd k0 k1 k2 k3 k5 mN, h.get? C = some (excClassObj nm q C N bs bm hdct sn sub ab col dd k0 k1 k2 k3 k5 "ValueError.__new__") /\
    h.Ns N mN /\ mN "__init__" = none /\ OwnTail h VE bm /\ ∀ v b, PySem.W.mroIn K C v = some b -> (Value.ref C :: bm).contains v = b := by
  have q := c.ok;unfold PySem.W.excIn at q
  split at q
  case h_2 => cases q
  case h_1 dd cd sl ho =>
    split at q
    case h_2 => cases q
    case h_1 C' bm k0 k1 k2 k3 n k5 hm hs =>
      simp only [Bool.and_eq_true, beq_iff_eq, Bool.not_eq_true'] at q
      have hmro : ∀ v b, PySem.W.mroIn K C v = some b -> (Value.ref C' :: bm).contains v = b := fun v b e => by
        unfold PySem.W.mroIn PySem.W.clsIn at e;rw [ho] at e;simp only [Option.bind_some, hm, List.isEmpty_cons, Bool.false_eq_true, if_false, Option.some.injEq] at e;exact e
      obtain ⟨⟨⟨⟨⟨e1, e2⟩, hdel⟩, ht⟩, hok⟩, hni⟩ := q;subst e1;subst e2;obtain ⟨nm, bs, mro, ns, qn, hd, sn, sub, ab, col, del⟩ := cd;have hm' : mro = Value.ref C' :: bm := hm;have hdel' : del = false := hdel;subst hm';subst hdel'
      have hsl : sl = #[k0, k1, k2, k3, some (.builtin "ValueError.__new__"), k5] := by
        cases sl with
        | mk l =>
          have hs' : l = [k0, k1, k2, k3, some (.builtin "ValueError.__new__"), k5] := hs;rw [hs']
      subst hsl;exact ⟨bm, ns, nm, qn, bs, hd, sn, sub, ab, col, dd, k0, k1, k2, k3, k5, _, X _ _ ho, .of_isNs (PySem.W.isNs_of_in X hok), PySem.W.nsMap_none_of_in X hok hni, PySem.W.tail_of_in X ht, hmro⟩
section
variable {M : Model} {A : Around} {E : Value -> Shared -> Prop}
end
end L2
namespace L2
open PySem PySem.Spec PyProof.Rows
theorem PS.nox {X : Cx} {st : Stmt} {t : TS} (h : PS X.nox st t) : PS X st t := fun pins s σ H D I hw =>
  wpAny_mono (h pins s σ H D (I.wish _) hw) (fun _ _ z => z.unwish) fun _ _ z => z.elim
def tryXe (X : Cx) (pn : List (Addr × Obj)) (J : St -> Value -> Hp -> Prop) : Value -> Shared -> Prop := fun e s' =>
  ∃ pins σ H s, Inv { X with pn := pn, xe := fun _ _ => False } pins σ H s /\ CX1 X.prog X.w X.stack H s (fun c _ H' => J σ c H') e s'
abbrev tryCx (X : Cx) (pn : List (Addr × Obj)) (J : St -> Value -> Hp -> Prop) : Cx := { X with pn := pn, xe := tryXe X pn J }
def Takes (X : Cx) (J : St -> Value -> Hp -> Prop) : Prop := ∀ pins σ H s e s', Inv X pins σ H s -> CX1 X.prog X.w X.stack H s (fun c _ H' => J σ c H') e s' -> X.xe e s'
theorem k7 {X : Cx} {P : Program} {w : World} {K : Fg} {mg : Str -> Option Value} {base : Heap} {N : List Str} {qual : Str} {scope : Scope} {f : Addr} {cd : Value} {A : Around} {outer : List Env} {s0 : Shared} {H0 : Hp} {E : XK}
    (hX : X = cxOf (CX1 P w) P w K mg base N qual scope f cd A outer s0 H0 E) : Takes X (fun _ c H' => E c none H') := fun pins σ H s e s' I h => by
  have q := passX (X := X) (E1 := fun c _ H' => E c none H') hX (fun _ _ z => z) pins σ H s e s' I;subst hX;exact q h
structure FnAtX (P : Program) (w : World) (K : Fg) (mg : Str -> Option Value) (base : Heap) (name : Str) (k : Nat) (ps : List Str) (sp : Sp) : Prop where
  ex : ∃ f fd, mg name = some (.ref f) /\ PySem.W.keepIn K (.ref f) = true /\ Binds K fd ps [] /\ FnOk P w K mg base (CX1 P w) k f fd ps sp
theorem FnAtX.of {P : Program} {w : World} {K : Fg} {mg : Str -> Option Value} {base : Heap} {name : Str} {st : Stmt} {N ps : List Str} {k : Nat} {sp : Sp} (D : zc K mg name st ps) (S : zn N ps (zi st)) (len : ∀ vs H Q E, sp vs H Q E -> vs.length = ps.length)
    (hbody : ∀ (f : Addr) (cdv : Value) (A : Around) (outer : List Env) (s : Shared) (H : Hp) (vs : List V) (Q : VK) (E : XK), Room k (A.deeper (envOfC name (zi st) s.heap.objs.size f cdv)) -> sp vs H Q E ->
      ∃ t, PSs (cxOf (CX1 P w) P w K mg base N name (zi st) f cdv A outer s H E) (xh st) t /\ t { nx := fun _ H' => Q .non H', rt := Q } (start N vs) H) : FnAtX P w K mg base name (k + 1) ps sp := by
  obtain ⟨f, fd, hm, F, hb⟩ := D.ex;refine ⟨f, fd, hm, F.kp, hb, ?_⟩;obtain ⟨oc, od, kV, doc, pm, an, cdv, ct, osl, rfl, lk, hcd⟩ := F.ex;exact fn_of lk hcd S len (hbody f cdv)
section
variable {X : Cx} {x : Str} {k : Nat} {ps : List Str} {sp : Sp} {p pos : Pos} {e : Expr} {es : List Expr} {t : TA}
def ze7 (sp : Sp) (J : St -> Value -> Hp -> Prop) (t : TA) : TE := fun σ H Q => t σ H fun vs H1 => sp vs H1 Q fun c _ H' => J σ c H'
theorem zg8 {J : St -> Value -> Hp -> Prop} {σ : St} {H : Hp} {Q : VK} : ze7 sp J t σ H Q = t σ H fun vs H1 => sp vs H1 Q fun c _ H' => J σ c H' := rfl
theorem gm {J : St -> Value -> Hp -> Prop} (F : FnAtX X.prog X.w X.K X.mg X.base x k ps sp) (hr : Room k X.A) (hx : Takes X J) (hg : Gl X x) (ha : PA X (e :: es) t) (hdb : (x == ("__debug__" : Str)) = false := by decide) (he : starEach (e :: es) X.env = (false, eval e X.env) :: starEach es X.env := by rfl)
    (hpl : (backTo pos (starEach es X.env)).any (·.1) = false := by rfl) : PE X (.Call (.Name x p) (e :: es) [] pos) (ze7 sp J t) := by
  obtain ⟨f, fd, hm, hk, hb, G⟩ := F.ex;intro pins s σ H Q I h;refine wpAny_Call_Name_kw (j0 I hg hm ?_ hdb);refine PySem.W.callWith_K (h₀ := X.base) I.ok.mod.kin hk (thn (ha pos pins s σ H _ I h) fun us s1 ⟨vs, H1, I1, r, q⟩ => ⟨I1.kIn, ?_⟩) he hpl;have hl : (us ++ []).length = ps.length := by rw [Yb, <- r.length]; exact G.len _ _ _ _ q
  refine wpAny_call (codeAny_mono (G.run X.A X.stack s1 H1 ⟨us, []⟩ us vs Q _ hr I1.env0 (by have := hb s1 us I1.kIn hl; rw [Yb] at this; exact this) r q) fun r' s' hq => ?_)
  cases r' with
  | error e => exact hx pins σ H1 s1 e s' I1 hq
  | ok fl =>
    cases fl with
    | ret u => exact I1.after hq
    | next => exact False.elim hq
    | brk => exact False.elim hq
    | cont => exact False.elim hq
theorem ki (F : FnAtX X.prog X.w X.K X.mg X.base x k ps sp) (hr : Room k X.A) (hg : Gl X x) (ha : PA X (e :: es) t) (hdb : (x == ("__debug__" : Str)) = false := by decide) (he : starEach (e :: es) X.env = (false, eval e X.env) :: starEach es X.env := by rfl)
    (hpl : (backTo pos (starEach es X.env)).any (·.1) = false := by rfl) : PE X (.Call (.Name x p) (e :: es) [] pos) (bu sp [] E0 t) := by
  obtain ⟨f, fd, hm, hk, hb, G⟩ := F.ex;exact zbw G hr hg hm hk hb .nil pass1 ha hdb he hpl
end
section
variable {X : Cx} {C : Addr} {x : Str} {np cpos pos : Pos}
def zec (X : Cx) (C : Addr) (R : Hp -> Prop) : Prop := ∀ pins σ H s h' e args tk, Inv X pins σ H s -> Heap.MadeExcOf s.heap h' e (.ref C) args -> R H -> X.xe (.ref e) { s with heap := h', toks := tk }
theorem qc {P : Program} {w : World} {K : Fg} {mg : Str -> Option Value} {base : Heap} {N : List Str} {qual : Str} {scope : Scope} {f : Addr} {cd : Value} {A : Around} {outer : List Env} {s0 : Shared} {H0 : Hp} {E : XK}
    (hX : X = cxOf (CX1 P w) P w K mg base N qual scope f cd A outer s0 H0 E) : zec X C (fun H => E (.ref C) none H) := fun pins σ H s h' e args tk I hx hE => zae hX I hx hE tk
def zd5 (R : Hp -> Prop) (ta : TA) : TS := fun _ σ H => ta σ H fun vs H1 => vs.length <= sizeLine /\ R H1
theorem zhm {R : Hp -> Prop} {ta : TA} {D : Ends} {σ : St} {H : Hp} : zd5 R ta D σ H = ta σ H fun vs H1 => vs.length <= sizeLine /\ R H1 := rfl
theorem kj {e : Expr} {es : List Expr} {R : Hp -> Prop} {ta : TA} (hc : X.calm = true) (c : Err X.K C) (hg : Gl X x) (hm : X.mg x = some (.ref C)) (hr : zec X C R) (ha : PA X (e :: es) ta) (hdb : (x == ("__debug__" : Str)) = false := by decide)
    (he : starEach (e :: es) X.env = (false, eval e X.env) :: starEach es X.env := by rfl) (hpl : (backTo cpos (starEach es X.env)).any (·.1) = false := by rfl) :
    PS X (.Raise (some (.Call (.Name x np) (e :: es) [] cpos)) none pos) (zd5 R ta) := by
  intro pins s σ H D I h;obtain ⟨bm, N, nm, q, bs, hdct, sn, sub, ab, col, dd, k0, k1, k2, k3, k5, mN, hC, hN, hni, T, _⟩ := c.obj I.ok.mod.kin
  refine wpAny_Raise_call_subU (C := C) (nm := nm) (q := q) (N := N) (bs := bs) (bm := bm) (hdct := hdct) (sn := sn) (sub := sub) (ab := ab) (col := col) (dd := dd) (k0 := k0) (k1 := k1) (k2 := k2) (k3 := k3) (k5 := k5)
    PySem.F.excBase_ValueError (by decide +kernel) PySem.F.excBase_ValueError (mN := mN) (T.hasType PySem.F.excBase_ValueError.hasBase) (I.ok.hd hc) (by rw [he]; show (false || (backTo cpos (starEach es X.env)).any (·.1)) = false; rw [hpl]; rfl) hni (j0 I hg hm ⟨rfl, ?_⟩ hdb)
  have hrun := ha cpos pins s σ H _ I h;rw [he] at hrun ⊢;refine Calls.evalArgs_plain (wpAny_mono hrun (fun us s1 h1 => ?_) fun _ _ z => z);obtain ⟨vs, H1, I1, r1, hz, q1⟩ := h1;exact ⟨rfl, by rw [<- r1.length]; exact hz, I1.bk _ _ hC, hN.keeps I1.bk, T.keeps I1.bk, fun h' e hx => hr pins σ H1 s1 h' e us s1.toks I1 hx q1⟩
end
section
variable {X : Cx} {pins : List (Addr × Obj)} {σ : St} {H : Hp} {s : Shared}
def zea (i : Nat) (D : Ends) : Ends := { nx := fun σ H => D.nx (σ.set i none) H, rt := D.rt, bk := fun σ H => D.bk (σ.set i none) H, ct := fun σ H => D.ct (σ.set i none) H }
def tTryAs (K : Fg) (D0 : Addr) (i : Nat) (tb : (St -> Value -> Hp -> Prop) -> List (Addr × Obj) -> TS) (ts : Value -> TS) : TS := fun D σ H => ∃ J : St -> Value -> Hp -> Prop, (∀ pn, tb J pn D σ H) /\
  ∀ σ1 c H1, J σ1 c H1 -> ∃ C, c = .ref C /\ Err K C /\ PySem.W.mroIn K C (.ref D0) = some true /\ ∀ e ea, H1 ea = none -> ts e (zea i D) (σ1.set i (some (.ref ea))) (upd H1 ea (ExcO ea C))
def tTry0 (K : Fg) (D0 : Addr) (tb : (St -> Value -> Hp -> Prop) -> List (Addr × Obj) -> TS) (ts : Value -> TS) : TS := fun D σ H => ∃ J : St -> Value -> Hp -> Prop, (∀ pn, tb J pn D σ H) /\
  ∀ σ1 c H1, J σ1 c H1 -> ∃ C, c = .ref C /\ Err K C /\ PySem.W.mroIn K C (.ref D0) = some true /\ ∀ e, ts e D σ1 H1
theorem suK {e : Value} : (X.suite e).K = X.K := rfl
theorem noxK : X.nox.K = X.K := rfl
theorem tryK {pn : List (Addr × Obj)} {J : St -> Value -> Hp -> Prop} : (tryCx X pn J).K = X.K := rfl
theorem zhv {K : Fg} {D0 : Addr} {i : Nat} {tb : (St -> Value -> Hp -> Prop) -> List (Addr × Obj) -> TS} {ts : Value -> TS} {D : Ends} : tTryAs K D0 i tb ts D σ H = ∃ J : St -> Value -> Hp -> Prop, (∀ pn, tb J pn D σ H) /\
  ∀ σ1 c H1, J σ1 c H1 -> ∃ C, c = .ref C /\ Err K C /\ PySem.W.mroIn K C (.ref D0) = some true /\ ∀ e ea, H1 ea = none -> ts e (zea i D) (σ1.set i (some (.ref ea))) (upd H1 ea (ExcO ea C)) := rfl
theorem e_try0 {K : Fg} {D0 : Addr} {tb : (St -> Value -> Hp -> Prop) -> List (Addr × Obj) -> TS} {ts : Value -> TS} {D : Ends} : tTry0 K D0 tb ts D σ H = ∃ J : St -> Value -> Hp -> Prop, (∀ pn, tb J pn D σ H) /\
  ∀ σ1 c H1, J σ1 c H1 -> ∃ C, c = .ref C /\ Err K C /\ PySem.W.mroIn K C (.ref D0) = some true /\ ∀ e, ts e D σ1 H1 := rfl
end
end L2
namespace L2
open PySem PySem.Spec PyProof.Rows
structure ErrQ (K : Fg) (C : Addr) : Prop extends Err K C where
  ga : PySem.W.findIn K (.ref C) "__getattribute__" = some (some (.builtin "BaseException.__getattribute__"))
  gn : PySem.W.findIn K (.ref C) "__getattr__" = some none
  gc : PySem.W.findIn K (.ref C) "__class__" = some (some (.builtin "object.__class__"))
section
variable {prog : Program} {w : World} {A : Around} {E : Value -> Shared -> Prop} {h : Heap} {g : Array GenState} {d : Drawn} {t : Nat} {os : OsState} {a C : Addr} {o : Obj} {K : Fg}
end
section
variable {X : Cx} {pins : List (Addr × Obj)} {σ : St} {H : Hp} {s : Shared}
end
theorem zaf {K : Fg} {h : Heap} {mg : Str -> Option Value} (X : K.In h) (G : h.Ns mainGlobals mg) {name : Str} {C : Addr} (e : PySem.W.nsIn K mainGlobals name = some (some (.ref C))) (q : PySem.W.excIn K C VE "ValueError.__new__" = true)
    (g1 : PySem.W.findIn K (.ref C) "__getattribute__" = some (some (.builtin "BaseException.__getattribute__"))) (g2 : PySem.W.findIn K (.ref C) "__getattr__" = some none) (g3 : PySem.W.findIn K (.ref C) "__class__" = some (some (.builtin "object.__class__"))) :
    mg name = some (.ref C) /\ ErrQ K C := ⟨PySem.W.mg_of X G e, ⟨⟨q⟩, g1, g2, g3⟩⟩
theorem Same.seqT {K : Fg} {H H' : Hp} {a : Addr} {xs : List V} (e : Same H H') (h : SqT K H a xs) : SqT K H' a xs := by
  rcases h with (h | ⟨o, h⟩) | h
  . exact .inl (.inl (e _ _ h))
  . exact .inl (.inr ⟨o, e _ _ h⟩)
  . exact .inr h
end L2
namespace L2
open PySem PySem.Spec PyProof.Rows
inductive Tr where
  | lf (v : V) | ls (ts : List Tr) | tp (ts : List Tr)
mutual
def TrAt (K : Fg) (H : Hp) : Tr -> V -> Prop
  | .lf v, x => x = v /\ wb v = true
  | .ls ts, x => ∃ a xs, x = .ref a /\ SqL K H a xs /\ g8 K H ts xs
  | .tp ts, x => ∃ a xs, x = .ref a /\ SqT K H a xs /\ g8 K H ts xs
def g8 (K : Fg) (H : Hp) : List Tr -> List V -> Prop
  | [], xs => xs = []
  | t :: ts, xs => ∃ y ys, xs = y :: ys /\ TrAt K H t y /\ g8 K H ts ys
end
mutual
def eqTr : Tr -> Tr -> Bool
  | .lf v, .lf w => eqV v w
  | .ls ts, .ls us => zdk ts us
  | .tp ts, .tp us => zdk ts us
  | _, _ => false
def zdk : List Tr -> List Tr -> Bool
  | [], [] => true
  | t :: ts, u :: us => eqTr t u && zdk ts us
  | _, _ => false
end
mutual
def deep : Tr -> Nat
  | .lf _ => 0
  | .ls ts => da ts + 1
  | .tp ts => da ts + 1
def da : List Tr -> Nat
  | [] => 0
  | t :: ts => max (deep t) (da ts)
end
section
variable {X : Cx} {pins : List (Addr × Obj)} {σ : St} {H : Hp} {s : Shared}
end
section
variable {X : Cx}
def SameK : Tr -> Tr -> Prop
  | .ls _, .ls _ => True
  | .tp _, .tp _ => True
  | _, _ => False
def rEqD (K : Fg) (n : Nat) (neg : Bool) (x y : V) (H : Hp) (Q : VK) : Prop := ∃ t t', SameK t t' /\ TrAt K H t x /\ TrAt K H t' y /\ deep t <= n /\ deep t' <= n /\ Q (.bl (neg ^^ eqTr t t')) H
end
section
variable {X : Cx} {pins : List (Addr × Obj)} {σ : St} {H : Hp} {s : Shared}
open Classical in
end
section
variable {X : Cx}
def inTr (t : Tr) (ts : List Tr) : Bool := ts.any fun u => eqTr u t
def rInD (K : Fg) (n : Nat) (neg : Bool) : R2 := fun x y H Q => ∃ p xs ts t, y = .ref p /\ (SqL K H p xs \/ SqT K H p xs) /\ g8 K H ts xs /\ TrAt K H t x /\ deep t <= n /\ da ts <= n /\ Q (.bl (neg ^^ inTr t ts)) H
end
theorem e_eqD {K : Fg} {n : Nat} {neg : Bool} {x y : V} {H : Hp} {Q : VK} : rEqD K n neg x y H Q = ∃ t t', SameK t t' /\ TrAt K H t x /\ TrAt K H t' y /\ deep t <= n /\ deep t' <= n /\ Q (.bl (neg ^^ eqTr t t')) H := rfl
theorem e_inD {K : Fg} {n : Nat} {neg : Bool} {x y : V} {H : Hp} {Q : VK} : rInD K n neg x y H Q = ∃ p xs ts t, y = .ref p /\ (SqL K H p xs \/ SqT K H p xs) /\ g8 K H ts xs /\ TrAt K H t x /\ deep t <= n /\ da ts <= n /\ Q (.bl (neg ^^ inTr t ts)) H := rfl
end L2
namespace L2
open PySem PySem.Spec PyProof.Rows
def chr1 (c : Nat) : Str := ⟨#[c]⟩
def Itw (x : Str) : It := ⟨fun i _ => i < x.cps.size, fun i H v H' => H' = H /\ ∃ c, x.cps[i]? = some c /\ v = .str (chr1 c), fun i _ => x.cps.size <= i⟩
theorem zew {P : Program} {w : World} {K : Fg} {tg : Expr} (it : Addr) (x : Str) (t : Tok) : Turn P w K tg (Itw x) [it] it (fun i h => h.IsStrIter it "str_ascii_iterator" x t i) where
  mem := by simp
  obj := fun i h st b hb => by
    have e : b = it := by simpa using hb
    subst e;obtain ⟨o, e, c, d⟩ := st;exact ⟨o, e, fun v z => by rw [d] at z; cases z⟩
  keep := fun i h h' st k => by
    obtain ⟨o, e, r⟩ := st;exact ⟨o, k it (by simp) o e, r⟩
  item := by
    intro X hP hw hK hc i pins s σ H E I hf st hg;subst hP hw hK;have hi : i < x.cps.size := hg;obtain ⟨f0, f1, f2, f3, f4, f5⟩ := hf it (by simp);refine wpAny_pyNext_ascii_item st (c := x.cps[i]) (by simp [hi]) fun h' st' sb => ?_
    have I1 : Inv X pins σ H { s with heap := h', toks := s.toks + 1 } := I.turned (t' := s.toks + 1) (fun b o hb e => (sb.2 b hb).trans e) f0 f1 f3 f4 f5;obtain ⟨o, e, c, d⟩ := id st';exact ⟨_, rfl, fh (s := { s with heap := h', toks := s.toks + 1 }) e c d (by decide) ⟨.str (chr1 x.cps[i]), H, I1, ⟨_, rfl⟩, ⟨rfl, _, by simp [hi], rfl⟩, st', fun b hb => (hf b hb).1⟩⟩
  done := by
    intro X hP hw hK hc i pins s σ H E I hf st hg;subst hP hw hK;have hi : x.cps.size <= i := hg;obtain ⟨f0, f1, f2, f3, f4, f5⟩ := hf it (by simp);exact wpAny_pyNext_ascii_end (I.ok.hd hc) st (by simp [hi]) fun h' eb => ⟨rfl, I.turned (t' := s.toks) (fun b o hb e => eb b o hb e) f0 f1 f3 f4 f5⟩
  self := fun _ _ _ _ _ st h => wpAny_pyIter_striter_ascii st h
theorem ze0 {P : Program} {w : World} {K : Fg} {tg : Expr} (it : Addr) (x : Str) (t : Tok) : Turn P w K tg (Itw x) [it] it (fun i h => h.IsStrIter it "str_iterator" x t i) where
  mem := by simp
  obj := fun i h st b hb => by
    have e : b = it := by simpa using hb
    subst e;obtain ⟨o, e, c, d⟩ := st;exact ⟨o, e, fun v z => by rw [d] at z; cases z⟩
  keep := fun i h h' st k => by
    obtain ⟨o, e, r⟩ := st;exact ⟨o, k it (by simp) o e, r⟩
  item := by
    intro X hP hw hK hc i pins s σ H E I hf st hg;subst hP hw hK;have hi : i < x.cps.size := hg;obtain ⟨f0, f1, f2, f3, f4, f5⟩ := hf it (by simp);refine wpAny_pyNext_wide_item st (c := x.cps[i]) (by simp [hi]) fun h' st' sb => ?_
    have I1 : Inv X pins σ H { s with heap := h', toks := s.toks + 1 } := I.turned (t' := s.toks + 1) (fun b o hb e => (sb.2 b hb).trans e) f0 f1 f3 f4 f5;obtain ⟨o, e, c, d⟩ := id st';exact ⟨_, rfl, fh (s := { s with heap := h', toks := s.toks + 1 }) e c d (by decide) ⟨.str (chr1 x.cps[i]), H, I1, ⟨_, rfl⟩, ⟨rfl, _, by simp [hi], rfl⟩, st', fun b hb => (hf b hb).1⟩⟩
  done := by
    intro X hP hw hK hc i pins s σ H E I hf st hg;subst hP hw hK;have hi : x.cps.size <= i := hg;obtain ⟨f0, f1, f2, f3, f4, f5⟩ := hf it (by simp);exact wpAny_pyNext_wide_end (I.ok.hd hc) st (by simp [hi]) fun h' eb => ⟨rfl, I.turned (t' := s.toks) (fun b o hb e => eb b o hb e) f0 f1 f3 f4 f5⟩
  self := fun _ _ _ _ _ st h => wpAny_pyIter_striter_wide st h
def iStr (a : TE) : TI := fun σ H R => a σ H fun x H1 => ∃ z, x = .str z /\ R (Itw z) H1
theorem pi_str {X : Cx} {tg l : Expr} {tl : TE} (hl : PE X l tl) : PI X tg l (iStr tl) := by
  intro pins s σ H R I h;refine thn (hl pins s σ H _ I h) fun v s1 ⟨x, H1, I1, r1, q1⟩ => ?_
  obtain ⟨z, e, q⟩ := q1;subst e;obtain ⟨t, rfl⟩ := r1;refine wpAny_pyIter_strU ?_
  have fin : ∀ {tn : Nat -> Heap -> Prop}, Turn X.prog X.w X.K tg (Itw z) [s1.heap.objs.size] s1.heap.objs.size tn -> tn 0 (s1.heap.push { cls := .type (strIterType z), data := .fields #[.str z t, .int 0 0] }) ->
      PIE X pins σ tg R (.ref s1.heap.objs.size) { s1 with heap := s1.heap.push { cls := .type (strIterType z), data := .fields #[.str z t, .int 0 0] } } := fun {tn} T h0 => by
    refine ⟨s1.heap.objs.size, [s1.heap.objs.size], _, _, H1, rfl, I1.kept (t' := s1.toks) fun b o e => Heap.get?_push_of_some _ e, T, h0, fun b hb => ?_, q⟩;have e : b = s1.heap.objs.size := by simpa using hb
    subst e;exact I1.fpOk (Zm _) (I1.hok.fresh (Zm _))
  cases ha : z.cps.all (· < 128) with
  | true =>
    have e : strIterType z = "str_ascii_iterator" := by simp [strIterType, ha]
    refine fin (zew _ z t) ?_;exact ⟨_, Heap.get?_push_size _ rfl, by rw [e], rfl⟩
  | false =>
    have e : strIterType z = "str_iterator" := by simp [strIterType, ha]
    refine fin (ze0 _ z t) ?_;exact ⟨_, Heap.get?_push_size _ rfl, by rw [e], rfl⟩
theorem e_iStr {a : TE} {σ : St} {H : Hp} {R : It -> Hp -> Prop} : iStr a σ H R = a σ H fun x H1 => ∃ z, x = .str z /\ R (Itw z) H1 := rfl
def xp (z : Str) (n : Nat) : Str := ⟨(List.replicate n z.cps.toList).flatten.toArray⟩
theorem zeu : ∀ (n : Nat) (a acc : Array Nat), (List.replicate n a).foldl (· ++ ·) acc = acc ++ (List.replicate n a.toList).flatten.toArray := by
  intro n
  induction n with
  | zero => intro a acc; simp
  | succ n ih =>
    intro a acc;rw [YG, YO, ih, YG, List.flatten_cons]
    apply Array.ext'
    simp
theorem mul_is (z : Str) (n : Int) : Txt.mul z n = xp z n.toNat := by
  unfold Txt.mul xp
  by_cases h : n < 1
  . rw [if_pos h, show n.toNat = 0 by omega]; rfl
  . rw [if_neg h]
    by_cases h2 : (n == 1 || z.length == 0) = true
    . rw [if_pos h2]
      rcases Bool.or_eq_true _ _ ▸ h2 with q | q
      . have : n = 1 := by simpa using q
        subst this
        show z = _
        have : (1 : Int).toNat = 1 := rfl;rw [this];simp
      . have e : z.cps.size = 0 := by simpa [Str.length] using q
        have e2 : z.cps = #[] := Array.eq_empty_of_size_eq_zero e;obtain ⟨c⟩ := z;simp only at e2;subst e2;simp
    . rw [if_neg h2, zeu]
      simp
section
variable {X : Cx}
def rMulS : R2 := fun x y H Q => ∃ z n, x = .str z /\ y = .int n /\ -(2 ^ 62) <= n /\ n < 2 ^ 31 /\ z.length * n.toNat <= 2 ^ 20 /\ Q (.str (xp z n.toNat)) H
theorem dq : OpR X (binaryOp .Mult) rMulS := by
  intro pins s σ H x y v u Q I rx ry h;obtain ⟨z, n, rfl, rfl, h1, h2, h3, q⟩ := h;obtain ⟨t, rfl⟩ := rx;obtain ⟨t', rfl⟩ := ry;refine SB.mul ⟨?_, fun h4 h5 => ?_, fun h4 h5 => ?_⟩ fun tk k => ?_
  . rw [decide_eq_false (by omega), decide_eq_false (by omega)]; rfl
  . intro h6
    have h7 : (z.length : Int) * n <= 2 ^ 20 := by
      have : ((z.length * n.toNat : Nat) : Int) <= ((2 ^ 20 : Nat) : Int) := by exact_mod_cast h3
      rw [Int.natCast_mul, Int.toNat_of_nonneg (by omega)] at this;exact this
    have h8 : (2 ^ 63 - 1 : Int) / n * n <= z.length * n := Int.mul_le_mul_of_nonneg_right (by omega) (by omega);have h9 := Int.emod_add_mul_ediv (2 ^ 63 - 1 : Int) n;have h10 : (2 ^ 63 - 1 : Int) % n < n := Yi _ (by omega);rw [Int.mul_comm] at h8;omega
  . have : z.length * n.toNat <= sizeLine := Zd h3 (by decide)
    show decide (z.length * n.toNat > sizeLine) = false
    exact decide_eq_false (by omega)
  . rw [mul_is]
    exact ⟨.str (xp z n.toNat), H, I.tok _, ⟨_, rfl⟩, q⟩
theorem e_mulS {x y : V} {H : Hp} {Q : VK} : rMulS x y H Q = ∃ z n, x = .str z /\ y = .int n /\ -(2 ^ 62) <= n /\ n < 2 ^ 31 /\ z.length * n.toNat <= 2 ^ 20 /\ Q (.str (xp z n.toNat)) H := rfl
end
theorem hu9 {A : Around} {k : Nat} (hr : Room k A) : A.units + 1 + 8 <= cLine := by have := hr.un; omega
theorem e_ixS {x y : V} {H : Hp} {Q : VK} : rIxS x y H Q = ∃ z i c, x = .str z /\ y = .int i /\ z.length <= sizeLine /\ atI z.cps.toList i = some c /\ Q (.str ⟨#[c]⟩) H := rfl
theorem e_rev {x : V} {vs : List V} {H : Hp} {Q : VK} : zfo x vs H Q = ∃ l xs, x = .ref l /\ vs = [] /\ H l = some (.lst xs) /\ Q .non (upd H l (.lst xs.reverse)) := rfl
theorem zg4 {x : V} {vs : List V} {H : Hp} {Q : VK} : rClear x vs H Q = ∃ l xs, x = .ref l /\ vs = [] /\ H l = some (.lst xs) /\ Q .non (upd H l (.lst [])) := rfl
theorem zgv {x : V} {vs : List V} {H : Hp} {Q : VK} : rPopAt x vs H Q = ∃ l xs i k y, x = .ref l /\ vs = [.int i] /\ H l = some (.lst xs) /\ -(2 ^ 63) <= i /\ i < 2 ^ 63 /\ seqIndex? i xs.length = some k /\ xs[k]? = some y /\ Q y (upd H l (.lst (xs.eraseIdx k))) := rfl
theorem e_iT {K : Fg} {a : TE} {σ : St} {H : Hp} {R : It -> Hp -> Prop} : iTup K a σ H R = a σ H fun x H1 => ∃ p, x = .ref p /\ (∃ xs, SqT K H1 p xs) /\ R (Itt K p) H1 := rfl
section
variable {X : Cx}
def rJoin (K : Fg) : V -> List V -> Hp -> VK -> Prop := fun x vs H Q => ∃ sep b texts, x = .str sep /\ vs = [.ref b] /\ SqL K H b (texts.map V.str) /\ JoinOk sep texts = true /\ Q (.str (Txt.join sep texts)) H
theorem e_join {K : Fg} {x : V} {vs : List V} {H : Hp} {Q : VK} : rJoin K x vs H Q = ∃ sep b texts, x = .str sep /\ vs = [.ref b] /\ SqL K H b (texts.map V.str) /\ JoinOk sep texts = true /\ Q (.str (Txt.join sep texts)) H := rfl
end
section
variable {σ : St} {k : Nat} {g : TG} {tt : TT} {te : TE} {H1 : Hp} {Fin : List V -> Hp -> Prop}
theorem kc {K : Fg} {a : Addr} {xs : List V} (Pv : Nat -> List V -> Hp -> Prop) (h0 : Pv 0 [] H1) (hz : ∀ i ys H, i <= xs.length -> Pv i ys H -> ys.length <= sizeLine /\ SqT K H a xs)
    (hs : ∀ i x ys H, xs[i]? = some x -> Pv i ys H -> g x (List.replicate k none ++ σ) H fun σ2 H2 => σ2.drop k = σ /\ tt σ2 H2 fun b H3 => if b = true then te σ2 H3 fun v H4 => Pv (i + 1) (ys ++ [v]) H4 else Pv (i + 1) ys H3)
    (hd : ∀ ys H, Pv xs.length ys H -> Fin ys H) : sj (Itt K a) σ k g tt te H1 Fin := by
  refine ⟨fun i m ys H => m = xs.length - i /\ i <= xs.length /\ Pv i ys H, ⟨xs.length, by simp, ZE _, h0⟩, ?_⟩
  rintro i m ys H ⟨rfl, hi, p⟩
  have q := (hz i ys H hi p).2;refine ⟨(hz i ys H hi p).1, ?_⟩
  by_cases hlt : i < xs.length
  . refine .inr ⟨⟨xs, xs[i], q, by simp [hlt]⟩, Pv (i + 1), fun ys' H' p' => ⟨xs.length - (i + 1), by omega, rfl, hlt, p'⟩, fun x H' y => ?_⟩
    obtain ⟨e, y⟩ := y;subst e;exact hs i x ys _ (y xs q) p
  . have e : i = xs.length := by omega
    subst e;exact .inl ⟨⟨xs, q, Zm _⟩, hd ys H p⟩
end
theorem yj {e : Expr} {es : List Expr} {env : Env} (h : ∀ e' p, e ≠ .Starred e' p) : starEach (e :: es) env = (false, eval e env) :: starEach es env := by
  cases e <;> first | rfl | exact absurd rfl (h _ _)
def iSeq (K : Fg) (tl : TE) : TI := fun σ H R => tl σ H fun x H1 => ∃ a, x = .ref a /\ (((∃ xs, SqL K H1 a xs) /\ R (Itl K a) H1) \/ ((∃ xs, SqT K H1 a xs) /\ R (Itt K a) H1))
theorem e_iSeq {K : Fg} {tl : TE} {σ : St} {H : Hp} {R : It -> Hp -> Prop} : iSeq K tl σ H R = tl σ H fun x H1 => ∃ a, x = .ref a /\ (((∃ xs, SqL K H1 a xs) /\ R (Itl K a) H1) \/ ((∃ xs, SqT K H1 a xs) /\ R (Itt K a) H1)) := rfl
section
variable {X : Cx}
def rTupL (K : Fg) : List V -> Hp -> VK -> Prop := fun xs H Q => ∃ p ys, xs = [.ref p] /\ SqL K H p ys /\ ∀ l, H l = none -> Q (.ref l) (upd H l (.tup ys))
theorem qj : ue X (.type "tuple") (rTupL X.K) := fun pins s σ H xs us Q I r h => by
  obtain ⟨p, ys, e, hq, q⟩ := h;exact bn pins s σ H xs us Q I r ⟨p, ys, e, .inl ⟨hq, q⟩⟩
theorem e_tupL {K : Fg} {xs : List V} {H : Hp} {Q : VK} : rTupL K xs H Q = ∃ p ys, xs = [.ref p] /\ SqL K H p ys /\ ∀ l, H l = none -> Q (.ref l) (upd H l (.tup ys)) := rfl
end
theorem e_disp {trs : List (TE × TE)} {σ : St} {H : Hp} {Q : VK} : tDisp trs σ H Q = ∀ p, H p = none -> m7 trs σ (upd H p (.dK [])) fun ps H2 => H2 p = some (.dK []) /\ ∃ kvs : List (Key × V), ps = kvs.map (fun kv => (kV kv.1, kv.2)) /\ kvs.length <= 15 /\ Q (.ref p) (upd H2 p (.dK (zfh [] kvs))) := rfl
theorem zfu {σ : St} {H : Hp} {Q : List (V × V) -> Hp -> Prop} : m7 [] σ H Q = Q [] H := rfl
theorem zgp {tk tv : TE} {r : List (TE × TE)} {σ : St} {H : Hp} {Q : List (V × V) -> Hp -> Prop} : m7 ((tk, tv) :: r) σ H Q = tk σ H fun x H1 => tv σ H1 fun y H2 => m7 r σ H2 fun ps H3 => Q ((x, y) :: ps) H3 := rfl
end L2
namespace L2
open PySem PySem.Spec PyProof.Rows
section
variable {X : Cx}
def rMinL (K : Fg) (xs : List V) (H : Hp) (Q : VK) : Prop := ∃ (p : Addr) (ns : List Int), xs = [.ref p] /\ SqL K H p (ns.map V.int) /\ 0 < ns.length /\ ∀ m, m ∈ ns -> (∀ a ∈ ns, m <= a) -> Q (.int m) H
def rMaxL (K : Fg) (xs : List V) (H : Hp) (Q : VK) : Prop := ∃ (p : Addr) (ns : List Int), xs = [.ref p] /\ SqL K H p (ns.map V.int) /\ 0 < ns.length /\ ∀ m, m ∈ ns -> (∀ a ∈ ns, a <= m) -> Q (.int m) H
theorem e_minL {K : Fg} {xs : List V} {H : Hp} {Q : VK} : rMinL K xs H Q = ∃ (p : Addr) (ns : List Int), xs = [.ref p] /\ SqL K H p (ns.map V.int) /\ 0 < ns.length /\ ∀ m, m ∈ ns -> (∀ a ∈ ns, m <= a) -> Q (.int m) H := rfl
theorem e_maxL {K : Fg} {xs : List V} {H : Hp} {Q : VK} : rMaxL K xs H Q = ∃ (p : Addr) (ns : List Int), xs = [.ref p] /\ SqL K H p (ns.map V.int) /\ 0 < ns.length /\ ∀ m, m ∈ ns -> (∀ a ∈ ns, a <= m) -> Q (.int m) H := rfl
theorem ml (hc : X.calm = true) : ue X (.builtin "min") (rMinL X.K) := by
  intro pins s σ H xs us Q I r h;obtain ⟨p, ns, rfl, hq, hne, q⟩ := h;obtain ⟨u, rfl, rx⟩ := Vals.one r;cases rx;obtain ⟨its, rv, pl, hz⟩ := I.list hq;have hi : IntsAre its ns := fr rv;obtain ⟨zs, hx⟩ := hi.allInts.items;have hl' : s.heap.IsList p (intItems zs) := hx ▸ pl.isList
  have hns : ns = zs.toList.map (·.1) := by
    rw [<- nums_intItems, <- hx];exact (show numsOf its.toArray.toList = ns from hi.numsOf).symm
  have hsz : 0 < zs.size := by
    have h3 := hne; rw [hns, Za, ZM] at h3; exact h3
  refine min_intList (I.ok.hd hc) hl' hsz fun v h' tk hv hk => ?_
  obtain ⟨t, rfl⟩ := intItems_at hv;obtain ⟨h1, h2⟩ := argBest_lt (numAt zs) (zs.size - 1);refine ⟨V.int _, H, I.kept hk, ⟨_, rfl⟩, q _ ?_ fun a ha => ?_⟩
  . rw [hns, numAt_eq]; exact getD_mem (by rw [Za, ZM]; omega)
  . rw [hns] at ha
    obtain ⟨j, hj, rfl⟩ := mem_getD ha;rw [Za, ZM] at hj;rw [<- numAt_eq]; exact h2 j (by omega)
theorem d9 (hc : X.calm = true) : ue X (.builtin "max") (rMaxL X.K) := by
  intro pins s σ H xs us Q I r h;obtain ⟨p, ns, rfl, hq, hne, q⟩ := h;obtain ⟨u, rfl, rx⟩ := Vals.one r;cases rx;obtain ⟨its, rv, pl, hz⟩ := I.list hq;have hi : IntsAre its ns := fr rv;obtain ⟨zs, hx⟩ := hi.allInts.items;have hl' : s.heap.IsList p (intItems zs) := hx ▸ pl.isList
  have hns : ns = zs.toList.map (·.1) := by
    rw [<- nums_intItems, <- hx];exact (show numsOf its.toArray.toList = ns from hi.numsOf).symm
  have hsz : 0 < zs.size := by
    have h3 := hne; rw [hns, Za, ZM] at h3; exact h3
  refine max_intList (I.ok.hd hc) hl' hsz fun v h' tk hv hk => ?_
  obtain ⟨t, rfl⟩ := intItems_at hv;obtain ⟨h1, h2⟩ := argBest_gt (numAt zs) (zs.size - 1);refine ⟨V.int _, H, I.kept hk, ⟨_, rfl⟩, q _ ?_ fun a ha => ?_⟩
  . rw [hns, numAt_eq]; exact getD_mem (by rw [Za, ZM]; omega)
  . rw [hns] at ha
    obtain ⟨j, hj, rfl⟩ := mem_getD ha;rw [Za, ZM] at hj;rw [<- numAt_eq]; exact h2 j (by omega)
end
end L2
namespace L2
open PySem PySem.Spec PyProof.Rows
section
variable {prog : Program} {w : World} {A : Around} {E : Value -> Shared -> Prop} {s : Shared}
end
section
variable {X : Cx}
def zfr (K : Fg) (t : TA) : TE := fun σ H Q => t σ H fun vs H1 => ∃ p xs, vs = [.ref p] /\ SqL K H1 p xs /\ ∀ l, H1 l = none -> Q (.ref l) (upd H1 l (.lst xs.reverse))
theorem zez {K : Fg} {t : TA} {σ : St} {H : Hp} {Q : VK} : zfr K t σ H Q = t σ H fun vs H1 => ∃ p xs, vs = [.ref p] /\ SqL K H1 p xs /\ ∀ l, H1 l = none -> Q (.ref l) (upd H1 l (.lst xs.reverse)) := rfl
def zgf (t : TA) : TE := fun σ H Q => t σ H fun vs H1 => ∃ j : Nat, vs = [.int j] /\ j <= 1000 /\ ∀ l, H1 l = none -> Q (.ref l) (upd H1 l (.lst (((List.range j).map fun i : Nat => ((i : Nat) : Int)).map V.int)))
theorem ze1 {t : TA} {σ : St} {H : Hp} {Q : VK} : zgf t σ H Q = t σ H fun vs H1 => ∃ j : Nat, vs = [.int j] /\ j <= 1000 /\ ∀ l, H1 l = none -> Q (.ref l) (upd H1 l (.lst (((List.range j).map fun i : Nat => ((i : Nat) : Int)).map V.int))) := rfl
end
end L2
namespace L2
open PySem PySem.Spec PyProof.Rows
def seen (val : Nat -> Str) : Nat -> List Str
  | 0 => []
  | i + 1 => if val i ∈ seen val i then seen val i else seen val i ++ [val i]
theorem ar (val : Nat -> Str) : ∀ i, (seen val i).length <= i
  | 0 => Zm _
  | i + 1 => by
    have := ar val i;unfold seen
    split
    . omega
    . rw [Zo, Yk]; omega
theorem zf5 (val : Nat -> Str) (i : Nat) (k : Str) : (decide (k ∈ seen val i) || decide (k = val i)) = decide (k ∈ seen val (i + 1)) := by
  conv => rhs; unfold seen
  split
  . rename_i h
    by_cases e : k = val i
    . subst e; simp [h]
    . simp [e]
  . simp
theorem zcx (val : Nat -> Str) (i : Nat) : (if decide (val i ∈ seen val i) = true then (seen val i).length else (seen val i).length + 1) = (seen val (i + 1)).length := by
  conv => rhs; unfold seen
  by_cases h : val i ∈ seen val i
  . simp [h]
  . simp [h]
section
variable {prog : Program} {w : World} {A : Around} {R : Result -> Shared -> Prop} {I : Addr} {fp wr : List Addr} {G : Array GenState -> Array GenState -> Prop} {n : Nat} {P : Nat -> Value -> Prop} {St : Nat -> Shared -> Prop}
theorem a7 (W : WalksS prog w A.in1 I fp wr G n P St) (T : Addr) (hT : T ∉ fp) (val : Nat -> Str) (hval : ∀ i v, P i v -> ∃ t, v = .str (val i) t) (hb : n + 1 < scanBound) :
    ∀ (k i : Nat) (s : Shared), n - i = k -> i <= n -> St i s -> s.heap.SetOf (PySem.strKind prog w) T (fun k' => decide (k' ∈ seen val i)) (seen val i).length ->
      (∀ s', Moved (T :: wr) G s s' -> s'.heap.SetOf (PySem.strKind prog w) T (fun k' => decide (k' ∈ seen val n)) (seen val n).length -> R (.ok (.ret .none)) s') ->
      codeAny (model prog w) A (.builtin "set.update.loop" ⟨[.ref T, .ref I], []⟩) R s := by
  have hTw : T ∉ wr := fun h => hT (W.sub _ h)
  have sub : ∀ b ∈ wr, b ∈ T :: wr := fun b h => Zv _ h
  intro k
  induction k with
  | zero =>
    intro i s hk hi hst hS hR;obtain rfl : i = n := by omega
    refine codeAny_builtin PyProof.Rows.F.entry_set_update_loop ?_;rw [Around.under_plainId PyProof.Rows.F.plain_set_update_loop _]
    show wpAny _ A.in1 (pyNext (.ref I) >>= _) _ _ s
    refine wpAny_bind (W.done s _ _ hst fun s' hm => ?_);refine wpAny_pure (hR s' (hm.mono sub) ?_);obtain ⟨o, es, ep, t, ho, r⟩ := hS;exact ⟨o, es, ep, t, hm.heap T _ hTw ho, r⟩
  | succ k ih =>
    intro i s hk hi hst hS hR;have hlt : i < n := by omega
    refine codeAny_builtin PyProof.Rows.F.entry_set_update_loop ?_;rw [Around.under_plainId PyProof.Rows.F.plain_set_update_loop _]
    show wpAny _ A.in1 (pyNext (.ref I) >>= _) _ _ s
    refine wpAny_bind (W.item i s _ _ hlt hst fun v s' hP hst' hm => ?_);obtain ⟨t, rfl⟩ := hval i v hP
    have hS' : s'.heap.SetOf (PySem.strKind prog w) T (fun k' => decide (k' ∈ seen val i)) (seen val i).length := by
      obtain ⟨o, es, ep, tb, ho, r⟩ := hS;exact ⟨o, es, ep, tb, hm.heap T _ hTw ho, r⟩
    show wpAny _ A.in1 (holding [Value.str (val i) t] (setAdd T (.str (val i) t)) >>= _) _ _ s'
    refine wpAny_bind (wpAny_holding ?_);unfold setAdd;refine wpAny_holding (wpAny_bind ((PySem.strKind prog w).pyHash (k := val i) (strKind_is _ _ _ _) ?_));have room : (seen val i).length + 1 < scanBound := by have := ar val i; omega
    refine wpAny_setAddHashed_of (knd := PySem.strKind prog w) (s := { s' with toks := s'.toks + 1 }) (strKind_is _ _ _ _) rfl hS' room fun h' hsb hS2 => ?_
    have hSi : h'.SetOf (PySem.strKind prog w) T (fun k' => decide (k' ∈ seen val (i + 1))) (seen val (i + 1)).length := by
      have e1 := zcx val i;have e2 : (fun k' => decide (k' ∈ seen val (i + 1))) = fun k' => (decide (k' ∈ seen val i) || decide (k' = val i)) := funext fun k' => (zf5 val i k').symm
      rw [<- e1, e2];exact hS2
    refine wpAny_pure ⟨plainId_quiet PyProof.Rows.F.plain_set_update_loop _, ih (i + 1) _ (by omega) hlt (W.frame _ s' _ _ hst' (Ys _) fun b hb o e => ?_) hSi fun s2 hm2 hS2' => ?_⟩
    . rw [hsb.2 b (fun z : b = T => hT (z ▸ hb))]; exact e
    . refine hR s2 (Moved.trans W.gtrans ((hm.mono sub).then_heap (Ys _) fun b o hb e => ?_) hm2) hS2'
      rw [hsb.2 b (fun z : b = T => hb (z ▸ ZA))]; exact e
end
abbrev setO (led : Bool) : Obj := { cls := .type "set", dict := none, data := .set #[] 0 (.fresh 0 0 led) }
section
variable {prog : Program} {w : World} {A : Around} {E : Value -> Shared -> Prop} {s : Shared}
def zbz (prog : Program) (w : World) (s : Shared) (val : Nat -> Str) (n : Nat) (h' : Heap) : Prop :=
  h'.SetOf (PySem.strKind prog w) s.heap.objs.size (fun k' => decide (k' ∈ seen val n)) (seen val n).length /\ ∀ b o, b < s.heap.objs.size -> s.heap.get? b = some o -> h'.get? b = some o
set_option maxHeartbeats 3200000 in
theorem bj {l : Addr} {items : Array Value} {val : Nat -> Str} {Q : Value -> Shared -> Prop} (hh : A.handled = none) (hl : s.heap.IsList l items) (hv : ∀ (i : Nat) v, items[i]? = some v -> ∃ t, v = .str (val i) t) (hb : items.size + 1 < scanBound)
    (h : ∀ (h' : Heap) (tk : Nat), zbz prog w s val items.size h' -> Q (.ref s.heap.objs.size) { s with heap := h', toks := tk }) : wpAny (model prog w) A (call (.type "set") [.ref l]) Q E s := by
  obtain ⟨c, tl, hmro⟩ := F.called_set.mro;have hmade := F.called_set.made;have hsub := F.called_set.sub;refine wpAny_call (codeAny_of_tree ?_)
  show wpAny _ _ (callAny (.type "set") _) _ _ _
  refine wpAny_pure ⟨Code.quiet_builtin _ (by decide +kernel), codeAny_builtin F.entry_type_call ?_⟩;rw [Around.under_plain (weight_type_call_type "set" [.ref l] []) rfl];have h1 := F.called_set.notType;have h2 := F.called_set.canCreate;have hct := F.typeCall_set_1 (.ref l)
  repeat (any_goals (first | assumption | wp_step))
  refine codeAny_mono (code_set_new_1 (.ref l) (E := E) (Q₁ := fun obj s₁ => ∃ led : Bool, obj = .ref s.heap.objs.size /\ s₁ = { s with heap := s.heap.push (setO led) }) fun led => ⟨led, rfl, rfl⟩) fun r s₁ hr => ?_
  match r, hr with
  | .error e, hr => exact hr
  | .ok .next, hr => exact hr.elim
  | .ok .brk, hr => exact hr.elim
  | .ok .cont, hr => exact hr.elim
  | .ok (.ret obj), hr =>
    obtain ⟨led, rfl, rfl⟩ := hr;have hS : (s.heap.push (setO led)).get? s.heap.objs.size = some (setO led) := Heap.get?_push_size _ rfl;have hT : Shared.TypeIs { s with heap := s.heap.push (setO led) } (.ref s.heap.objs.size) "set" := ⟨_, hS, rfl⟩;have hli := F.called_set.init.lookup;have hbi := F.called_set.init.bind (.ref s.heap.objs.size)
    repeat (any_goals (first | assumption | wp_step))
    refine codeAny_mono (codeAny_call_builtin (R := wants (fun r s₂ => r = .none /\ ∃ h' tk, s₂ = { s with heap := h', toks := tk } /\ zbz prog w s val items.size h') E) F.called_set.init.plain F.entry_set_init (check_set_init_1 hT ?_)) fun r₂ s₂ hr₂ => ?_
    . obtain ⟨ol, hol, hcl, nl, hdl⟩ := id hl
      have hl1 : (s.heap.push (setO led)).IsList l items := hl.push _;obtain ⟨ocls, odict, odata, oslots⟩ := ol;simp only at hcl hdl;subst hcl; subst hdl;have hol' : (s.heap.push (setO led)).get? l = some { cls := .type "list", dict := odict, data := .seq items nl, slots := oslots } := Heap.get?_push_of_some _ hol;have hsls := F.sub_list_set;have hslf := F.sub_list_frozenset;have hne : (Value.type "list" == Value.type "dict") = false := by decide
      unfold Builtin.«set.__init__» noKeywords Builtin.Frozenset.updateFrom;generalize hPI : pyIter = PI
      wp_walk
      subst hPI;refine wpAny_pyIter_list hl1 ?_;refine wpAny_bind (wpAny_runValue ?_);have hlS : l < s.heap.objs.size := Heap.lt_size hol;have hsz : (s.heap.push (setO led)).objs.size = s.heap.objs.size + 1 := size_push' ..;have hneI : l ≠ (s.heap.push (setO led)).objs.size := by rw [hsz]; exact Zs (Yd hlS)
      have hSf : s.heap.objs.size ∉ [(s.heap.push (setO led)).objs.size, l] := by
        rw [hsz];simp only [ZK, Zx, or_false, not_or];exact ⟨Zs (Yw _), ZR hlS⟩
      refine a7 ((Walks.list (by simp [hh]) _ l hneI items).toS) s.heap.objs.size hSf val hv hb (items.size - 0) 0 _ (by omega) (ZE _) ⟨⟨_, Heap.get?_push_size _ rfl, rfl, rfl⟩, hl1.push _⟩ ?_ ?_
      . have hget : ((s.heap.push (setO led)).push { cls := .type "list_iterator", data := .fields #[.ref l, .int 0 0] }).get? s.heap.objs.size = some (setO led) := Heap.get?_push_of_some _ hS
        exact (PyProof.Rows.setObjOf_fresh (knd := PySem.strKind prog w) led).setOf hget (by unfold scanBound; omega)
      . intro s' hm hS'
        rw [Moved.eq_with hm];refine wpAny_pure ?_;refine wpAny_pure ⟨rfl, s'.heap, s'.toks, rfl, hS', fun b o hb e => hm.heap b o ?_ (Heap.get?_push_of_some _ (Heap.get?_push_of_some _ e))⟩;rw [hsz];simp only [ZK, Zx, or_false, not_or];exact ⟨Zs hb, Zs (Yd hb)⟩
    . match r₂, hr₂ with
      | .error e, hr₂ => exact hr₂
      | .ok .next, hr₂ => exact hr₂.elim
      | .ok .brk, hr₂ => exact hr₂.elim
      | .ok .cont, hr₂ => exact hr₂.elim
      | .ok (.ret r), hr₂ =>
        obtain ⟨rfl, h', tk, rfl, hd⟩ := hr₂
        repeat (any_goals (first | assumption | wp_step))
        exact h _ _ hd
end
end L2
namespace L2
open PySem PySem.Spec PyProof.Rows
theorem zfw {zs : List Str} {us : List Value} (r : Vals (zs.map V.str) us) (i : Nat) (v : Value) (h : us[i]? = some v) : ∃ t, v = .str (zs.getD i ⟨#[]⟩) t := by
  have hl := r.length;rw [Za] at hl;have hi : i < zs.length := by rw [hl]; exact (Zc.mp h).1
  obtain ⟨u, hu, ru⟩ := r.get (i := i) (x := V.str zs[i]) (by simp [hi]);rw [h] at hu;cases hu;obtain ⟨t, rfl⟩ := ru;exact ⟨t, by simp [Zk, hi]⟩
section
variable {X : Cx}
def zce (K : Fg) (t : TA) : TE := fun σ H Q => t σ H fun vs H1 => ∃ (p : Addr) (zs : List Str), vs = [.ref p] /\ SqL K H1 p (zs.map V.str) /\ zs.length <= 1000 /\ Q (.int (seen (fun i => zs.getD i ⟨#[]⟩) zs.length).length) H1
theorem zgd {K : Fg} {t : TA} {σ : St} {H : Hp} {Q : VK} : zce K t σ H Q = t σ H fun vs H1 => ∃ (p : Addr) (zs : List Str), vs = [.ref p] /\ SqL K H1 p (zs.map V.str) /\ zs.length <= 1000 /\ Q (.int (seen (fun i => zs.getD i ⟨#[]⟩) zs.length).length) H1 := rfl
theorem zeb {e : Expr} {t : TA} {p1 p2 q1 q2 : Pos} (hc : X.calm = true) (hgL : Gl X "len") (hmL : X.mg "len" = none) (hgR : Gl X "set") (hmR : X.mg "set" = none) (ha : PA X [e] t)
    (he : starEach [e] X.env = (false, eval e X.env) :: starEach [] X.env := by rfl) (he2 : starEach [.Call (.Name "set" p2) [e] [] q2] X.env = (false, eval (.Call (.Name "set" p2) [e] [] q2) X.env) :: starEach [] X.env := by rfl) :
    PE X (.Call (.Name "len" p1) [.Call (.Name "set" p2) [e] [] q2] [] q1) (zce X.K t) := by
  intro pins s σ H Q I h;refine wpAny_Call_Name_kw (ud I hgL hmL yk ?_);refine PyProof.Rows.callWith_builtin1 ?_ he2 rfl;rw [he2]
  show wpAny _ _ (spliced ((false, eval (.Call (.Name "set" p2) [e] [] q2) X.env) :: backTo q1 (starEach [] X.env))) _ _ s
  refine Calls.spliced_cons ?_;refine wpAny_Call_Name_kw (ud I hgR hmR bt_set ?_);refine PyProof.Rows.callWith_type1 (thn (ha q2 pins s σ H _ I h) fun us s1 ⟨vs, H1, I1, r1, q⟩ => ?_) he rfl;obtain ⟨p, zs, rfl, hq, hz, q⟩ := q;obtain ⟨u, rfl, rx⟩ := Vals.one r1;cases rx;obtain ⟨its, rv, pl, _⟩ := I1.list hq;have hlen : its.length = zs.length := by have := rv.length; rw [Za] at this; exact this.symm
  refine bj (val := fun i => zs.getD i ⟨#[]⟩) (I1.ok.hd hc) pl.isList (fun i v hv => zfw rv i v (by simpa using hv)) (by rw [Zr, hlen]; exact YJ (Yx hz) (by decide)) fun h' tk hd => ?_
  refine Calls.spliced_nil ?_;obtain ⟨hS, kp⟩ := hd;rw [show its.toArray.size = zs.length by rw [Zr, hlen]] at hS;have I2 : Inv X pins σ H1 { s1 with heap := h', toks := tk } := I1.kept fun b o e => kp b o (Heap.lt_size e) e
  obtain ⟨o, es, ep, t, ho, ex, hd, _, _, hz2, hf, hn⟩ := hS;have h3 : ((es.size : Nat) : Int) < 2 ^ 63 := by unfold scanBound at hz2; omega
  refine call_len_set ho ex hd hf h3 ⟨.int es.size, H1, I2.tok _, ⟨_, rfl⟩, ?_⟩;rw [hn];exact q
def rLeS (x y : V) (H : Hp) (Q : VK) : Prop := ∃ i j, x = .str i /\ y = .str j /\ Q (.bl (!decide (j.cps.toList < i.cps.toList))) H
theorem e_leS {x y : V} {H : Hp} {Q : VK} : rLeS x y H Q = ∃ i j, x = .str i /\ y = .str j /\ Q (.bl (!decide (j.cps.toList < i.cps.toList))) H := rfl
theorem zd2 : OpR X (compareOp .LtE) rLeS := by
  intro pins s σ H x y v u Q I rx ry h;obtain ⟨i, j, rfl, rfl, q⟩ := h;obtain ⟨t, rfl⟩ := rx;obtain ⟨t', rfl⟩ := ry;exact PySem.P.le_str (yc I q rfl)
end
section
variable {σ : St} {k : Nat} {g : TG} {tt : TT} {te : TE} {H1 : Hp} {Fin : List V -> Hp -> Prop}
theorem zf3 {z : Str} (Pv : Nat -> List V -> Hp -> Prop) (h0 : Pv 0 [] H1) (hz : ∀ i ys H, i <= z.cps.size -> Pv i ys H -> ys.length <= sizeLine)
    (hs : ∀ i c ys H, z.cps[i]? = some c -> Pv i ys H -> g (.str (chr1 c)) (List.replicate k none ++ σ) H fun σ2 H2 => σ2.drop k = σ /\ tt σ2 H2 fun b H3 => if b = true then te σ2 H3 fun v H4 => Pv (i + 1) (ys ++ [v]) H4 else Pv (i + 1) ys H3)
    (hd : ∀ ys H, Pv z.cps.size ys H -> Fin ys H) : sj (Itw z) σ k g tt te H1 Fin := by
  refine ⟨fun i m ys H => m = z.cps.size - i /\ i <= z.cps.size /\ Pv i ys H, ⟨z.cps.size, by simp, ZE _, h0⟩, ?_⟩
  rintro i m ys H ⟨rfl, hi, p⟩
  refine ⟨hz i ys H hi p, ?_⟩
  by_cases hlt : i < z.cps.size
  . refine .inr ⟨hlt, Pv (i + 1), fun ys' H' p' => ⟨z.cps.size - (i + 1), by omega, rfl, hlt, p'⟩, fun x H' y => ?_⟩
    obtain ⟨e, c, e2, y⟩ := y;subst e y;exact hs i c ys _ e2 p
  . have e : i = z.cps.size := by omega
    subst e;exact .inl ⟨Zm _, hd ys H p⟩
end
def ie : List Int -> List V
  | [] => []
  | i :: is => .int i :: ie is
theorem e_vI0 : ie [] = [] := rfl
theorem e_vI {i : Int} {is : List Int} : ie (i :: is) = .int i :: ie is := rfl
def tInts (ns : List Int) : TA := fun _ H Q => Q (ie ns) H
theorem e_ints {ns : List Int} {σ : St} {H : Hp} {Q : List V -> Hp -> Prop} : tInts ns σ H Q = Q (ie ns) H := rfl
end L2
namespace L2
open PySem PySem.Spec PyProof.Rows
section
variable {X : Cx}
def rIsB (x y : V) (H : Hp) (Q : VK) : Prop := ∃ b c, x = .bl b /\ y = .bl c /\ Q (.bl (b == c)) H
theorem e_isB {x y : V} {H : Hp} {Q : VK} : rIsB x y H Q = ∃ b c, x = .bl b /\ y = .bl c /\ Q (.bl (b == c)) H := rfl
end
end L2
namespace L2
open PySem PySem.Spec PyProof.Rows
theorem zcr {α : Type} {l : List α} {k : Nat} {x : α} (h : l[k]? = some x) : l.drop k = x :: l.drop (k + 1) := by
  obtain ⟨hk, e⟩ := Zc.mp h;rw [List.drop_eq_getElem_cons hk, e]
theorem jw {X : Cx} {body : List Stmt} {k : Nat} {st : Stmt} {t ts : TS} (hs : PS X st t) (h : body[k]? = some st) (hr : PSs X (body.drop (k + 1)) ts) : PSs X (body.drop k) (tSeq t ts) := by
  rw [zcr h];exact zk hs hr
theorem zhz {X : Cx} {body : List Stmt} {k : Nat} {st : Stmt} {t : TS} (hs : PS X st t) (h : body[k]? = some st) (hl : body[k + 1]? = none) : PSs X (body.drop k) t := by
  rw [zcr h, List.drop_eq_nil_of_le (List.getElem?_eq_none_iff.mp hl)];exact zh hs
theorem zho {X : Cx} {body : List Stmt} {t : TS} (h : PSs X (body.drop 0) t) : PSs X body t := h
end L2
namespace L2
open PySem PySem.Spec PyProof.Rows
section
variable {prog : Program} {w : World} {A : Around} {E : Value -> Shared -> Prop} {s : Shared}
theorem zf7 {t b : Addr} {vs ws : List Value} {Q : Value -> Shared -> Prop} (ht : IsTup s.heap t vs.toArray) (hb : IsTup s.heap b ws.toArray) (hv : vs = []) (h0 : Q (.ref b) s) :
    wpAny (model prog w) A (binaryOp .Add (.ref t) (.ref b)) Q E s := by
  obtain ⟨⟨cls, dd, data, sl⟩, ho, hc, n, hd⟩ := id ht;obtain ⟨⟨cls2, dd2, data2, sl2⟩, ho2, hc2, n2, hd2⟩ := id hb;simp only at hc hd hc2 hd2;subst hc hd hc2 hd2
  exact concat_meets ⟨_, ho, rfl⟩ ⟨_, ho2, rfl⟩ noFill_tuple_add seq_tuple_add PySem.F.slot_tuple_add PySem.F.entry_tuple_add (PySem.F.args_tuple_add_2 _ _)
    (tuple_addW0 t b vs.toArray ws.toArray n n2 dd dd2 sl sl2 (by simp [hv])) ⟨ho, ho2, h0⟩
end
theorem zat {H : Hp} {a : Addr} {o : HO} (n : H a = none) : Same H (upd H a o) := fun b u e => by
  rw [zx (fun z => by rw [z, n] at e; cases e)]; exact e
section
variable {X : Cx}
def rCatH : R2 := fun x y H Q => ∃ a b xs ys, x = .ref a /\ y = .ref b /\ H a = some (.tup xs) /\ H b = some (.tup ys) /\ xs.length + ys.length <= sizeLine /\ ∀ H' p, Same H H' -> H' p = some (.tup (xs ++ ys)) -> Q (.ref p) H'
theorem e_catH {x y : V} {H : Hp} {Q : VK} : rCatH x y H Q = ∃ a b xs ys, x = .ref a /\ y = .ref b /\ H a = some (.tup xs) /\ H b = some (.tup ys) /\ xs.length + ys.length <= sizeLine /\ ∀ H' p, Same H H' -> H' p = some (.tup (xs ++ ys)) -> Q (.ref p) H' := rfl
theorem tq : OpR X (binaryOp .Add) rCatH := by
  intro pins s σ H x y v u Q I rx ry h;obtain ⟨a, b, xs, ys, rfl, rfl, ha, hb, hz, q⟩ := h
  by_cases e1 : xs = []
  . subst e1
    cases rx;cases ry;obtain ⟨its, r1, p1, _⟩ := I.tuple (SqT.of ha);obtain ⟨its2, r2, p2, _⟩ := I.tuple (SqT.of hb);exact zf7 p1 p2 (r1.nil_iff.mpr rfl) ⟨.ref b, H, I, rfl, q H b (Same.refl _) hb⟩
  . refine zgu pins s σ H (.ref a) (.ref b) v u Q I rx ry ⟨a, b, xs, ys, rfl, rfl, .of ha, .of hb, e1, hz, fun e2 => ?_, fun e2 p hp => ?_⟩
    . subst e2
      exact q H a (Same.refl _) (by rw [ha, Yb])
    . exact q _ p (zat hp) zf
theorem zf0 {x : V} {vs : List V} {H : Hp} {Q : VK} : zcp x vs H Q = ∃ l b xs zs, x = .ref l /\ vs = [.ref b] /\ H l = some (.lst xs) /\ H b = some (.lst zs) /\ xs.length + zs.length <= sizeLine /\ Q .non (upd H l (.lst (xs ++ zs))) := rfl
end
def iRngD (ta : TA) : TI := fun σ H R => ta σ H fun vs H1 => ∃ i j : Int, vs = [.int i, .int j, .int (-1)] /\ (-(2 ^ 61) <= i /\ i < 2 ^ 61 /\ -(2 ^ 61) <= j /\ j < 2 ^ 61) /\ R (Its i (-1) (i - j).toNat) H1
theorem e_rngD {ta : TA} {σ : St} {H : Hp} {R : It -> Hp -> Prop} : iRngD ta σ H R = ta σ H fun vs H1 => ∃ i j : Int, vs = [.int i, .int j, .int (-1)] /\ (-(2 ^ 61) <= i /\ i < 2 ^ 61 /\ -(2 ^ 61) <= j /\ j < 2 ^ 61) /\ R (Its i (-1) (i - j).toNat) H1 := rfl
section
open HT
variable {prog : Program} {w : World} {A : Around} {E : Value -> Shared -> Prop} {s : Shared}
theorem ij {t sl : Addr} {items : Array Value} {vl vu : Value} {lo hi : Option Int} {Q : Value -> Shared -> Prop} (ht : IsTup s.heap t items) (hs : s.heap.IsSliceOf sl vl vu .none) (pl : IsPart vl lo) (pu : IsPart vu hi)
    (hw : sIx items.size 0 lo = 0 /\ sIx items.size items.size hi = items.size) (h : Q (.ref t) s) : wpAny (model prog w) A (getItem (.ref t) (.ref sl)) Q E s := by
  obtain ⟨os, hos, hcs, hds⟩ := id hs;have hTs : s.TypeIs (.ref sl) "slice" := ⟨os, hos, hcs⟩;unfold getItem
  try with_reducible refine wpAny_holding ?_
  first | refine wpAny_bind (wpAny_pure ?_) | skip
  refine wpAny_bind (wpAny_sequenceKey ht.typeIs (by decide) ?_)
  refine wpAny_bind (wpAny_callSpecial?_slot (name := Str.ofString "__getitem__") ht.typeIs PyProof.Rows.slot_tuple_getitem
    (wpAny_call_entry PyProof.Rows.slot_tuple_getitem ht.typeIs entry_tuple_getitem ?_ (args_tuple_getitem _ _)))
  show wpAny _ _ (Builtin.Tuple.tupleItemsOf (.ref t) >>= _) _ _ s
  refine wpAny_bind (tupleItemsOf_ ht ?_);refine wpAny_bind (wpAny_typeOf hTs ?_);rw [if_pos (by decide)];refine wpAny_bind (o4 hs pl pu ?_)
  have hyes : (((sIx items.size 0 lo : Nat) : Int) == 0 && (1 : Int) == 1 && (sIx items.size items.size hi - sIx items.size 0 lo) == items.size) = true := by
    rw [hw.1, hw.2];simp
  show wpAny _ _ (if (((sIx items.size 0 lo : Nat) : Int) == 0 && (1 : Int) == 1 && (sIx items.size items.size hi - sIx items.size 0 lo) == items.size) = true then _ else _) _ _ s
  rw [if_pos hyes];unfold Builtin.Tuple.tupleIsExact;refine wpAny_bind (wpAny_bind (wpAny_typeOf ht.typeIs (wpAny_pure ?_)));rw [if_pos (by decide)];exact wpAny_bind (wpAny_rule (wpAny_pure ⟨_, rfl, wpAny_pure h⟩))
end
section
variable {X : Cx}
def rSlH : V -> Option Int -> Option Int -> Hp -> VK -> Prop := fun x lo hi H Q => ∃ a xs, x = .ref a /\ H a = some (.tup xs) /\ ∀ H' p, Same H H' -> H' p = some (.tup (cutV xs lo hi)) -> Q (.ref p) H'
theorem e_slH {x : V} {lo hi : Option Int} {H : Hp} {Q : VK} : rSlH x lo hi H Q = ∃ a xs, x = .ref a /\ H a = some (.tup xs) /\ ∀ H' p, Same H H' -> H' p = some (.tup (cutV xs lo hi)) -> Q (.ref p) H' := rfl
theorem p9 : SlR X rSlH := by
  intro pins s σ H x v vl vu lo hi sl Q I rx hs pl pu h;obtain ⟨a, xs, rfl, hx, q⟩ := h
  by_cases hw : HT.sIx xs.length 0 lo = 0 /\ HT.sIx xs.length xs.length hi = xs.length
  . cases rx
    obtain ⟨its, r, ht, hz⟩ := I.tuple (SqT.of hx);have hlen : its.toArray.size = xs.length := by rw [Zr]; exact r.length.symm
    refine ⟨"tuple", _, PyProof.Rows.slot_tuple_getitem.lookup, ht.typeIs, ?_⟩;refine ij ht hs pl pu (by rw [hlen]; exact hw) ⟨.ref a, H, I, rfl, q H a (Same.refl _) ?_⟩;rw [hx];unfold cutV;rw [hw.1, hw.2];simp
  . exact sl_tup pins s σ H _ v vl vu lo hi sl Q I rx hs pl pu ⟨a, xs, rfl, .of hx, hw, fun p hp => q _ p (zat hp) zf⟩
theorem e_slT {K : Fg} {x : V} {lo hi : Option Int} {H : Hp} {Q : VK} : rSlT K x lo hi H Q = ∃ a xs, x = .ref a /\ SqT K H a xs /\ ¬ (HT.sIx xs.length 0 lo = 0 /\ HT.sIx xs.length xs.length hi = xs.length) /\ ∀ p, H p = none -> Q (.ref p) (upd H p (.tup (cutV xs lo hi))) := rfl
theorem j1 {xs : List V} {k : Nat} (h : k <= xs.length) : cutV xs none (some (k : Int)) = xs.take k := by
  unfold cutV;rw [HT.sIx_none, HT.sIx_nat];simp [YQ h]
theorem nh {xs : List V} {k : Nat} (h : k <= xs.length) : cutV xs (some (k : Int)) none = xs.drop k := by
  unfold cutV;rw [HT.sIx_none, HT.sIx_nat, YQ h];exact ZG (by rw [ZP]; omega)
end
end L2
namespace L2
open PySem PySem.Spec PyProof.Rows
section
variable {σ : St} {k : Nat} {g : TG} {tt : TT} {te : TE} {H1 : Hp} {Fin : List V -> Hp -> Prop}
theorem zev {K : Fg} {a : Addr} {xs : List V} (Pv : Nat -> List V -> Hp -> Prop) (h0 : Pv 0 [] H1) (hz : ∀ i ys H, i <= xs.length -> Pv i ys H -> ys.length <= sizeLine /\ SqL K H a xs)
    (hs : ∀ i x ys H T, xs[i]? = some x -> H T = none -> Pv i ys H -> g (.ref T) (List.replicate k none ++ σ) (upd H T (.tup [.int i, x])) fun σ2 H2 => σ2.drop k = σ /\ tt σ2 H2 fun b H3 => if b = true then te σ2 H3 fun v H4 => Pv (i + 1) (ys ++ [v]) H4 else Pv (i + 1) ys H3)
    (hd : ∀ ys H, Pv xs.length ys H -> Fin ys H) : sj (Ite K a) σ k g tt te H1 Fin := by
  refine ⟨fun i m ys H => m = xs.length - i /\ i <= xs.length /\ Pv i ys H, ⟨xs.length, by simp, ZE _, h0⟩, ?_⟩
  rintro i m ys H ⟨rfl, hi, p⟩
  obtain ⟨q0, qa⟩ := hz i ys H hi p;refine ⟨q0, ?_⟩
  by_cases hlt : i < xs.length
  . refine .inr ⟨⟨xs, xs[i], qa, by simp [hlt]⟩, Pv (i + 1), fun ys' H' p' => ⟨xs.length - (i + 1), by omega, rfl, hlt, p'⟩, fun x H' y => ?_⟩
    obtain ⟨T, x', rfl, hT, rfl, hy⟩ := y;exact hs i x' ys _ T (hy xs qa) hT p
  . have e : i = xs.length := by omega
    subst e;exact .inl ⟨⟨xs, qa, Zm _⟩, hd ys H p⟩
end
end L2
namespace L2
open PySem PySem.Spec PyProof.Rows
theorem cz (l : Addr) (items : Array Value) (n : Nat) (dd : Option Addr) (sl : Array (Option Value)) (x : Value) (e : Value -> Bool) (j : Nat) (hj : j < items.size)
    (hit : e items[j] = true) (hno : ∀ m (hm : m < items.size), m < j -> e items[m] = false) :
    Meets (Builtin.«tuple.index» ⟨[.ref l, x], []⟩)
      (fun A R s => s.heap.get? l = some { cls := .type "tuple", dict := dd, data := .seq items n, slots := sl } /\ (∀ y, y ∈ items -> SeqAt.EqAt A.in1 s y x (e y)) /\ R (.ok (.ret (.int j s.toks))) { s with toks := s.toks + 1 }) :=
  .of_wp fun prog w A R s h => by
    obtain ⟨hp, g, d, tk, os⟩ := s; obtain ⟨hl, he, h⟩ := h
    wp_walk using AutoSeq1.wpAny_loadPart' hl
    show wpAny (model prog w) A.in1 (forIn [:min items.size items.size] ((none, ()) : Option PySem.Fin × Unit) fun (i : Nat) _ => (match items[i]? with
      | some y => do
        let __do_lift <- eqBool y x
        if __do_lift = true then do
            let __do_lift <- retInt (i : Int)
            pure (ForInStep.done (some __do_lift, ()))
          else pure (ForInStep.yield (none, ()))
      | _ => pure (ForInStep.yield (none, ())) : Sem (ForInStep (Option PySem.Fin × Unit)))) _ _ _
    rw [Std.Legacy.Range.forIn_eq_forIn_range'];refine wpAny_forIn_list _ (fun rest b s' => b = (none, ()) /\ s' = (⟨hp, g, d, tk, os⟩ : Shared) /\ ∃ i, i <= j /\ rest = List.range' i (items.size - i)) _ ?turn ?fin _ _ ⟨rfl, rfl, 0, ZE _, by simp [Std.Legacy.Range.size]⟩
    case turn =>
      rintro k rest b s' ⟨rfl, rfl, i, hi, er⟩
      have hlt : i < items.size := by omega
      rw [show items.size - i = (items.size - (i + 1)) + 1 by omega, List.range'_succ] at er
      injection er with e1 e2
      subst e1;have ei : items[k]? = some items[k] := by simp [hlt]
      rw [ei];refine wpAny_bind (he _ (Array.getElem_mem hlt) prog w _ _ ?_)
      by_cases hk : k = j
      . subst hk
        rw [hit, if_pos rfl];refine wpAny_bind ?_;unfold retInt
        wp_walk
        exact ⟨_, rfl, h⟩
      . rw [hno k hlt (by omega)]
        wp_walk
        exact ⟨rfl, rfl, k + 1, by omega, e2⟩
    case fin =>
      rintro b s' ⟨rfl, rfl, i, hi, er⟩
      have : (List.range' i (items.size - i)).length = 0 := by rw [<- er]; rfl
      rw [List.length_range'] at this;omega
section
variable {X : Cx}
structure FirstAt (xs : List V) (y : V) (j : Nat) : Prop where
  flat : wb y = true
  flats : xs.all wb = true
  hit : ∃ z, xs[j]? = some z /\ eqV z y = true
  no : ∀ (m : Nat) (z : V), m < j -> xs[m]? = some z -> eqV z y = false
theorem FirstAt.lt {xs : List V} {y : V} {j : Nat} (h : FirstAt xs y j) : j < xs.length := by
  obtain ⟨z, e, _⟩ := h.hit;exact (Zc.mp e).1
theorem fu {xs : List V} {us : List Value} {y z : V} {m : Nat} (r : Vals xs us) (fs : xs.all wb = true) (e : xs[m]? = some z) (hm : m < us.toArray.size) : eqU y us.toArray[m] = eqV z y := by
  obtain ⟨w, hw, rw'⟩ := r.get e
  have : us.toArray[m] = w := by
    have h2 := (Zc.mp hw).2
    simpa using h2
  rw [this];exact zef rw' (ZQ.mp fs _ (Zi e))
def zcb (K : Fg) : V -> List V -> Hp -> VK -> Prop := fun x vs H Q => ∃ p xs y j, x = .ref p /\ vs = [y] /\ SqT K H p xs /\ FirstAt xs y j /\ Q (.int (j : Nat)) H
def zca (K : Fg) : V -> List V -> Hp -> VK -> Prop := fun x vs H Q => ∃ p xs y j, x = .ref p /\ vs = [y] /\ SqL K H p xs /\ FirstAt xs y j /\ Q (.int (j : Nat)) H
theorem zfy {K : Fg} {x : V} {vs : List V} {H : Hp} {Q : VK} : zcb K x vs H Q = ∃ p xs y j, x = .ref p /\ vs = [y] /\ SqT K H p xs /\ FirstAt xs y j /\ Q (.int (j : Nat)) H := rfl
theorem zf4 {K : Fg} {x : V} {vs : List V} {H : Hp} {Q : VK} : zca K x vs H Q = ∃ p xs y j, x = .ref p /\ vs = [y] /\ SqL K H p xs /\ FirstAt xs y j /\ Q (.int (j : Nat)) H := rfl
theorem cm : MtR X "tuple.index" (zcb X.K) := by
  intro pins s σ H x vs v us Q I rx rvs h;obtain ⟨p, xs, y, j, rfl, rfl, hq, hF, q⟩ := h;cases rx;obtain ⟨u, rfl, ru⟩ := mi rvs;obtain ⟨its, r, pl, hz⟩ := I.tuple hq;obtain ⟨⟨cls, dd, data, sl⟩, ho, hc, n, hd⟩ := id pl;simp only at hc hd;subst hc hd;have hl := r.length;have hjl : j < its.toArray.size := by rw [Zr, <- hl]; exact hF.lt
  obtain ⟨z, e, hit⟩ := hF.hit;refine call_meets PySem.F.slot_tuple_index ⟨_, ho, rfl⟩ PySem.F.entry_tuple_index (PySem.F.args_tuple_index_2 _ _) (cz p its.toArray n dd sl u (eqU y) j hjl ?_ ?_) ⟨ho, fun w hw => gq ru hF.flat r hF.flats w (by simpa using hw), ⟨.int j, H, I.tok _, ⟨_, rfl⟩, q⟩⟩
  . rw [fu r hF.flats e]; exact hit
  . intro m hm hmj
    have hml : m < xs.length := by rw [hl]; simpa using hm
    rw [fu r hF.flats (Zb hml)];exact hF.no m _ hmj (Zb hml)
theorem cp : MtR X "list.index" (zca X.K) := by
  intro pins s σ H x vs v us Q I rx rvs h;obtain ⟨p, xs, y, j, rfl, rfl, hq, hF, q⟩ := h;cases rx;obtain ⟨u, rfl, ru⟩ := mi rvs;obtain ⟨its, r, pl, hz⟩ := I.list hq;obtain ⟨⟨cls, dd, data, sl⟩, ho, hc, n, hd⟩ := id pl.isList;simp only at hc hd;subst hc hd;have hl := r.length;have hjl : j < its.toArray.size := by rw [Zr, <- hl]; exact hF.lt
  have hn := m9;obtain ⟨z, e, hit⟩ := hF.hit;refine call_meets PySem.F.slot_list_index ⟨_, ho, rfl⟩ PySem.F.entry_list_index (PySem.F.args_list_index_2 _ _) (SeqAt.list_indexAt p its.toArray n dd sl u (eqU y) j hjl (by have := hF.lt; omega) ?_ ?_) ⟨ho, fun w hw => gq ru hF.flat r hF.flats w (by simpa using hw), ⟨.int j, H, I.tok _, ⟨_, rfl⟩, q⟩⟩
  . rw [fu r hF.flats e]; exact hit
  . intro m hm hmj
    have hml : m < xs.length := by rw [hl]; simpa using hm
    rw [fu r hF.flats (Zb hml)];exact hF.no m _ hmj (Zb hml)
end
section
variable {X : Cx}
theorem hu10 {A : Around} {k : Nat} (hr : Room k A) : A.units + 1 < cLine := by have := hu9 hr; omega
def rInK (neg : Bool) : R2 := fun y x H Q => ∃ a o, x = .ref a /\ DGet H a y o /\ Q (.bl (neg ^^ o.isSome)) H
theorem e_inK {neg : Bool} {y x : V} {H : Hp} {Q : VK} : rInK neg y x H Q = ∃ a o, x = .ref a /\ DGet H a y o /\ Q (.bl (neg ^^ o.isSome)) H := rfl
def rSetD : TSet := fun o i v H Q => ∃ a H', o = .ref a /\ DPut H a i v H' /\ Q H'
theorem e_setD {o i v : V} {H : Hp} {Q : Hp -> Prop} : rSetD o i v H Q = ∃ a H', o = .ref a /\ DPut H a i v H' /\ Q H' := rfl
theorem zht {σ : St} {H : Hp} {Q : VK} : tDNewT σ H Q = ∀ p, H p = none -> Q (.ref p) (upd H p (.dT [])) := rfl
theorem e_dget {td ty : TE} {σ : St} {H : Hp} {Q : VK} : tDGet td ty σ H Q = td σ H fun x H1 => ty σ H1 fun y H2 => ∃ a v, x = .ref a /\ DGet H2 a y (some v) /\ Q v H2 := rfl
end
end L2
namespace L2
open PySem PySem.Spec PyProof.Rows
section
variable {X : Cx}
def tBMT (r : V -> List V -> Hp -> VK -> Prop) (to : TE) (t : TA) : TE := fun σ H Q => to σ H fun x H1 => (∃ p xs, x = .ref p /\ Rd H1 p (.tup xs)) /\ t σ H1 fun xs H2 => r x xs H2 Q
theorem e_BMT {r : V -> List V -> Hp -> VK -> Prop} {to : TE} {t : TA} {σ : St} {H : Hp} {Q : VK} : tBMT r to t σ H Q = to σ H fun x H1 => (∃ p xs, x = .ref p /\ Rd H1 p (.tup xs)) /\ t σ H1 fun xs H2 => r x xs H2 Q := rfl
theorem zeg {o e : Expr} {es : List Expr} {to : TE} {t : TA} {name : Str} {apos cpos : Pos} {id : String} {r : V -> List V -> Hp -> VK -> Prop} (pa : PlainAttrs "tuple") (slot : Slot "tuple" name id) (hty : typeOf (.builtin id) = pure (.type "method_descriptor")) (hm : MtR X id r) (ho : PE X o to) (ha : PA X (e :: es) t)
    (hbase : attributeBase o name X.env (eval o X.env) = eval o X.env := by rfl)
    (hfew : ((backTo cpos (starEach (e :: es) X.env)).all (fun x => !x.1) && (backToKw cpos (keywordEach [] X.env)).all (fun x => x.1.isSome)
      && decide ((e :: es).length + ([] : List Keyword).length + (if ([] : List Keyword).isEmpty then 0 else 1) < 30)) = true := by rfl)
    (hline : (apos.endLine == cpos.line) = true := by rfl) (hs : starEach (e :: es) X.env = (false, eval e X.env) :: starEach es X.env := by rfl) (hplain : (backTo cpos (starEach es X.env)).any (·.1) = false := by rfl) :
    PE X (.Call (.Attribute o name apos) (e :: es) [] cpos) (tBMT r to t) := by
  intro pins s σ H Q I h;refine wpAny_Call_method_late hbase hfew hline rfl (thn (ho pins s σ H _ I h) fun v s1 ⟨x, H1, I1, r1, ⟨p, ys, ex, hp⟩, q1⟩ => ?_);subst ex;obtain rfl : v = Value.ref p := r1;obtain ⟨z, its, rr, ob, e1, c1, n1, d1, f1⟩ := (show ObjOk X.prog X.w H1 s1.heap p (.tup ys) from hp.ok I1.hok);have h1 : s1.TypeIs (.ref p) "tuple" := ⟨ob, e1, c1⟩
  have h2 : ∀ a, Value.ref p = .ref a -> ∃ ob, s1.heap.get? a = some ob /\ ob.dict = none := fun a e => by
    cases e;exact ⟨ob, e1, f1⟩
  refine ⟨"tuple", id, pa, slot, hty, h1, h2, ?_⟩;have hA := ha cpos pins s1 σ H1 _ I1 q1;rw [hs] at hA ⊢;refine Calls.callWith_builtin (by show (false || (backTo cpos (starEach es X.env)).any (·.1)) = false; rw [hplain] <;> rfl) (Calls.evalArgs_plain ?_);exact thn hA fun us s2 ⟨vs, H2, I2, r2, q2⟩ => hm pins s2 σ H2 (.ref p) vs (.ref p) us Q I2 rfl r2 q2
end
end L2
namespace L2
open PySem PySem.Spec PyProof.Rows
theorem zby {i : Int} {n : Nat} (h1 : -(2 ^ n) < i) (h2 : i < 2 ^ n) : Builtin.Int.intBits i <= n := by
  unfold Builtin.Int.intBits
  split
  . exact ZE _
  . rename_i h
    have h0 : i ≠ 0 := fun e => h (by rw [e]; rfl)
    have hn : i.natAbs < 2 ^ n := by
      have e : ((2 ^ n : Nat) : Int) = (2 : Int) ^ n := by rw [Int.natCast_pow]; rfl
      have : (i.natAbs : Int) < ((2 ^ n : Nat) : Int) := by rw [e]; omega
      exact_mod_cast this
    exact (Nat.log2_lt (by omega)).mpr hn
def CMulB (i j : Int) : Prop := (-(10 ^ 60) <= i /\ i <= 10 ^ 60) /\ -(10 ^ 60) <= j /\ j <= 10 ^ 60
theorem CMulB.ok {i j : Int} (h : CMulB i j) : IntMulOk i j := by
  have e : (10 : Int) ^ 60 < 2 ^ 200 := by decide
  obtain ⟨⟨a, b⟩, c, d⟩ := h;exact .of_bits (Zd (zby (n := 200) (by omega) (by omega)) (by decide)) (Zd (zby (n := 200) (by omega) (by omega)) (by decide))
theorem j3 {X : Cx} : OpR X (binaryOp .Mult) (rI CMulB fun i j => .int (i * j)) := opI fun _ _ _ _ _ _ _ hc q => mul_int q hc.ok
end L2
namespace L2
open PySem
def SeqH (h : Heap) (l : Addr) (xs : Array Value) : Prop := ∃ o n, h.get? l = some o /\ o.data = .seq xs n
section
variable {prog : Program} {w : World} {A : Around} {E : Value -> Shared -> Prop} {s : Shared}
theorem il {it t : Addr} {i : Nat} {items : Array Value} {x : Value} {Q : Value -> Shared -> Prop} (hit : s.heap.IsTupleIter it t i)
    (ht : SeqH s.heap t items) (hx : items[i]? = some x) (hQ : ∀ h', h'.IsTupleIter it t (i + 1) -> Heap.SameBut it s.heap h' -> Q x { s with heap := h' }) :
    wpAny (model prog w) A (Builtin.SmallTypes.nextOf (.ref it)) Q E s := by
  obtain ⟨o, ho, hc, hd⟩ := id hit;obtain ⟨ol, nl, hol, hdl⟩ := ht;unfold Builtin.SmallTypes.nextOf
  refine wpAny_bind (wpAny_callSpecial?_slot (name := Str.ofString "__next__") hit.typeIs F.slot_tuple_iterator_next
    (wpAny_call_entry F.slot_tuple_iterator_next hit.typeIs F.entry_tuple_iterator_next ?_ (F.args_tuple_iterator_next_1 _)))
  show wpAny _ _ (field (.ref it) 0 >>= _) _ _ s
  refine wpAny_bind (wpAny_field ho hd (x := .ref t) rfl ?_)
  show wpAny _ _ (if (Value.ref t == Value.none) = true then _ else _) _ _ s
  rw [if_neg (show ¬ ((Value.ref t == Value.none) = true) from Bool.false_ne_true)]
  show wpAny _ _ (field (.ref it) 1 >>= _) _ _ s
  refine wpAny_bind (wpAny_field ho hd (x := .int i 0) rfl ?_)
  show wpAny _ _ (seqItems? (.ref t) >>= _) _ _ s
  refine wpAny_bind (wpAny_seqItems hol hdl ?_);simp only [Zw, hx];refine wpAny_bind (wpAny_setField ho hd (by simp) (wpAny_pure ⟨x, rfl, wpAny_pure (hQ _ ?_ (Heap.SameBut.update ..))⟩))
  exact ⟨_, Heap.get?_update_self _ ho (Obj.isFreed_of_fields (Obj.data_mapFields hd _)), (Obj.cls_mapFields ..).trans hc, by
    rw [Obj.data_mapFields hd]; simp [rawInt]⟩
theorem gi {it t : Addr} {i : Nat} {items : Array Value} {Q : Value -> Shared -> Prop} (hh : A.handled = none)
    (hit : s.heap.IsTupleIter it t i) (ht : SeqH s.heap t items) (hx : items[i]? = none)
    (hE : ∀ h' e, Heap.ExtBut it s.heap h' -> (∃ o, h'.get? e = some o /\ o.cls = .type "StopIteration") -> E (.ref e) { s with heap := h' }) :
    wpAny (model prog w) A (Builtin.SmallTypes.nextOf (.ref it)) Q E s := by
  obtain ⟨o, ho, hc, hd⟩ := id hit;obtain ⟨ol, nl, hol, hdl⟩ := ht;unfold Builtin.SmallTypes.nextOf
  refine wpAny_bind (wpAny_callSpecial?_slot (name := Str.ofString "__next__") hit.typeIs F.slot_tuple_iterator_next
    (wpAny_call_entry F.slot_tuple_iterator_next hit.typeIs F.entry_tuple_iterator_next ?_ (F.args_tuple_iterator_next_1 _)))
  show wpAny _ _ (field (.ref it) 0 >>= _) _ _ s
  refine wpAny_bind (wpAny_field ho hd (x := .ref t) rfl ?_)
  show wpAny _ _ (if (Value.ref t == Value.none) = true then _ else _) _ _ s
  rw [if_neg (show ¬ ((Value.ref t == Value.none) = true) from Bool.false_ne_true)]
  show wpAny _ _ (field (.ref it) 1 >>= _) _ _ s
  refine wpAny_bind (wpAny_field ho hd (x := .int i 0) rfl ?_)
  show wpAny _ _ (seqItems? (.ref t) >>= _) _ _ s
  refine wpAny_bind (wpAny_seqItems hol hdl ?_);simp only [Zw, hx];refine wpAny_bind (wpAny_rule (wpAny_bind (wpAny_setField ho hd (by simp) ?_)))
  show wpAny _ _ (newExc (.type "StopIteration") [] >>= _) _ _ _
  refine wpAny_bind ?_;simp only [newExc, newTuple];refine wpAny_bind (wpAny_newObj_type ?_ (by size_fits));refine wpAny_bind (m := firstArgMember _ _) (wpAny_of_eq (a := Value.none) (by first | rfl | (simp only [firstArgMember]; rfl)) ?_);refine wpAny_newObj_type ?_ (by size_fits);simp only [raiseNew];refine wpAny_bind (wpAny_handled ?_)
  first | rw [show A.in1.handled = none from hh] | rw [hh]
  refine wpAny_bind (wpAny_pure (wpAny_throw ?_));exact hE _ _ (((Heap.SameBut.update ..).extBut.push _).push _) ⟨_, Heap.get?_push_size _ rfl, rfl⟩
theorem ik {it t : Addr} {i : Nat} {items : Array Value} {x : Value} {Q : Value -> Shared -> Prop} (hit : s.heap.IsListIter it t i)
    (ht : SeqH s.heap t items) (hx : items[i]? = some x) (hQ : ∀ h', h'.IsListIter it t (i + 1) -> Heap.SameBut it s.heap h' -> Q x { s with heap := h' }) :
    wpAny (model prog w) A (Builtin.SmallTypes.nextOf (.ref it)) Q E s := by
  obtain ⟨o, ho, hc, hd⟩ := id hit;obtain ⟨ol, nl, hol, hdl⟩ := ht;unfold Builtin.SmallTypes.nextOf
  refine wpAny_bind (wpAny_callSpecial?_slot (name := Str.ofString "__next__") hit.typeIs slot_listiter_next
    (wpAny_call_entry slot_listiter_next hit.typeIs entry_listiter_next ?_ (args_listiter_next _)))
  show wpAny _ _ (field (.ref it) 0 >>= _) _ _ s
  refine wpAny_bind (wpAny_field ho hd (x := .ref t) rfl ?_)
  show wpAny _ _ (if (Value.ref t == Value.none) = true then _ else _) _ _ s
  rw [if_neg (show ¬ ((Value.ref t == Value.none) = true) from Bool.false_ne_true)]
  show wpAny _ _ (field (.ref it) 1 >>= _) _ _ s
  refine wpAny_bind (wpAny_field ho hd (x := .int i 0) rfl ?_)
  show wpAny _ _ (seqItems? (.ref t) >>= _) _ _ s
  refine wpAny_bind (wpAny_seqItems hol hdl ?_);simp only [Zw, hx];refine wpAny_bind (wpAny_setField ho hd (by simp) (wpAny_pure ⟨x, rfl, wpAny_pure (hQ _ ?_ (Heap.SameBut.update ..))⟩))
  exact ⟨_, Heap.get?_update_self _ ho (Obj.isFreed_of_fields (Obj.data_mapFields hd _)), (Obj.cls_mapFields ..).trans hc, by
    rw [Obj.data_mapFields hd]; simp [rawInt]⟩
theorem i7 {it t : Addr} {i : Nat} {items : Array Value} {Q : Value -> Shared -> Prop} (hh : A.handled = none)
    (hit : s.heap.IsListIter it t i) (ht : SeqH s.heap t items) (hx : items[i]? = none)
    (hE : ∀ h' e, Heap.ExtBut it s.heap h' -> (∃ o, h'.get? e = some o /\ o.cls = .type "StopIteration") -> E (.ref e) { s with heap := h' }) :
    wpAny (model prog w) A (Builtin.SmallTypes.nextOf (.ref it)) Q E s := by
  obtain ⟨o, ho, hc, hd⟩ := id hit;obtain ⟨ol, nl, hol, hdl⟩ := ht;unfold Builtin.SmallTypes.nextOf
  refine wpAny_bind (wpAny_callSpecial?_slot (name := Str.ofString "__next__") hit.typeIs slot_listiter_next
    (wpAny_call_entry slot_listiter_next hit.typeIs entry_listiter_next ?_ (args_listiter_next _)))
  show wpAny _ _ (field (.ref it) 0 >>= _) _ _ s
  refine wpAny_bind (wpAny_field ho hd (x := .ref t) rfl ?_)
  show wpAny _ _ (if (Value.ref t == Value.none) = true then _ else _) _ _ s
  rw [if_neg (show ¬ ((Value.ref t == Value.none) = true) from Bool.false_ne_true)]
  show wpAny _ _ (field (.ref it) 1 >>= _) _ _ s
  refine wpAny_bind (wpAny_field ho hd (x := .int i 0) rfl ?_)
  show wpAny _ _ (seqItems? (.ref t) >>= _) _ _ s
  refine wpAny_bind (wpAny_seqItems hol hdl ?_);simp only [Zw, hx];refine wpAny_bind (wpAny_rule (wpAny_bind (wpAny_setField ho hd (by simp) ?_)))
  show wpAny _ _ (newExc (.type "StopIteration") [] >>= _) _ _ _
  refine wpAny_bind ?_;simp only [newExc, newTuple];refine wpAny_bind (wpAny_newObj_type ?_ (by size_fits));refine wpAny_bind (m := firstArgMember _ _) (wpAny_of_eq (a := Value.none) (by first | rfl | (simp only [firstArgMember]; rfl)) ?_);refine wpAny_newObj_type ?_ (by size_fits);simp only [raiseNew];refine wpAny_bind (wpAny_handled ?_)
  first | rw [show A.in1.handled = none from hh] | rw [hh]
  refine wpAny_bind (wpAny_pure (wpAny_throw ?_));exact hE _ _ (((Heap.SameBut.update ..).extBut.push _).push _) ⟨_, Heap.get?_push_size _ rfl, rfl⟩
end
structure Drw where
  it : Addr
  l : Addr
  xs : Array Value
def DrAt (h : Heap) (d : Drw) (k : Nat) : Prop := (h.IsListIter d.it d.l k \/ h.IsTupleIter d.it d.l k) /\ SeqH h d.l d.xs
theorem DrAt.ext {h h' : Heap} {d : Drw} {k : Nat} (q : DrAt h d k) (h1 : ∀ o, h.get? d.it = some o -> h'.get? d.it = some o) (h2 : ∀ o, h.get? d.l = some o -> h'.get? d.l = some o) : DrAt h' d k := by
  obtain ⟨a, o', n, e', r'⟩ := q;refine ⟨?_, o', n, h2 o' e', r'⟩
  rcases a with ⟨o, e, r⟩ | ⟨o, e, r⟩
  . exact .inl ⟨o, h1 o e, r⟩
  . exact .inr ⟨o, h1 o e, r⟩
theorem DrAt.itAt {h : Heap} {d : Drw} {k : Nat} (q : DrAt h d k) : ∃ o, h.get? d.it = some o /\ o.data = .fields #[.ref d.l, .int k 0] := by
  rcases q.1 with ⟨o, e, c, r⟩ | ⟨o, e, c, r⟩ <;> exact ⟨o, e, r⟩
theorem DrAt.ne {h : Heap} {d : Drw} {k : Nat} (q : DrAt h d k) : d.l ≠ d.it := fun e => by
  obtain ⟨o, e1, r1⟩ := q.itAt;obtain ⟨o', n, e2, r2⟩ := q.2;rw [e, e1] at e2;cases e2;rw [r1] at r2;cases r2
section
variable {prog : Program} {w : World} {A : Around} {E : Value -> Shared -> Prop} {s : Shared}
theorem d6 {d : Drw} {k : Nat} {x : Value} {Q : Value -> Shared -> Prop} (q : DrAt s.heap d k) (hx : d.xs[k]? = some x) (hQ : ∀ h', DrAt h' d (k + 1) -> Heap.SameBut d.it s.heap h' -> Q x { s with heap := h' }) :
    wpAny (model prog w) A (Builtin.SmallTypes.nextOf (.ref d.it)) Q E s := by
  have hne := q.ne;obtain ⟨a, b⟩ := q
  have keep : ∀ h', Heap.SameBut d.it s.heap h' -> SeqH h' d.l d.xs := fun h' hs => by
    obtain ⟨o', n, e', r'⟩ := b;exact ⟨o', n, hs.extBut _ _ hne e', r'⟩
  rcases a with a | a
  . exact ik a b hx fun h' a' hs => hQ h' ⟨.inl a', keep h' hs⟩ hs
  . exact il a b hx fun h' a' hs => hQ h' ⟨.inr a', keep h' hs⟩ hs
theorem zgi {d : Drw} {k : Nat} {Q : Value -> Shared -> Prop} (hh : A.handled = none) (q : DrAt s.heap d k) (hx : d.xs[k]? = none)
    (hE : ∀ h' e, Heap.ExtBut d.it s.heap h' -> (∃ o, h'.get? e = some o /\ o.cls = .type "StopIteration") -> E (.ref e) { s with heap := h' }) :
    wpAny (model prog w) A (Builtin.SmallTypes.nextOf (.ref d.it)) Q E s := by
  obtain ⟨a, b⟩ := q
  rcases a with a | a
  . exact i7 hh a b hx hE
  . exact gi hh a b hx hE
abbrev yy (h : Heap) (T : Addr) (xs : List Value) : Prop := h.get? T = some { cls := .type "tuple", data := .seq xs.toArray }
structure jv (z TI TO : Addr) (ds : List Drw) : Prop where
  TIz : TI ≠ z
  TOz : TO ≠ z
  TITO : TI ≠ TO
  iz : ∀ d ∈ ds, d.it ≠ z /\ d.it ≠ TI /\ d.it ≠ TO
  lz : ∀ d ∈ ds, d.l ≠ z /\ d.l ≠ TO
  ii : ∀ (i j : Nat) (d e : Drw), ds[i]? = some d -> ds[j]? = some e -> i ≠ j -> d.it ≠ e.it
  li : ∀ (d e : Drw), d ∈ ds -> e ∈ ds -> d.l ≠ e.it
structure ZSt (h0 h : Heap) (z TI TO : Addr) (ds : List Drw) (vs old : List Value) (k j : Nat) : Prop where
  zip : IsZip h z TI TO .ellipsis
  to : yy h TO (vs.take j ++ old.drop j)
  done : ∀ (i : Nat) (d : Drw), ds[i]? = some d -> i < j -> DrAt h d (k + 1)
  todo : ∀ (i : Nat) (d : Drw), ds[i]? = some d -> j <= i -> DrAt h d k
  keep : ∀ c o, c ≠ z -> c ≠ TO -> (∀ d ∈ ds, c ≠ d.it) -> h0.get? c = some o -> h.get? c = some o
  size : h.objs.size = h0.objs.size
theorem zaq {T : Addr} {xs : List Value} {x : Value} {k : Nat} {Q : Unit -> Shared -> Prop} (hT : yy s.heap T xs) (h8 : xs.length <= 8)
    (h : ∀ h', yy h' T (xs.set k x) -> Heap.SameBut T s.heap h' -> Q () { s with heap := h' }) : wpAny (model prog w) A (updateSeq T (·.setIfInBounds k x)) Q E s := by
  have z1 : xs.toArray.size <= sizeLine := by rw [Zr]; exact Zd h8 (by decide)
  have z2 : (xs.toArray.setIfInBounds k x).size <= sizeLine + 1 := by rw [Array.size_setIfInBounds]; omega
  refine wpAny_updateSeq (hz := z1) (_hz' := z2) hT rfl (h _ ?_ (Heap.SameBut.update ..))
  show (s.heap.update T _).get? T = _
  rw [Heap.get?_update_self _ hT rfl];simp [Obj.mapSeq]
theorem i0 {α : Type} {l : List α} {j i : Nat} {v : α} {rest : List (α × Nat)} (er : (v, i) :: rest = l.zipIdx.drop j) : l[j]? = some v /\ i = j /\ rest = l.zipIdx.drop (j + 1) := by
  have h0 : l.zipIdx[j]? = some (v, i) := by
    have : (l.zipIdx.drop j)[0]? = some (v, i) := by rw [<- er]; rfl
    rwa [Yp, Nat.add_zero] at this
  rw [List.getElem?_zipIdx] at h0;have ht : rest = (l.zipIdx.drop j).tail := by rw [<- er]; rfl
  cases e : l[j]? with
  | none => rw [e] at h0; cases h0
  | some u =>
    rw [e] at h0;simp at h0;exact ⟨by rw [h0.1], h0.2.symm, by rw [ht, List.tail_drop]⟩
theorem zga {z TI TO : Addr} {ds : List Drw} {vs old : List Value} {k : Nat} {Q : Value -> Shared -> Prop} (D : jv z TI TO ds) (hn : ds ≠ []) (hz : IsZip s.heap z TI TO .none) (hTI : yy s.heap TI (ds.map fun d => .ref d.it)) (hTO : yy s.heap TO old)
    (lv : vs.length = ds.length) (lo : old.length = ds.length) (h8 : ds.length <= 8) (hd : ∀ d ∈ ds, DrAt s.heap d k) (hv : ∀ (i : Nat) (d : Drw), ds[i]? = some d -> d.xs[k]? = vs[i]?)
    (hQ : ∀ h', IsZip h' z TI TO (rawInt s.heap.objs.size) -> yy h' TO vs -> (∀ d ∈ ds, DrAt h' d (k + 1)) -> yy h' s.heap.objs.size vs -> h'.objs.size = s.heap.objs.size + 1 ->
      (∀ c o, c ≠ z -> c ≠ TO -> (∀ d ∈ ds, c ≠ d.it) -> s.heap.get? c = some o -> h'.get? c = some o) -> Q (.ref s.heap.objs.size) { s with heap := h' }) :
    wpAny (model prog w) A (Builtin.«zip.__next__» ⟨[.ref z], []⟩) (fun fin s' => ∃ v, fin = .done (.ret v) /\ Q v s') E s := by
  show wpAny _ _ (field (.ref z) 2 >>= _) _ _ _
  refine wpAny_bind (wpAny_field hz rfl (x := .bool false) rfl ?_)
  show wpAny _ _ (field (.ref z) 3 >>= _) _ _ _
  refine wpAny_bind (wpAny_field hz rfl (x := .ref TI) rfl ?_);refine wpAny_bind (wpAny_seqItems hTI rfl ?_)
  have hne : ¬ (((ds.map fun d => Value.ref d.it).toArray).isEmpty = true) := by
    simp;exact hn
  show wpAny _ _ (if ((ds.map fun d => Value.ref d.it).toArray.isEmpty = true) then _ else _) _ _ _
  rw [if_neg hne]
  show wpAny _ _ (Builtin.SmallTypes.ownedTupleIsFree (.ref z) >>= _) _ _ _
  refine wpAny_bind ?_;unfold Builtin.SmallTypes.ownedTupleIsFree;refine wpAny_bind (wpAny_field hz rfl (x := .none) rfl (wpAny_pure ?_));simp only [if_true];refine wpAny_bind (wpAny_rule ?_);refine wpAny_bind (wpAny_field hz rfl (x := .ref TO) rfl ?_);refine wpAny_bind (wpAny_setField_rec hz (by simp) fun h₁ hz₁ hs₁ => ?_)
  replace hz₁ : IsZip h₁ z TI TO .ellipsis := hz₁
  refine wpAny_bind ?_
  have st0 : ZSt s.heap h₁ z TI TO ds vs old k 0 := ⟨hz₁, by
    rw [List.take_zero, List.nil_append, List.drop_zero]
    exact hs₁.extBut _ _ D.TOz hTO, fun i d _ h => absurd h (YR _), fun i d e _ => (hd d (Zi e)).ext (fun o q => hs₁.extBut _ _ (D.iz d (Zi e)).1 q) (fun o q => hs₁.extBut _ _ (D.lz d (Zi e)).1 q), fun c o c1 _ _ q => hs₁.extBut _ _ c1 q, hs₁.1⟩
  refine wpAny_forIn_list _ (fun rest b s' => b = (none, ()) /\ ∃ j h, s' = { s with heap := h } /\ j <= ds.length /\ rest = ((ds.map fun d => Value.ref d.it).zipIdx).drop j /\ ZSt s.heap h z TI TO ds vs old k j) _ ?turn ?fin _ _ ⟨rfl, 0, h₁, rfl, ZE _, rfl, st0⟩
  case turn =>
    rintro ⟨v, i⟩ rest b s' ⟨rfl, j, h, rfl, hj, er, st⟩
    obtain ⟨ev, rfl, er2⟩ := i0 er;rw [Ze] at ev
    cases ed : ds[i]? with
    | none => rw [ed] at ev; cases ev
    | some d =>
    rw [ed] at ev;cases ev;have hil := (Zc.mp ed).1;have hm := Zi ed;have ex := hv i d ed;obtain ⟨x, evx⟩ : ∃ x, vs[i]? = some x := ⟨vs[i]'(by omega), Zb _⟩;rw [evx] at ex;refine wpAny_bind (wpAny_onRaise ?_)
    show wpAny _ _ (Builtin.SmallTypes.nextOf (.ref d.it) >>= _) _ _ _
    refine wpAny_bind (d6 (s := { s with heap := h }) (st.todo i d ed (Zm _)) ex fun h₂ hd₂ hs₂ => wpAny_pure ?_)
    replace hs₂ : Heap.SameBut d.it h h₂ := hs₂
    have hTO₂ : yy h₂ TO (vs.take i ++ old.drop i) := hs₂.extBut _ _ (Ne.symm (D.iz d hm).2.2) st.to;refine wpAny_bind (wpAny_seqItems (s := { s with heap := h₂ }) hTO₂ rfl ?_);refine wpAny_bind (zaq (s := { s with heap := h₂ }) hTO₂ (by rw [Zo, Zj, ZP]; omega) fun h₃ hTO₃ hs₃ => ?_)
    replace hs₃ : Heap.SameBut TO h₂ h₃ := hs₃
    refine wpAny_bind (wpAny_letGo (wpAny_pure ?_));have up : ∀ c o, c ≠ d.it -> c ≠ TO -> h.get? c = some o -> h₃.get? c = some o := fun c o c1 c2 e => hs₃.extBut _ _ c2 (hs₂.extBut _ _ c1 e)
    refine ⟨rfl, i + 1, h₃, rfl, hil, er2, ⟨up _ _ (Ne.symm (D.iz d hm).1) (Ne.symm D.TOz) st.zip, ?_, fun m e em hmi => ?_, fun m e em hmi => ?_, fun c o c1 c2 c3 e => up c o (c3 d hm) c2 (st.keep c o c1 c2 c3 e), ?_⟩⟩
    . have : (vs.take i ++ old.drop i).set i x = vs.take (i + 1) ++ old.drop (i + 1) := by
        have lt : (vs.take i).length = i := by rw [Zj]; omega
        have eo : old.drop i = old[i]'(by omega) :: old.drop (i + 1) := List.drop_eq_getElem_cons (by omega);rw [eo, List.set_append_right _ _ (by omega), lt, Nat.sub_self, List.set_cons_zero, Zq, evx];simp
      rw [this] at hTO₃;exact hTO₃
    . have hme := Zi em
      by_cases hmi' : m = i
      . subst hmi'
        rw [ed] at em;cases em;exact hd₂.ext (fun o q => hs₃.extBut _ _ (D.iz d hm).2.2 q) (fun o q => hs₃.extBut _ _ (D.lz d hm).2 q)
      . exact (st.done m e em (by omega)).ext (fun o q => up _ _ (D.ii m i e d em ed hmi') (D.iz e hme).2.2 q) (fun o q => up _ _ (D.li e d hme hm) (D.lz e hme).2 q)
    . have hme := Zi em
      exact (st.todo m e em (by omega)).ext (fun o q => up _ _ (D.ii m i e d em ed (by omega)) (D.iz e hme).2.2 q) (fun o q => up _ _ (D.li e d hme hm) (D.lz e hme).2 q)
    . rw [hs₃.1, hs₂.1, st.size]
  case fin =>
    rintro b s' ⟨rfl, j, h, rfl, hj, er, st⟩
    have hjl : j = ds.length := by
      have := congrArg List.length er;rw [ZP, List.length_zipIdx, Za, ZW] at this;omega
    subst hjl
    have hTO₅ : yy h TO vs := by
      have := st.to
      rwa [<- lv, Zt, List.drop_of_length_le (by omega), Yb] at this
    refine wpAny_bind (wpAny_seqItems (s := { s with heap := h }) hTO₅ rfl ?_);have hzl : vs.length <= sizeLine := Zd (show vs.length <= 8 by omega) (by decide);refine wpAny_bind (wpAny_newTuple (s := { s with heap := h }) ?_ (by simpa using hzl));have hsz := st.size;have hzlt : z < h.objs.size := Heap.lt_size st.zip
    show wpAny _ _ (Builtin.SmallTypes.ownedTupleHandOut (.ref z) (.ref h.objs.size) >>= _) _ _ _
    refine wpAny_bind ?_;unfold Builtin.SmallTypes.ownedTupleHandOut;have hz₆ : IsZip (h.push { cls := .type "tuple", data := .seq vs.toArray }) z TI TO .ellipsis := Heap.get?_push_of_some _ st.zip;refine wpAny_bind (wpAny_setField_rec (s := { s with heap := h.push { cls := .type "tuple", data := .seq vs.toArray } }) hz₆ (by simp) fun h₇ hz₇ hs₇ => ?_)
    replace hz₇ : IsZip h₇ z TI TO (rawInt h.objs.size) := hz₇
    replace hs₇ : Heap.SameBut z (h.push { cls := .type "tuple", data := .seq vs.toArray }) h₇ := hs₇
    refine wpAny_setField_rec (s := { s with heap := h₇ }) hz₇ (by simp) fun h₈ hz₈ hs₈ => ?_
    replace hz₈ : IsZip h₈ z TI TO (rawInt h.objs.size) := hz₈
    replace hs₈ : Heap.SameBut z h₇ h₈ := hs₈
    have up : ∀ c o, c ≠ z -> h.get? c = some o -> h₈.get? c = some o := fun c o c1 e => hs₈.extBut _ _ c1 (hs₇.extBut _ _ c1 (Heap.get?_push_of_some _ e))
    have hT₈ : yy h₈ h.objs.size vs := hs₈.extBut _ _ (ZR hzlt) (hs₇.extBut _ _ (ZR hzlt) (Heap.get?_push_size _ rfl));have hz8 : h₈.objs.size = h.objs.size + 1 := by rw [hs₈.1, hs₇.1, Heap.size_push]
    rw [hsz] at hz₈ hT₈ hz8;refine wpAny_pure ⟨_, rfl, ?_⟩
    show Q (.ref h.objs.size) _
    rw [hsz];refine hQ h₈ hz₈ (up _ _ D.TOz hTO₅) (fun d hm => ?_) hT₈ hz8 fun c o c1 c2 c3 e => up c o c1 (st.keep c o c1 c2 c3 e)
    obtain ⟨m, hml, em⟩ := Zy hm;have em' : ds[m]? = some d := by rw [<- em]; exact Zb hml
    exact (st.done m d em' hml).ext (fun o q => up _ _ (D.iz d hm).1 q) (fun o q => up _ _ (D.lz d hm).1 q)
structure ZSe (h0 h : Heap) (z TI TO : Addr) (ds : List Drw) (k j : Nat) : Prop where
  zip : IsZip h z TI TO .ellipsis
  to : ∃ ts, yy h TO ts /\ ts.length = ds.length
  more : ∀ (i : Nat) (d : Drw), ds[i]? = some d -> i < j -> d.xs[k]? ≠ none
  todo : ∀ (i : Nat) (d : Drw), ds[i]? = some d -> j <= i -> DrAt h d k
  keep : ∀ c o, c ≠ z -> c ≠ TO -> (∀ d ∈ ds, c ≠ d.it) -> h0.get? c = some o -> h.get? c = some o
theorem zhl {z TI TO : Addr} {ds : List Drw} {old : List Value} {k : Nat} {Q : Fin -> Shared -> Prop} (hh : A.handled = none) (D : jv z TI TO ds) (hn : ds ≠ []) (hz : IsZip s.heap z TI TO .none) (hTI : yy s.heap TI (ds.map fun d => .ref d.it)) (hTO : yy s.heap TO old)
    (lo : old.length = ds.length) (h8 : ds.length <= 8) (hd : ∀ d ∈ ds, DrAt s.heap d k) (hend : ∃ d ∈ ds, d.xs[k]? = none)
    (hE : ∀ h' e, (∀ c o, c ≠ z -> c ≠ TO -> (∀ d ∈ ds, c ≠ d.it) -> s.heap.get? c = some o -> h'.get? c = some o) -> (∃ o, h'.get? e = some o /\ o.cls = .type "StopIteration") -> E (.ref e) { s with heap := h' }) :
    wpAny (model prog w) A (Builtin.«zip.__next__» ⟨[.ref z], []⟩) Q E s := by
  show wpAny _ _ (field (.ref z) 2 >>= _) _ _ _
  refine wpAny_bind (wpAny_field hz rfl (x := .bool false) rfl ?_)
  show wpAny _ _ (field (.ref z) 3 >>= _) _ _ _
  refine wpAny_bind (wpAny_field hz rfl (x := .ref TI) rfl ?_);refine wpAny_bind (wpAny_seqItems hTI rfl ?_)
  have hne : ¬ (((ds.map fun d => Value.ref d.it).toArray).isEmpty = true) := by
    simp;exact hn
  show wpAny _ _ (if ((ds.map fun d => Value.ref d.it).toArray.isEmpty = true) then _ else _) _ _ _
  rw [if_neg hne]
  show wpAny _ _ (Builtin.SmallTypes.ownedTupleIsFree (.ref z) >>= _) _ _ _
  refine wpAny_bind ?_;unfold Builtin.SmallTypes.ownedTupleIsFree;refine wpAny_bind (wpAny_field hz rfl (x := .none) rfl (wpAny_pure ?_));simp only [if_true];refine wpAny_bind (wpAny_rule ?_);refine wpAny_bind (wpAny_field hz rfl (x := .ref TO) rfl ?_);refine wpAny_bind (wpAny_setField_rec hz (by simp) fun h₁ hz₁ hs₁ => ?_)
  replace hz₁ : IsZip h₁ z TI TO .ellipsis := hz₁
  refine wpAny_bind ?_;have st0 : ZSe s.heap h₁ z TI TO ds k 0 := ⟨hz₁, ⟨old, hs₁.extBut _ _ D.TOz hTO, lo⟩, fun i d _ h => absurd h (YR _), fun i d e _ => (hd d (Zi e)).ext (fun o q => hs₁.extBut _ _ (D.iz d (Zi e)).1 q) (fun o q => hs₁.extBut _ _ (D.lz d (Zi e)).1 q), fun c o c1 _ _ q => hs₁.extBut _ _ c1 q⟩;refine wpAny_forIn_list _ (fun rest b s' => b = (none, ()) /\ ∃ j h, s' = { s with heap := h } /\ j <= ds.length /\ rest = ((ds.map fun d => Value.ref d.it).zipIdx).drop j /\ ZSe s.heap h z TI TO ds k j) _ ?turn ?fin _ _ ⟨rfl, 0, h₁, rfl, ZE _, rfl, st0⟩
  case turn =>
    rintro ⟨v, i⟩ rest b s' ⟨rfl, j, h, rfl, hj, er, st⟩
    obtain ⟨ev, rfl, er2⟩ := i0 er;rw [Ze] at ev
    cases ed : ds[i]? with
    | none => rw [ed] at ev; cases ev
    | some d =>
    rw [ed] at ev;cases ev;have hil := (Zc.mp ed).1;have hm := Zi ed;refine wpAny_bind (wpAny_onRaise ?_)
    show wpAny _ _ (Builtin.SmallTypes.nextOf (.ref d.it) >>= _) _ _ _
    cases ex : d.xs[k]? with
    | none =>
      refine wpAny_bind (zgi (s := { s with heap := h }) hh (st.todo i d ed (Zm _)) ex fun h₂ e hs₂ he => ?_);obtain ⟨oe, hoe, hce⟩ := he;have hz₂ : IsZip h₂ z TI TO .ellipsis := hs₂ _ _ (Ne.symm (D.iz d hm).1) st.zip;have hez : e ≠ z := fun x => by subst x; rw [hz₂] at hoe; cases hoe; simp at hce
      exact wpAny_setField_rec (s := { s with heap := h₂ }) hz₂ (by simp) fun h₃ _ hs₃ => hE h₃ e (fun c o c1 c2 c3 x => hs₃.extBut _ _ c1 (hs₂ _ _ (c3 d hm) (st.keep c o c1 c2 c3 x))) ⟨oe, hs₃.extBut _ _ hez hoe, hce⟩
    | some x =>
      refine wpAny_bind (d6 (s := { s with heap := h }) (st.todo i d ed (Zm _)) ex fun h₂ hd₂ hs₂ => wpAny_pure ?_)
      replace hs₂ : Heap.SameBut d.it h h₂ := hs₂
      obtain ⟨ts, hts, lts⟩ := st.to;have hTO₂ : yy h₂ TO ts := hs₂.extBut _ _ (Ne.symm (D.iz d hm).2.2) hts;refine wpAny_bind (wpAny_seqItems (s := { s with heap := h₂ }) hTO₂ rfl ?_);refine wpAny_bind (zaq (s := { s with heap := h₂ }) hTO₂ (by omega) fun h₃ hTO₃ hs₃ => ?_)
      replace hs₃ : Heap.SameBut TO h₂ h₃ := hs₃
      refine wpAny_bind (wpAny_letGo (wpAny_pure ?_));have up : ∀ c o, c ≠ d.it -> c ≠ TO -> h.get? c = some o -> h₃.get? c = some o := fun c o c1 c2 e => hs₃.extBut _ _ c2 (hs₂.extBut _ _ c1 e)
      refine ⟨rfl, i + 1, h₃, rfl, hil, er2, ⟨up _ _ (Ne.symm (D.iz d hm).1) (Ne.symm D.TOz) st.zip, ⟨_, hTO₃, by rw [List.length_set]; exact lts⟩, fun m e em hmi => ?_, fun m e em hmi => ?_, fun c o c1 c2 c3 e => up c o (c3 d hm) c2 (st.keep c o c1 c2 c3 e)⟩⟩
      . by_cases hmi' : m = i
        . subst hmi'
          rw [ed] at em;cases em;rw [ex];simp
        . exact st.more m e em (by omega)
      . have hme := Zi em
        exact (st.todo m e em (by omega)).ext (fun o q => up _ _ (D.ii m i e d em ed (by omega)) (D.iz e hme).2.2 q) (fun o q => up _ _ (D.li e d hme hm) (D.lz e hme).2 q)
  case fin =>
    rintro b s' ⟨rfl, j, h, rfl, hj, er, st⟩
    exfalso
    have hjl : j = ds.length := by
      have := congrArg List.length er;rw [ZP, List.length_zipIdx, Za, ZW] at this;omega
    subst hjl;obtain ⟨d, hm, e⟩ := hend;obtain ⟨m, hml, em⟩ := Zy hm;exact st.more m d (by rw [<- em]; exact Zb hml) hml e
theorem gg {z TI TO : Addr} {ds : List Drw} {vs old : List Value} {k : Nat} {Q : Option Value -> Shared -> Prop} (D : jv z TI TO ds) (hn : ds ≠ []) (hz : IsZip s.heap z TI TO .none) (hTI : yy s.heap TI (ds.map fun d => .ref d.it)) (hTO : yy s.heap TO old)
    (lv : vs.length = ds.length) (lo : old.length = ds.length) (h8 : ds.length <= 8) (hd : ∀ d ∈ ds, DrAt s.heap d k) (hv : ∀ (i : Nat) (d : Drw), ds[i]? = some d -> d.xs[k]? = vs[i]?)
    (hQ : ∀ h', IsZip h' z TI TO (rawInt s.heap.objs.size) -> yy h' TO vs -> (∀ d ∈ ds, DrAt h' d (k + 1)) -> yy h' s.heap.objs.size vs -> h'.objs.size = s.heap.objs.size + 1 ->
      (∀ c o, c ≠ z -> c ≠ TO -> (∀ d ∈ ds, c ≠ d.it) -> s.heap.get? c = some o -> h'.get? c = some o) -> Q (some (.ref s.heap.objs.size)) { s with heap := h' }) :
    wpAny (model prog w) A (pyNext (.ref z)) Q E s := by
  have hT : s.TypeIs (.ref z) "zip" := ⟨_, hz, rfl⟩;unfold pyNext
  exact wpAny_bind (wpAny_attempt (wpAny_callSpecial?_slot (name := Str.ofString "__next__") hT F.slot_zip_next
    (wpAny_call_entry F.slot_zip_next hT F.entry_zip_next
      (zga D hn hz hTI hTO lv lo h8 hd hv fun h' a1 a2 a3 a4 a5 a6 => wpAny_pure (hQ h' a1 a2 a3 a4 a5 a6)) (F.args_zip_next_1 _))))
theorem db {z TI TO : Addr} {ds : List Drw} {old : List Value} {k : Nat} {Q : Option Value -> Shared -> Prop} (hh : A.handled = none) (D : jv z TI TO ds) (hn : ds ≠ []) (hz : IsZip s.heap z TI TO .none) (hTI : yy s.heap TI (ds.map fun d => .ref d.it)) (hTO : yy s.heap TO old)
    (lo : old.length = ds.length) (h8 : ds.length <= 8) (hd : ∀ d ∈ ds, DrAt s.heap d k) (hend : ∃ d ∈ ds, d.xs[k]? = none)
    (hQ : ∀ h', (∀ c o, c ≠ z -> c ≠ TO -> (∀ d ∈ ds, c ≠ d.it) -> s.heap.get? c = some o -> h'.get? c = some o) -> Q none { s with heap := h' }) : wpAny (model prog w) A (pyNext (.ref z)) Q E s := by
  have hT : s.TypeIs (.ref z) "zip" := ⟨_, hz, rfl⟩;unfold pyNext
  refine wpAny_bind (wpAny_attempt (wpAny_callSpecial?_slot (name := Str.ofString "__next__") hT F.slot_zip_next
    (wpAny_call_entry F.slot_zip_next hT F.entry_zip_next (zhl hh D hn hz hTI hTO lo h8 hd hend fun h' e hk he => ?_) (F.args_zip_next_1 _))))
  obtain ⟨o, ho, hc⟩ := he;refine wpAny_bind (wpAny_isInstance (T := "StopIteration") (b := true) ⟨o, ho, hc⟩ isSubtype_stop ?_);exact wpAny_pure (hQ _ hk)
end
def SrcAt (h : Heap) (b : Bool) (l : Addr) (xs : Array Value) : Prop := if b = true then h.IsList l xs else h.IsTuple l xs
def xf (b : Bool) (l : Addr) : Obj := { cls := .type (if b = true then "list_iterator" else "tuple_iterator"), data := .fields #[.ref l, .int 0 0] }
theorem SrcAt.push {h : Heap} {b : Bool} {l : Addr} {xs : Array Value} (q : SrcAt h b l xs) (o : Obj) : SrcAt (h.push o) b l xs := by
  cases b
  . obtain ⟨p, e, r⟩ := (show h.IsTuple l xs from q)
    exact ⟨p, Heap.get?_push_of_some _ e, r⟩
  . obtain ⟨p, e, r⟩ := (show h.IsList l xs from q)
    exact ⟨p, Heap.get?_push_of_some _ e, r⟩
theorem l5 {prog : Program} {w : World} {A : Around} {E : Value -> Shared -> Prop} {s : Shared} {b : Bool} {l : Addr} {xs : Array Value} {Q : Value -> Shared -> Prop} (q : SrcAt s.heap b l xs) (hQ : Q (.ref s.heap.objs.size) { s with heap := s.heap.push (xf b l) }) :
    wpAny (model prog w) A (pyIter (.ref l)) Q E s := by
  cases b
  . exact wpAny_pyIter_tuple (show s.heap.IsTuple l xs from q) hQ
  . exact wpAny_pyIter_list (show s.heap.IsList l xs from q) hQ
theorem zc7 (b1 b2 b3 : Bool) (l1 l2 l3 : Addr) (x1 x2 x3 : Array Value) :
    Meets (Builtin.«zip.__new__» ⟨[.type "zip", .ref l1, .ref l2, .ref l3], []⟩) (fun _ R s => SrcAt s.heap b1 l1 x1 /\ SrcAt s.heap b2 l2 x2 /\ SrcAt s.heap b3 l3 x3 /\
      ∀ h', h' = (((((s.heap.push (xf b1 l1)).push (xf b2 l2)).push (xf b3 l3)).push { cls := .type "tuple", data := .seq #[.ref s.heap.objs.size, .ref (s.heap.push (xf b1 l1)).objs.size, .ref ((s.heap.push (xf b1 l1)).push (xf b2 l2)).objs.size] }).push { cls := .type "tuple", data := .seq #[.none, .none, .none] }) ->
      R (.ok (.ret (.ref h'.objs.size))) { s with heap := h'.push { cls := .type "zip", data := .fields #[.none, .bool false, .bool false, .ref (((s.heap.push (xf b1 l1)).push (xf b2 l2)).push (xf b3 l3)).objs.size, .ref ((((s.heap.push (xf b1 l1)).push (xf b2 l2)).push (xf b3 l3)).push { cls := .type "tuple", data := .seq #[.ref s.heap.objs.size, .ref (s.heap.push (xf b1 l1)).objs.size, .ref ((s.heap.push (xf b1 l1)).push (xf b2 l2)).objs.size] }).objs.size] } }) :=
  .of_wp fun prog w A R s h => by
    obtain ⟨hp, g, d, tk, os⟩ := s; obtain ⟨hl1, hl2, hl3, h⟩ := h;have hsub := sub_zip;have hL1 : SrcAt (Shared.heap ⟨hp, g, d, tk, os⟩) b1 l1 x1 := hl1;have hL2 : SrcAt (Shared.heap ⟨hp.push (xf b1 l1), g, d, tk, os⟩) b2 l2 x2 := SrcAt.push hl2 _;have hL3 : SrcAt (Shared.heap ⟨(hp.push (xf b1 l1)).push (xf b2 l2), g, d, tk, os⟩) b3 l3 x3 := SrcAt.push (SrcAt.push hl3 _) _
    wp_walk using l5 hL1, l5 hL2, l5 hL3
    exact ⟨_, rfl, h _ rfl⟩
theorem dj (a b c : Value) : checkTypeCall "zip" ⟨[a, b, c], []⟩ = pure () := by kernel_rfl
theorem ba (a b c : Value) : checkBuiltinCall "zip.__new__" ⟨[.type "zip", a, b, c], []⟩ = pure () := by kernel_rfl
theorem js (a b c d : Value) : argsOk "object.__init__" ⟨[a, b, c, d], []⟩ := by
  unfold argsOk; rw [signature?_of (id := "object.__init__") (n := ['_', '_', 't', 'i', 'n', 'i', '_', '_']) (o := ['t', 'c', 'e', 'j', 'b', 'o']) (by kernel_rfl) F.owner_object]; kernel_rfl
theorem DrAt.start {h : Heap} {b : Bool} {n l : Addr} {xs : Array Value} (e : h.get? n = some (xf b l)) (q : SrcAt h b l xs) : DrAt h ⟨n, l, xs⟩ 0 := by
  cases b
  . obtain ⟨o, e', c, n, r⟩ := (show h.IsTuple l xs from q)
    exact ⟨.inr ⟨_, e, rfl, rfl⟩, o, n, e', r⟩
  . obtain ⟨o, e', c, n, r⟩ := (show h.IsList l xs from q)
    exact ⟨.inl ⟨_, e, rfl, rfl⟩, o, n, e', r⟩
theorem SrcAt.keeps {h h' : Heap} {b : Bool} {l : Addr} {xs : Array Value} (q : SrcAt h b l xs) (k : ∀ c o, h.get? c = some o -> h'.get? c = some o) : SrcAt h' b l xs := by
  cases b
  . obtain ⟨p, e, r⟩ := (show h.IsTuple l xs from q)
    exact ⟨p, k _ _ e, r⟩
  . obtain ⟨p, e, r⟩ := (show h.IsList l xs from q)
    exact ⟨p, k _ _ e, r⟩
section
variable {prog : Program} {w : World} {A : Around} {E : Value -> Shared -> Prop} {s : Shared}
theorem zd1 {b1 b2 b3 : Bool} {l1 l2 l3 : Addr} {x1 x2 x3 : Array Value} {Q : Value -> Shared -> Prop} (hl1 : SrcAt s.heap b1 l1 x1) (hl2 : SrcAt s.heap b2 l2 x2) (hl3 : SrcAt s.heap b3 l3 x3)
    (h : ∀ h', IsZip h' (s.heap.objs.size + 5) (s.heap.objs.size + 3) (s.heap.objs.size + 4) .none -> yy h' (s.heap.objs.size + 3) [.ref s.heap.objs.size, .ref (s.heap.objs.size + 1), .ref (s.heap.objs.size + 2)] ->
      yy h' (s.heap.objs.size + 4) [.none, .none, .none] -> DrAt h' ⟨s.heap.objs.size, l1, x1⟩ 0 -> DrAt h' ⟨s.heap.objs.size + 1, l2, x2⟩ 0 -> DrAt h' ⟨s.heap.objs.size + 2, l3, x3⟩ 0 ->
      (∀ c o, s.heap.get? c = some o -> h'.get? c = some o) -> Q (.ref (s.heap.objs.size + 5)) { s with heap := h' }) :
    wpAny (model prog w) A (call (.type "zip") [.ref l1, .ref l2, .ref l3]) Q E s := by
  refine callType_new F.called_zip (by decide) (dj _ _ _) (ba _ _ _) (fun obj => js obj _ _ _) F.entry_zip_new
    (zc7 b1 b2 b3 l1 l2 l3 x1 x2 x3) ⟨hl1, hl2, hl3, ?_⟩
  intro h0 e0;generalize e1 : s.heap.push (xf b1 l1) = h1 at *;have z1 : h1.objs.size = s.heap.objs.size + 1 := by rw [<- e1]; exact Heap.size_push ..
  generalize e2 : h1.push (xf b2 l2) = h2 at *;have z2 : h2.objs.size = s.heap.objs.size + 2 := by rw [<- e2, Heap.size_push, z1]
  generalize e3 : h2.push (xf b3 l3) = h3 at *;have z3 : h3.objs.size = s.heap.objs.size + 3 := by rw [<- e3, Heap.size_push, z2]
  rw [z1, z2] at e0;rw [z1, z2, z3];generalize e4 : h3.push { cls := .type "tuple", data := .seq #[.ref s.heap.objs.size, .ref (s.heap.objs.size + 1), .ref (s.heap.objs.size + 2)] } = h4 at *;have z4 : h4.objs.size = s.heap.objs.size + 4 := by rw [<- e4, Heap.size_push, z3]
  have z5 : h0.objs.size = s.heap.objs.size + 5 := by rw [e0, Heap.size_push, z4]
  rw [z4, z5];have k1 : ∀ c o, s.heap.get? c = some o -> h1.get? c = some o := fun c o q => by rw [<- e1]; exact Heap.get?_push_of_some _ q
  have k2 : ∀ c o, h1.get? c = some o -> h2.get? c = some o := fun c o q => by rw [<- e2]; exact Heap.get?_push_of_some _ q
  have k3 : ∀ c o, h2.get? c = some o -> h3.get? c = some o := fun c o q => by rw [<- e3]; exact Heap.get?_push_of_some _ q
  have k4 : ∀ c o, h3.get? c = some o -> h4.get? c = some o := fun c o q => by rw [<- e4]; exact Heap.get?_push_of_some _ q
  have k5 : ∀ c o, h4.get? c = some o -> h0.get? c = some o := fun c o q => by rw [e0]; exact Heap.get?_push_of_some _ q
  have g1 : h1.get? s.heap.objs.size = some (xf b1 l1) := by rw [<- e1]; exact Heap.get?_push_size _ rfl
  have g2 : h2.get? (s.heap.objs.size + 1) = some (xf b2 l2) := by rw [<- e2, <- z1]; exact Heap.get?_push_size _ rfl
  have g3 : h3.get? (s.heap.objs.size + 2) = some (xf b3 l3) := by rw [<- e3, <- z2]; exact Heap.get?_push_size _ rfl
  have g4 : h4.get? (s.heap.objs.size + 3) = some { cls := .type "tuple", data := .seq #[.ref s.heap.objs.size, .ref (s.heap.objs.size + 1), .ref (s.heap.objs.size + 2)] } := by rw [<- e4, <- z3]; exact Heap.get?_push_size _ rfl
  have g5 : h0.get? (s.heap.objs.size + 4) = some { cls := .type "tuple", data := .seq #[.none, .none, .none] } := by rw [e0, <- z4]; exact Heap.get?_push_size _ rfl
  generalize ezo : ({ cls := .type "zip", data := .fields #[.none, .bool false, .bool false, .ref (s.heap.objs.size + 3), .ref (s.heap.objs.size + 4)] } : Obj) = zo at *;have k6 : ∀ c o, h0.get? c = some o -> (h0.push zo).get? c = some o := fun c o q => Heap.get?_push_of_some _ q
  have g6 : (h0.push zo).get? (s.heap.objs.size + 5) = some zo := by rw [<- z5]; exact Heap.get?_push_size _ (by rw [<- ezo]; rfl)
  have kk : ∀ c o, s.heap.get? c = some o -> (h0.push zo).get? c = some o := fun c o q => k6 _ _ (k5 _ _ (k4 _ _ (k3 _ _ (k2 _ _ (k1 _ _ q)))))
  show _ /\ _
  have g7 : IsZip (h0.push zo) (s.heap.objs.size + 5) (s.heap.objs.size + 3) (s.heap.objs.size + 4) .none := by
    show (h0.push zo).get? _ = _
    rw [g6, <- ezo]
  refine ⟨⟨_, g7, rfl⟩, h _ g7 (k6 _ _ (k5 _ _ g4)) (k6 _ _ g5) ?_ ?_ ?_ kk⟩
  . exact DrAt.start (b := b1) (k6 _ _ (k5 _ _ (k4 _ _ (k3 _ _ (k2 _ _ g1))))) (hl1.keeps kk)
  . exact DrAt.start (b := b2) (k6 _ _ (k5 _ _ (k4 _ _ (k3 _ _ g2)))) (hl2.keeps kk)
  . exact DrAt.start (b := b3) (k6 _ _ (k5 _ _ (k4 _ _ g3))) (hl3.keeps kk)
end
end L2
namespace L2
open PySem PySem.Spec PyProof.Rows
def SqA (K : Fg) (H : Hp) (a : Addr) (xs : List V) : Prop := SqL K H a xs \/ SqT K H a xs
structure uj (K : Fg) (H : Hp) (as : List Addr) (xss : List (List V)) : Prop where
  len : as.length = xss.length
  at' : ∀ (j : Nat) (a : Addr) (xs : List V), as[j]? = some a -> xss[j]? = some xs -> SqA K H a xs
def ItN (K : Fg) (as : List Addr) : It :=
  ⟨fun i H => ∃ xss, uj K H as xss /\ ∀ xs ∈ xss, i < xs.length,
   fun i H v H' => ∃ T vs, v = .ref T /\ H T = none /\ H' = upd H T (.tup vs) /\ ∀ xss, uj K H as xss -> vs.length = xss.length /\ ∀ (j : Nat) (xs : List V), xss[j]? = some xs -> xs[i]? = vs[j]?,
   fun i H => ∃ xss, uj K H as xss /\ ∃ xs ∈ xss, xs.length <= i⟩
def zd8 (z TI TO : Addr) (its ls : List Addr) (i : Nat) (h : Heap) : Prop :=
  IsZip h z TI TO .none /\ yy h TI (its.map fun a => .ref a) /\ (∃ old, yy h TO old /\ old.length = its.length) /\ ∀ (j : Nat) (it l : Addr), its[j]? = some it -> ls[j]? = some l -> h.IsListIter it l i \/ h.IsTupleIter it l i
structure aq (z TI TO : Addr) (its : List Addr) : Prop where
  TIz : TI ≠ z
  TOz : TO ≠ z
  TITO : TI ≠ TO
  iz : ∀ it ∈ its, it ≠ z /\ it ≠ TI /\ it ≠ TO
  nd : its.Nodup
section
variable {X : Cx} {pins : List (Addr × Obj)} {σ : St} {H : Hp} {s : Shared}
theorem Inv.sqA (I : Inv X pins σ H s) {a : Addr} {xs : List V} (q : SqA X.K H a xs) : ∃ us : List Value, Vals xs us /\ SeqH s.heap a us.toArray := by
  rcases q with q | q
  . obtain ⟨us, r, pl, _⟩ := I.list q
    obtain ⟨o, e, c, n, d⟩ := pl.isList;exact ⟨us, r, o, n, e, d⟩
  . obtain ⟨us, r, ⟨o, e, c, n, d⟩, _⟩ := I.tuple q
    exact ⟨us, r, o, n, e, d⟩
theorem Inv.sqA_inj (I : Inv X pins σ H s) {a : Addr} {xs ys : List V} (q : SqA X.K H a xs) (q' : SqA X.K H a ys) : xs = ys := by
  obtain ⟨us, r, o, n, e, d⟩ := I.sqA q;obtain ⟨us', r', o', n', e', d'⟩ := I.sqA q';rw [e] at e';cases e';rw [d] at d'
  injection d' with d1 _
  have : us = us' := by simpa using congrArg Array.toList d1
  subst this;exact r.inj r'
theorem Inv.sqA_ne (I : Inv X pins σ H s) {a b : Addr} {xs : List V} (q : SqA X.K H a xs) (f : FpOk X pins H b) : a ≠ b := by
  rintro rfl
  have hk : ∀ o, X.K.lookup a = some o -> False := fun o hk => by
    have e : X.base.get? a = some o := I.ok.mod.kin a o hk
    rcases f.2.2.2.1 with z | z
    . exact I.ok.noex _ _ e z
    . exact absurd (Heap.lt_size (I.ok.bs a o e).1) (ZD.mpr z)
  rcases q with ((q | ⟨o, q⟩) | ⟨o, its, n, q, _⟩) | ((q | ⟨o, q⟩) | ⟨o, its, n, q, _⟩)
  . rw [f.1] at q; cases q
  . rw [f.1] at q; cases q
  . exact hk o q
  . rw [f.1] at q; cases q
  . rw [f.1] at q; cases q
  . exact hk o q
def mkDs : List Addr -> List Addr -> List (List Value) -> List Drw
  | it :: its, l :: ls, u :: us => ⟨it, l, u.toArray⟩ :: mkDs its ls us
  | _, _, _ => []
theorem vh : ∀ {its ls : List Addr} {us : List (List Value)}, its.length = ls.length -> ls.length = us.length -> ∀ (j : Nat) (d : Drw), (mkDs its ls us)[j]? = some d ↔ ∃ it l u, its[j]? = some it /\ ls[j]? = some l /\ us[j]? = some u /\ d = ⟨it, l, u.toArray⟩
  | [], [], [], _, _, j, d => by simp [mkDs]
  | it :: its, l :: ls, u :: us, h1, h2, 0, d => by
    simp only [mkDs, List.getElem?_cons_zero, Option.some.injEq]
    constructor
    . intro e; exact ⟨it, l, u, rfl, rfl, rfl, e.symm⟩
    . rintro ⟨a, b, c, rfl, rfl, rfl, e⟩; exact e.symm
  | it :: its, l :: ls, u :: us, h1, h2, j + 1, d => by
    simp only [mkDs, Yr];exact vh (by simpa using h1) (by simpa using h2) j d
theorem gy : ∀ {its ls : List Addr} {us : List (List Value)}, its.length = ls.length -> ls.length = us.length -> (mkDs its ls us).length = its.length
  | [], [], [], _, _ => rfl
  | it :: its, l :: ls, u :: us, h1, h2 => by
    simp only [mkDs, ZL];rw [gy (by simpa using h1) (by simpa using h2)]
theorem gl : ∀ {its ls : List Addr} {us : List (List Value)}, its.length = ls.length -> ls.length = us.length -> (mkDs its ls us).map (fun d => Value.ref d.it) = its.map fun a => Value.ref a
  | [], [], [], _, _ => rfl
  | it :: its, l :: ls, u :: us, h1, h2 => by
    simp only [mkDs, ZO];rw [gl (by simpa using h1) (by simpa using h2)]
theorem kx (I : Inv X pins σ H s) : ∀ {as : List Addr} {xss : List (List V)}, uj X.K H as xss -> ∃ uss : List (List Value), as.length = uss.length /\ ∀ (j : Nat) (a : Addr) (xs : List V) (us : List Value), as[j]? = some a -> xss[j]? = some xs -> uss[j]? = some us -> Vals xs us /\ SeqH s.heap a us.toArray
  | [], [], _ => ⟨[], rfl, fun j a xs us e => by simp at e⟩
  | a :: as, xs :: xss, q => by
    obtain ⟨us, r, sq⟩ := I.sqA (q.at' 0 a xs rfl rfl);obtain ⟨uss, l, f⟩ := kx I (as := as) (xss := xss) ⟨by simpa using q.len, fun j b ys e1 e2 => q.at' (j + 1) b ys (by simpa using e1) (by simpa using e2)⟩;refine ⟨us :: uss, by simp [l], fun j b ys vs e1 e2 e3 => ?_⟩
    cases j with
    | zero =>
      simp at e1 e2 e3;subst e1 e2 e3;exact ⟨r, sq⟩
    | succ j => exact f j b ys vs (by simpa using e1) (by simpa using e2) (by simpa using e3)
  | [], xs :: xss, q => by simpa using q.len
  | a :: as, [], q => by simpa using q.len
theorem ze4 (I : Inv X pins σ H s) {as : List Addr} {xss yss : List (List V)} (q : uj X.K H as xss) (q' : uj X.K H as yss) : xss = yss := by
  refine List.ext_getElem? fun j => ?_
  cases e1 : xss[j]? with
  | none =>
    have := List.getElem?_eq_none_iff.mp e1;exact (Yz (by rw [<- q'.len, q.len]; exact this)).symm
  | some xs =>
    have hj := (Zc.mp e1).1;have hj1 : j < as.length := by rw [q.len]; exact hj
    have hj2 : j < yss.length := by rw [<- q'.len]; exact hj1
    rw [Zb hj2, I.sqA_inj (q.at' j _ xs (Zb hj1) e1) (q'.at' j _ _ (Zb hj1) (Zb hj2))]
theorem dg (I : Inv X pins σ H s) {z TI TO : Addr} {its ls : List Addr} (D : aq z TI TO its) (hl : its.length = ls.length) {i : Nat} (hf : ∀ b ∈ z :: TI :: TO :: its, FpOk X pins H b) (st : zd8 z TI TO its ls i s.heap) {xss : List (List V)} (q : uj X.K H ls xss)
    {uss : List (List Value)} (lu : ls.length = uss.length) (hu : ∀ (j : Nat) (a : Addr) (xs : List V) (us : List Value), ls[j]? = some a -> xss[j]? = some xs -> uss[j]? = some us -> Vals xs us /\ SeqH s.heap a us.toArray) :
    jv z TI TO (mkDs its ls uss) /\ ∀ d ∈ mkDs its ls uss, DrAt s.heap d i := by
  have get : ∀ d ∈ mkDs its ls uss, ∃ (j : Nat) (it l : Addr) (u : List Value) (xs : List V), its[j]? = some it /\ ls[j]? = some l /\ uss[j]? = some u /\ xss[j]? = some xs /\ d = ⟨it, l, u.toArray⟩ := fun d hd => by
    obtain ⟨j, hj, e⟩ := Zy hd;obtain ⟨it, l, u, e1, e2, e3, e4⟩ := (vh hl lu j d).mp (by rw [<- e]; exact Zb hj);have hjx : j < xss.length := by rw [<- q.len]; exact (Zc.mp e2).1
    exact ⟨j, it, l, u, _, e1, e2, e3, Zb hjx, e4⟩
  have at0 : ∀ d ∈ mkDs its ls uss, DrAt s.heap d i := fun d hd => by
    obtain ⟨j, it, l, u, xs, e1, e2, e3, e4, rfl⟩ := get d hd;exact ⟨st.2.2.2 j it l e1 e2, (hu j l xs u e2 e4 e3).2⟩
  have sq : ∀ d ∈ mkDs its ls uss, ∃ xs, SqA X.K H d.l xs := fun d hd => by
    obtain ⟨j, it, l, u, xs, e1, e2, e3, e4, rfl⟩ := get d hd;exact ⟨xs, q.at' j l xs e2 e4⟩
  have itm : ∀ d ∈ mkDs its ls uss, d.it ∈ its := fun d hd => by
    obtain ⟨j, it, l, u, xs, e1, e2, e3, e4, rfl⟩ := get d hd;exact Zi e1
  refine ⟨⟨D.TIz, D.TOz, D.TITO, fun d hd => D.iz _ (itm d hd), fun d hd => ?_, fun j k d e ej ek hjk => ?_, fun d e hd he => ?_⟩, at0⟩
  . obtain ⟨xs, q1⟩ := sq d hd
    exact ⟨I.sqA_ne q1 (hf z (by simp)), I.sqA_ne q1 (hf TO (by simp))⟩
  . obtain ⟨it, l, u, a1, _, _, rfl⟩ := (vh hl lu j d).mp ej
    obtain ⟨it', l', u', a1', _, _, rfl⟩ := (vh hl lu k e).mp ek;intro heq;have heq' : it = it' := heq;subst heq';obtain ⟨h1, g1⟩ := Zc.mp a1;obtain ⟨h2, g2⟩ := Zc.mp a1';exact hjk ((Yv D.nd).mp (g1.trans g2.symm))
  . obtain ⟨xs, q1⟩ := sq d hd
    exact I.sqA_ne q1 (hf e.it (by simp [itm e he]))
end
theorem zfd {P : Program} {w : World} {K : Fg} {elts : List Expr} {x1 : Nat} {pos : Pos} (z TI TO : Addr) (its ls : List Addr) (D : aq z TI TO its) (hl : its.length = ls.length) (hn : its ≠ []) (h8 : its.length <= 8) :
    Turn P w K (.Tuple elts x1 pos) (ItN K ls) (z :: TI :: TO :: its) z (zd8 z TI TO its ls) where
  mem := by simp
  obj := fun i h st b hb => by
    obtain ⟨hz, hTI, ⟨old, hTO, _⟩, hi⟩ := st;simp only [ZK] at hb
    rcases hb with rfl | rfl | rfl | hb
    . exact ⟨_, hz, fun v q => by cases q⟩
    . exact ⟨_, hTI, fun v q => by cases q⟩
    . exact ⟨_, hTO, fun v q => by cases q⟩
    . obtain ⟨j, hj, e⟩ := Zy hb
      have hj2 : j < ls.length := by rw [<- hl]; exact hj
      rcases hi j b _ (by rw [<- e]; exact Zb hj) (Zb hj2) with ⟨o, e1, _, d1⟩ | ⟨o, e1, _, d1⟩
      . exact ⟨o, e1, fun v q => by rw [d1] at q; cases q⟩
      . exact ⟨o, e1, fun v q => by rw [d1] at q; cases q⟩
  keep := fun i h h' st k => by
    obtain ⟨hz, hTI, ⟨old, hTO, lo⟩, hi⟩ := st;refine ⟨k z (by simp) _ hz, k TI (by simp) _ hTI, ⟨old, k TO (by simp) _ hTO, lo⟩, fun j it l e1 e2 => ?_⟩;have hm : it ∈ z :: TI :: TO :: its := by simp [Zi e1]
    rcases hi j it l e1 e2 with ⟨o, a, r⟩ | ⟨o, a, r⟩
    . exact .inl ⟨o, k it hm o a, r⟩
    . exact .inr ⟨o, k it hm o a, r⟩
  item := by
    intro X hP hw hK hc i pins s σ H E I hf st hg;subst hP hw hK;obtain ⟨xss, q, hlen⟩ := hg;obtain ⟨uss, lu, hu⟩ := kx I q;obtain ⟨A, at0⟩ := dg I D hl hf st q lu hu;obtain ⟨hz, hTI, ⟨old, hTO, lo⟩, hi⟩ := id st;have dl := gy hl lu
    -- the values of this turn
    have hvs : ∃ (vs : List V) (ws : List Value), Vals vs ws /\ vs.length = xss.length /\ ws.length = xss.length /\ (∀ (j : Nat) (xs : List V), xss[j]? = some xs -> xs[i]? = vs[j]?) /\ ∀ (j : Nat) (us : List Value), uss[j]? = some us -> us[i]? = ws[j]? := by
      have go : ∀ (ys : List (List V)) (us : List (List Value)), ys.length = us.length -> (∀ xs ∈ ys, i < xs.length) -> (∀ (j : Nat) (xs : List V) (u : List Value), ys[j]? = some xs -> us[j]? = some u -> Vals xs u) ->
          ∃ (vs : List V) (ws : List Value), Vals vs ws /\ vs.length = ys.length /\ ws.length = ys.length /\ (∀ (j : Nat) (xs : List V), ys[j]? = some xs -> xs[i]? = vs[j]?) /\ ∀ (j : Nat) (u : List Value), us[j]? = some u -> u[i]? = ws[j]? := by
        intro ys
        induction ys with
        | nil =>
          intro us hl _ _
          cases us with
          | nil => exact ⟨[], [], .nil, rfl, rfl, fun j xs e => by simp at e, fun j xs e => by simp at e⟩
          | cons _ _ => simp at hl
        | cons y ys ih =>
          intro us hl h1 h2
          cases us with
          | nil => simp at hl
          | cons u us =>
            obtain ⟨vs, ws, r, l1, l2, g1, g2⟩ := ih us (by simpa using hl) (fun xs hx => h1 xs (Zv _ hx)) fun j xs v e1 e2 => h2 (j + 1) xs v (by simpa using e1) (by simpa using e2)
            have hy : i < y.length := h1 y ZA;have r0 := h2 0 y u rfl rfl;obtain ⟨x, hx, rx⟩ := r0.get (Zb hy);refine ⟨y[i] :: vs, x :: ws, .cons rx r, by simp [l1], by simp [l2], fun j xs e => ?_, fun j v e => ?_⟩
            . cases j with
              | zero =>
                simp at e;subst e;simp [hy]
              | succ j => simpa using g1 j xs (by simpa using e)
            . cases j with
              | zero =>
                simp at e;subst e
                simpa using hx
              | succ j => simpa using g2 j v (by simpa using e)
      refine go xss uss (by rw [<- q.len, lu]) hlen fun j xs u e1 e2 => ?_
      have hj : j < ls.length := by rw [lu]; exact (Zc.mp e2).1
      exact (hu j _ xs u (Zb hj) e1 e2).1
    obtain ⟨vs, ws, rvs, lv, lw, gv, gw⟩ := hvs;refine gg (vs := ws) (old := old) A (fun e => hn (by have := congrArg List.length e; rw [dl] at this; exact Ye.mp this)) hz (by rw [gl hl lu]; exact hTI) hTO (by rw [lw, dl, hl, q.len]) (by rw [lo, dl]) (by rw [dl]; exact h8) at0 (fun j d ed => ?_) fun h' a1 a2 a3 a4 a5 hk => ?_
    . obtain ⟨it, l, u, e1, e2, e3, rfl⟩ := (vh hl lu j d).mp ed
      show u.toArray[i]? = _
      rw [List.getElem?_toArray];exact gw j u e3
    have ltT : ∀ {c o}, s.heap.get? c = some o -> c ≠ s.heap.objs.size := fun e => Zs (Heap.lt_size e)
    refine ⟨_, rfl, wpAny_letOwnedTupleGo_zip (s := { s with heap := h' }) a1 fun h'' b1 sb => ?_⟩;have hTz : s.heap.objs.size ≠ z := Ne.symm (ltT hz)
    have itz : ∀ d ∈ mkDs its ls uss, d.it ∈ its := fun d hd => by
      obtain ⟨j, hj, e⟩ := Zy hd;obtain ⟨it, l, u, e1, _, _, e4⟩ := (vh hl lu j d).mp (by rw [<- e]; exact Zb hj);rw [e4];exact Zi e1
    have kk : ∀ c o, c ∉ z :: TO :: its -> s.heap.get? c = some o -> h''.get? c = some o := fun c o hc e => by
      simp only [ZK, not_or] at hc;exact sb.extBut c o hc.1 (hk c o hc.1 hc.2.1 (fun d hd z => hc.2.2 (z ▸ itz d hd)) e)
    have hf4 : ∀ b ∈ z :: TO :: its, FpOk X pins H b := fun b hb => hf b (by
      simp only [ZK] at hb ⊢
      rcases hb with h | h | h
      . exact .inl h
      . exact .inr (.inr (.inl h))
      . exact .inr (.inr (.inr h)))
    have hvl : vs.length <= sizeLine := Zd (show vs.length <= 8 by rw [lv, <- q.len, <- hl]; exact h8) (by decide)
    have I1 : Inv X pins σ (upd H s.heap.objs.size (.tup vs)) { s with heap := h'', toks := s.toks } := I.turnedLaid (ch := z :: TO :: its) hf4 (fun b o hb e => kk b o hb e) (Zm _) ⟨hvl, ws, rvs, by
        have e := sb.extBut _ _ hTz a4
        exact ⟨_, e, rfl, _, rfl, rfl⟩⟩
    refine ⟨.ref s.heap.objs.size, _, I1, rfl, ⟨s.heap.objs.size, vs, rfl, I.hok.fresh (Zm _), rfl, fun yss q' => ?_⟩, ?_, fun b hb => ?_⟩
    . rw [ze4 I q' q]
      exact ⟨lv, gv⟩
    . refine ⟨b1, sb.extBut _ _ D.TIz (hk _ _ D.TIz D.TITO (fun d hd => Ne.symm (A.iz d hd).2.1) hTI), ⟨ws, sb.extBut _ _ D.TOz a2, by rw [lw, <- q.len, hl]⟩, fun j it l e1 e2 => ?_⟩
      have hj3 : j < uss.length := by rw [<- lu]; exact (Zc.mp e2).1
      have hm : (⟨it, l, (uss[j]).toArray⟩ : Drw) ∈ mkDs its ls uss := Zi ((vh hl lu j _).mpr ⟨it, l, _, e1, e2, Zb hj3, rfl⟩);have hne : it ≠ z := (A.iz _ hm).1
      rcases (a3 _ hm).1 with ⟨o, a, r⟩ | ⟨o, a, r⟩
      . exact .inl ⟨o, sb.extBut _ _ hne a, r⟩
      . exact .inr ⟨o, sb.extBut _ _ hne a, r⟩
    . have hb' := (hf b hb).1
      rw [zx ?_]
      . exact hb'
      . simp only [ZK] at hb
        rcases hb with rfl | rfl | rfl | hb
        . exact ltT hz
        . exact ltT hTI
        . exact ltT hTO
        . obtain ⟨j, hj, e⟩ := Zy hb
          have hj2 : j < ls.length := by rw [<- hl]; exact hj
          rcases hi j b _ (by rw [<- e]; exact Zb hj) (Zb hj2) with ⟨o, e1, _⟩ | ⟨o, e1, _⟩ <;> exact ltT e1
  done := by
    intro X hP hw hK hc i pins s σ H E I hf st hg;subst hP hw hK;obtain ⟨xss, q, xs, hxm, hle⟩ := hg;obtain ⟨uss, lu, hu⟩ := kx I q;obtain ⟨A, at0⟩ := dg I D hl hf st q lu hu;obtain ⟨hz, hTI, ⟨old, hTO, lo⟩, hi⟩ := id st;have dl := gy hl lu
    have itz : ∀ d ∈ mkDs its ls uss, d.it ∈ its := fun d hd => by
      obtain ⟨j, hj, e⟩ := Zy hd;obtain ⟨it, l, u, e1, _, _, e4⟩ := (vh hl lu j d).mp (by rw [<- e]; exact Zb hj);rw [e4];exact Zi e1
    refine db (old := old) (I.ok.hd hc) A (fun e => hn (by have := congrArg List.length e; rw [dl] at this; exact Ye.mp this)) hz (by rw [gl hl lu]; exact hTI) hTO (by rw [lo, dl]) (by rw [dl]; exact h8) at0 ?_ fun h' hk => ⟨rfl, ?_⟩
    . obtain ⟨j, hj, e⟩ := Zy hxm
      have ex : xss[j]? = some xs := by rw [<- e]; exact Zb hj
      have hj1 : j < ls.length := by rw [q.len]; exact hj
      have hj2 : j < its.length := by rw [hl]; exact hj1
      have hj3 : j < uss.length := by rw [<- lu]; exact hj1
      refine ⟨⟨its[j], ls[j], (uss[j]).toArray⟩, Zi ((vh hl lu j _).mpr ⟨_, _, _, Zb hj2, Zb hj1, Zb hj3, rfl⟩), ?_⟩;have r := (hu j _ xs _ (Zb hj1) ex (Zb hj3)).1;have rl := r.length
      show (uss[j]).toArray[i]? = none
      rw [List.getElem?_toArray];exact Yz (by omega)
    have nch : ∀ b u, H b = some u -> b ∉ z :: TO :: its := fun b u e q => by
      have := (hf b (by
        simp only [ZK] at q ⊢
        rcases q with h | h | h
        . exact .inl h
        . exact .inr (.inr (.inl h))
        . exact .inr (.inr (.inr h)))).1
      rw [this] at e; cases e
    have k : ∀ b o, b ∉ z :: TO :: its -> s.heap.get? b = some o -> h'.get? b = some o := fun b o hb e => by
      simp only [ZK, not_or] at hb;exact hk b o hb.1 hb.2.1 (fun d hd z => hb.2.2 (z ▸ itz d hd)) e
    have hf4 : ∀ b ∈ z :: TO :: its, FpOk X pins H b := fun b hb => hf b (by
      simp only [ZK] at hb ⊢
      rcases hb with h | h | h
      . exact .inl h
      . exact .inr (.inr (.inl h))
      . exact .inr (.inr (.inr h)))
    exact I.step (g' := s.gens) (d' := s.drawn) (t' := s.toks) (ch := z :: TO :: its) (fun b hb => by
        obtain ⟨f0, f1, f2, f3, f4, f5⟩ := hf4 b hb
        exact ⟨f3, f1, f4, f5⟩) (fun b o _ _ hc e _ => k b o hc e) (fun b o _ _ hc e _ => ⟨o.slots, k b o hc e⟩) (fun b o _ e n => n)
      (fun b o hc e => ⟨o, k b o hc e⟩) (fun b xs e => e) (fun b ob u e => e) (fun b ps e => ⟨#[], by rw [e]; simp⟩) (fun m hm => by
        obtain ⟨ob, es, ep, ho, r⟩ := hm
        exact ⟨ob, es, ep, k _ ob (fun q => (hf4 _ q).2.1 rfl) ho, r⟩) (fun b u e => (I.hok b u e).stay (fun c v hc q => k c v (by
          rcases hc with r | r
          . rw [r]; exact nch b u e
          . exact nch c _ r) q) (fun _ q => q) fun _ _ q => q) I.bare
  self := fun _ _ _ _ _ st h => wpAny_pyIter_zip st.1 h
theorem Inv.src {X : Cx} {pins : List (Addr × Obj)} {σ : St} {H : Hp} {s : Shared} (I : Inv X pins σ H s) {a : Addr} {xs : List V} (q : SqA X.K H a xs) : ∃ b us, SrcAt s.heap b a us := by
  rcases q with q | q
  . obtain ⟨us, r, pl, _⟩ := I.list q
    exact ⟨true, _, pl.isList⟩
  . obtain ⟨us, r, pl, _⟩ := I.tuple q
    exact ⟨false, _, pl⟩
def iZip3 (K : Fg) (ta : TA) : TI := fun σ H R => ta σ H fun vs H1 => ∃ a b c, vs = [.ref a, .ref b, .ref c] /\ (∃ xss, uj K H1 [a, b, c] xss) /\ R (ItN K [a, b, c]) H1
def iZip2 (K : Fg) (ta : TA) : TI := fun σ H R => ta σ H fun vs H1 => ∃ a b, vs = [.ref a, .ref b] /\ (∃ xss, uj K H1 [a, b] xss) /\ R (ItN K [a, b]) H1
theorem e_zip3 {K : Fg} {ta : TA} {σ : St} {H : Hp} {R : It -> Hp -> Prop} : iZip3 K ta σ H R = ta σ H fun vs H1 => ∃ a b c, vs = [.ref a, .ref b, .ref c] /\ (∃ xss, uj K H1 [a, b, c] xss) /\ R (ItN K [a, b, c]) H1 := rfl
theorem e_zip2 {K : Fg} {ta : TA} {σ : St} {H : Hp} {R : It -> Hp -> Prop} : iZip2 K ta σ H R = ta σ H fun vs H1 => ∃ a b, vs = [.ref a, .ref b] /\ (∃ xss, uj K H1 [a, b] xss) /\ R (ItN K [a, b]) H1 := rfl
theorem Vals.three {x y z : V} {us : List Value} (r : Vals [x, y, z] us) : ∃ u v w, us = [u, v, w] /\ RelV x u /\ RelV y v /\ RelV z w := by
  cases r with
  | cons r1 r => cases r with
    | cons r2 r => cases r with
      | cons r3 r =>
        cases r;exact ⟨_, _, _, rfl, r1, r2, r3⟩
theorem zhe {X : Cx} {a b c : Expr} {ta : TA} {p pos tpos : Pos} {elts : List Expr} {x1 : Nat} (hg : Gl X "zip") (hm : X.mg "zip" = none) (ha : PA X [a, b, c] ta)
    (hs : starEach [a, b, c] X.env = (false, eval a X.env) :: starEach [b, c] X.env := by rfl) (hs2 : (backTo pos (starEach [b, c] X.env)).any (·.1) = false := by rfl) :
    PI X (.Tuple elts x1 tpos) (.Call (.Name "zip" p) [a, b, c] [] pos) (iZip3 X.K ta) := by
  intro pins s σ H R I h;refine Call_ (ud I hg hm zel (PyProof.Rows.callWith_type1 (thn (ha pos pins s σ H _ I h) fun us s1 ⟨vs, H1, I1, r1, q1⟩ => ?_) hs hs2));obtain ⟨a, b, c, e, ⟨xss, qa⟩, q⟩ := q1;subst e;obtain ⟨u, v, y, rfl, ru, rv, ry⟩ := Vals.three r1;cases ru; cases rv; cases ry
  match xss, qa with
  | [xa, xb, xc], qa =>
  obtain ⟨k1, y1, s1'⟩ := I1.src (qa.at' 0 a xa rfl rfl);obtain ⟨k2, y2, s2'⟩ := I1.src (qa.at' 1 b xb rfl rfl);obtain ⟨k3, y3, s3'⟩ := I1.src (qa.at' 2 c xc rfl rfl);refine zd1 s1' s2' s3' fun h' z1 z2 z3 z4 z5 z6 kp => ?_
  refine wpAny_pyIter_zip (s := { s1 with heap := h' }) z1 ?_;have I2 : Inv X pins σ H1 { s1 with heap := h' } := I1.kept (t' := s1.toks) kp
  have D : aq (s1.heap.objs.size + 5) (s1.heap.objs.size + 3) (s1.heap.objs.size + 4) [s1.heap.objs.size, s1.heap.objs.size + 1, s1.heap.objs.size + 2] := by
    refine ⟨(by show (_ : Nat) ≠ _; omega), (by show (_ : Nat) ≠ _; omega), (by show (_ : Nat) ≠ _; omega), fun it hi => ?_, ?_⟩
    . simp only [ZK, Zx, or_false] at hi
      rcases hi with rfl | rfl | rfl <;> refine ⟨?_, ?_, ?_⟩ <;> (show (_ : Nat) ≠ _; omega)
    . simp
  refine ⟨s1.heap.objs.size + 5, (s1.heap.objs.size + 5) :: (s1.heap.objs.size + 3) :: (s1.heap.objs.size + 4) :: [s1.heap.objs.size, s1.heap.objs.size + 1, s1.heap.objs.size + 2], _, _, H1, rfl, I2, zfd _ _ _ [s1.heap.objs.size, s1.heap.objs.size + 1, s1.heap.objs.size + 2] [a, b, c] D rfl (by simp) (by simp), ⟨z1, z2, ⟨_, z3, rfl⟩, fun j it l e1 e2 => ?_⟩, fun e he => ?_, q⟩
  . match j with
    | 0 => simp at e1 e2; subst e1 e2; exact z4.1
    | 1 => simp at e1 e2; subst e1 e2; exact z5.1
    | 2 => simp at e1 e2; subst e1 e2; exact z6.1
    | j + 3 => simp at e1
  have hle : s1.heap.objs.size <= e := by
    simp only [ZK, Zx, or_false] at he
    rcases he with h | h | h | h | h | h <;> (rw [h]; omega)
  exact I1.fpOk hle (I1.hok.fresh hle)
section
variable {σ : St} {k : Nat} {g : TG} {tt : TT} {te : TE} {H1 : Hp} {Fin : List V -> Hp -> Prop}
theorem zdy {K : Fg} {as : List Addr} {xss : List (List V)} {n : Nat} (Pv : Nat -> List V -> Hp -> Prop) (h0 : Pv 0 [] H1) (hn : ∀ xs ∈ xss, n <= xs.length) (he : ∃ xs ∈ xss, xs.length = n) (hz : ∀ i ys H, i <= n -> Pv i ys H -> ys.length <= sizeLine /\ uj K H as xss)
    (hs : ∀ i vs ys H T, i < n -> vs.length = xss.length -> (∀ (j : Nat) (xs : List V), xss[j]? = some xs -> xs[i]? = vs[j]?) -> H T = none -> Pv i ys H -> g (.ref T) (List.replicate k none ++ σ) (upd H T (.tup vs)) fun σ2 H2 => σ2.drop k = σ /\ tt σ2 H2 fun b H3 => if b = true then te σ2 H3 fun v H4 => Pv (i + 1) (ys ++ [v]) H4 else Pv (i + 1) ys H3)
    (hd : ∀ ys H, Pv n ys H -> Fin ys H) : sj (ItN K as) σ k g tt te H1 Fin := by
  refine ⟨fun i m ys H => m = n - i /\ i <= n /\ Pv i ys H, ⟨n, by simp, ZE _, h0⟩, ?_⟩
  rintro i m ys H ⟨rfl, hi, p⟩
  obtain ⟨q0, qa⟩ := hz i ys H hi p;refine ⟨q0, ?_⟩
  by_cases hlt : i < n
  . refine .inr ⟨⟨xss, qa, fun xs hx => Zh hlt (hn xs hx)⟩, Pv (i + 1), fun ys' H' p' => ⟨n - (i + 1), by omega, rfl, hlt, p'⟩, fun x H' y => ?_⟩
    obtain ⟨T, vs, rfl, hT, rfl, hy⟩ := y;obtain ⟨l, f⟩ := hy xss qa;exact hs i vs ys _ T hlt l f hT p
  . have e : i = n := by omega
    subst e;obtain ⟨xs, hx, el⟩ := he;exact .inl ⟨⟨xss, qa, xs, hx, by omega⟩, hd ys H p⟩
end
end L2
namespace L2
open PySem PySem.Spec PyProof.Rows
theorem d8 : entryFor table "dict.update.loop" = some Builtin.«dict.update.loop» := entryFor_of_tree (by kernel_rfl)
theorem ny : plainId "dict.update.loop" = true := by decide +kernel
theorem dw : typeLookup (.type "list") "keys" = pure none := by rw [typeLookup_type, builtinLookup_eq_fast]; kernel_rfl
theorem ji {prog : Program} {w : World} {A : Around} {E : Value -> Shared -> Prop} {s : Shared} {a : Addr} {o : Obj} {xs : Array Value} {k : Nat} {Q : Option Value -> Shared -> Prop}
    (hx : s.heap.get? a = some o) (hc : o.cls = .type "list") (hdat : o.data = .seq xs k) (hd : o.dict = none) (hA : A.handled = none)
    (h : ∀ h' tk, (∀ b o, s.heap.get? b = some o -> h'.get? b = some o) -> Q none { s with heap := h', toks := tk }) :
    wpAny (model prog w) A (getAttr? (.ref a) "keys") Q E s := by
  obtain ⟨c, dct, dat, sl⟩ := o;simp only at hc hdat hd;subst hc hdat hd;obtain ⟨hp, g, d, tk, os⟩ := s;have hT : ∀ tk', (⟨hp, g, d, tk', os⟩ : Shared).TypeIs (.ref a) "list" := fun _ => ⟨_, hx, rfl⟩
  have f1 := sub_AttributeError;have f3 := F.slot_list_getattribute.lookup;have f4 := F.slot_list_getattribute.bind (.ref a);have f5 := am_list_getattr_none;unfold getAttr? getAttrBy? getAttrBy
  repeat (any_goals (first | assumption | exact hT _ | ((with_reducible show wpAny _ _ (call (Value.builtin "list.__getattribute__") _ _) _ _ _); refine call_meets F.slot_list_getattribute (hT _) am_entry_list_getattribute (F.args_list_getattribute_2 _ _) (meets_getattribute_miss_list a xs k sl "keys" _ dw (by decide) (by decide)) ⟨hx, hA, fun h' tk' e hx' => ?_⟩) | wp_step))
  obtain ⟨t', u', he⟩ := hx'.there
  show wpAny _ _ (getattributeRaised _ _ _ _ _ _ _) _ _ _
  unfold getattributeRaised
  repeat (any_goals (first | assumption | wp_step))
  exact h _ _ hx'.keeps
section
variable {prog : Program} {w : World} {K : Type} [DecidableEq K] {knd : KeyKind prog w K}
def accH (ps : List (List K × Addr × Value)) (i : Nat) : List (List K × Addr × Value) := (ps.take i).foldl (fun xs p => storedH xs p.1 p.2.1 p.2.2) []
theorem zbc {G : List K -> Addr -> Prop} {xs : List (List K × Addr × Value)} {k : List K} {b : Addr} {v : Value} (h : ∀ x ∈ xs, G x.1 x.2.1) (hk : G k b) : ∀ x ∈ storedH xs k b v, G x.1 x.2.1 := by
  unfold storedH
  split
  . intro x hx
    obtain ⟨y, hy, rfl⟩ := Zp.mp hx;unfold putAt
    split
    . exact h y hy
    . exact h y hy
  . intro x hx
    rcases ZH.mp hx with hx | hx
    . exact h x hx
    . rw [ZC.mp hx]; exact hk
theorem jk {ps : List (List K × Addr × Value)} {i : Nat} {p : List K × Addr × Value} (h : ps[i]? = some p) : accH ps (i + 1) = storedH (accH ps i) p.1 p.2.1 p.2.2 := by
  unfold accH;rw [Zq, h];simp
theorem zbj (xs : List (List K × Addr × Value)) (k : List K) (b : Addr) (v : Value) : (storedH xs k b v).length <= xs.length + 1 := by
  unfold storedH
  split
  . rw [Za]; omega
  . rw [Zo]; simp
theorem zar (ps : List (List K × Addr × Value)) : ∀ i, i <= ps.length -> (accH ps i).length <= i
  | 0, _ => Zm _
  | i + 1, h => by
    have e : ps[i]? = some ps[i] := Zb h;rw [jk e];exact Zd (zbj _ _ _ _) (Yx (zar ps i (by omega)))
structure dt (knd : KeyKind prog w K) (h : Heap) (items : Array Value) (ps : List (List K × Addr × Value)) : Prop where
  len : items.size = ps.length
  at' : ∀ (i : Nat) (p : List K × Addr × Value), ps[i]? = some p -> ∃ T, items[i]? = some (.ref T) /\ h.IsTuple T #[.ref p.2.1, p.2.2] /\ (tupleKind knd).is h p.1 p.2.1
theorem isK {h h' : Heap} {ks : List K} {a : Addr} (q : (tupleKind knd).is h ks a) (k : ∀ o, h.get? a = some o -> h'.get? a = some o) : (tupleKind knd).is h' ks a := by
  obtain ⟨o, its, n, e, r⟩ := q;exact ⟨o, its, n, k o e, r⟩
theorem kw {h h' : Heap} {d : Addr} {xs : List (List K × Addr × Value)} (q : h.DictOfH (tupleKind knd) d xs) (hd : ∀ o, h.get? d = some o -> h'.get? d = some o) (hx : ∀ x ∈ xs, (tupleKind knd).is h' x.1 x.2.1) : h'.DictOfH (tupleKind knd) d xs := by
  obtain ⟨o, es, ep, ho, hc, hdat, he, _, hn⟩ := q;exact ⟨o, es, ep, hd o ho, hc, hdat, he, hx, hn⟩
theorem zd3 {A : Around} {hB : Heap} {g : Array GenState} {dr : Drawn} {os : OsState} {d it l : Addr} {items : Array Value} {ps : List (List K × Addr × Value)} {R : Result -> Shared -> Prop} (hA : A.handled = none) (hu : (tupleKind knd).room A.in1) (hl : hB.IsList l items) (hP : dt knd hB items ps) (hd : hB.objs.size <= d) (hi : hB.objs.size <= it) (hdi : d ≠ it) (hz : ps.length <= sizeLine)
    (hR : ∀ h' tk, (∀ c o, hB.get? c = some o -> h'.get? c = some o) -> h'.DictOfH (tupleKind knd) d (accH ps ps.length) -> R (.ok (.ret .none)) ⟨h', g, dr, tk, os⟩) :
    ∀ (k i : Nat) (h : Heap) (tk : Nat), ps.length - i = k -> i <= ps.length -> (∀ c o, hB.get? c = some o -> h.get? c = some o) -> h.IsListIter it l i -> h.DictOfH (tupleKind knd) d (accH ps i) -> (∀ x ∈ accH ps i, (tupleKind knd).is hB x.1 x.2.1) ->
      codeAny (model prog w) A (.builtin "dict.update.loop" ⟨[.ref d, .ref it, rawInt i, .none], []⟩) R ⟨h, g, dr, tk, os⟩ := by
  have ltB : ∀ {c o}, hB.get? c = some o -> c < hB.objs.size := fun e => Heap.lt_size e
  intro k
  induction k with
  | zero =>
    intro i h tk hk hi' kp hit hD hG;have e : i = ps.length := by omega
    subst e;refine codeAny_builtin d8 ?_;rw [Around.under_plainId ny _];have hl' : h.IsList l items := hl.at fun o e => kp _ o e
    show wpAny _ A.in1 (pyNext (.ref it) >>= _) _ _ _
    refine wpAny_bind (wpAny_pyNext_list_end (s := ⟨h, g, dr, tk, os⟩) hA hit hl' (by rw [Array.getElem?_eq_none]; rw [hP.len]; exact Zm _) fun h' ext => ?_)
    replace ext : Heap.ExtBut it h h' := ext
    have kp' : ∀ c o, hB.get? c = some o -> h'.get? c = some o := fun c o e => ext c o (Zs (Zh (ltB e) hi)) (kp c o e)
    show wpAny _ _ (Builtin.Dict.addKeywords d [] >>= _) _ _ _
    exact wpAny_bind (wpAny_pure (wpAny_pure (hR h' tk kp' (kw hD (fun o e => ext d o hdi e) fun x hx => isK (hG x hx) fun o e => kp' _ o e))))
  | succ k ih =>
    intro i h tk hk hi' kp hit hD hG;have hlt : i < ps.length := by omega
    have ep : ps[i]? = some ps[i] := Zb hlt;obtain ⟨T, eT, hT, hK⟩ := hP.at' i _ ep;refine codeAny_builtin d8 ?_;rw [Around.under_plainId ny _];have hl' : h.IsList l items := hl.at fun o e => kp _ o e
    show wpAny _ A.in1 (pyNext (.ref it) >>= _) _ _ _
    refine wpAny_bind (wpAny_pyNext_list_item (s := ⟨h, g, dr, tk, os⟩) hit hl' eT fun h1 hit1 sb => ?_)
    replace sb : Heap.SameBut it h h1 := sb
    have kp1 : ∀ c o, hB.get? c = some o -> h1.get? c = some o := fun c o e => sb.extBut c o (Zs (Zh (ltB e) hi)) (kp c o e)
    have hD1 : h1.DictOfH (tupleKind knd) d (accH ps i) := kw hD (fun o e => sb.extBut d o hdi e) fun x hx => isK (hG x hx) fun o e => kp1 _ o e
    obtain ⟨oT, eoT, cT, nT, dT⟩ := hT;have hTs : (⟨h1, g, dr, tk, os⟩ : Shared).TypeIs (.ref T) "tuple" := ⟨oT, kp1 _ _ eoT, cT⟩
    show wpAny _ A.in1 (holding [Value.ref T] _ >>= _) _ _ _
    refine wpAny_bind (wpAny_holding ?_);refine wpAny_bind (wpAny_tryCatch ?_);unfold Builtin.Dict.pairItems;refine wpAny_bind (wpAny_typeOf hTs ?_);rw [if_pos (by decide)];refine wpAny_bind (wpAny_seqItems (s := ⟨h1, g, dr, tk, os⟩) (kp1 _ _ eoT) dT ?_);refine wpAny_pure ?_
    show wpAny _ A.in1 (holding [Value.ref ps[i].2.1, ps[i].2.2] (dictSet d (Value.ref ps[i].2.1) ps[i].2.2)) _ _ _
    refine wpAny_holding ?_;refine wpAny_dictSet_heap (s := ⟨h1, g, dr, tk, os⟩) hu (isK hK fun o e => kp1 _ o e) hD1 (fun h2 hD2 sb2 => ?_) (Zd (zar ps i hi') (by omega))
    replace sb2 : Heap.SameBut d h1 h2 := sb2
    have kp2 : ∀ c o, hB.get? c = some o -> h2.get? c = some o := fun c o e => sb2.extBut c o (Zs (Zh (ltB e) hd)) (kp1 c o e)
    rw [<- jk ep] at hD2;refine wpAny_pure ⟨plainId_quiet ny _, ?_⟩
    have := ih (i + 1) h2 (tk + (tupleKind knd).draws ps[i].1) (by omega) hlt kp2 (hit1.extBut sb2.extBut (Ne.symm hdi)) hD2 (by
      rw [jk ep]
      exact zbc (G := fun k b => (tupleKind knd).is hB k b) hG hK)
    exact this
theorem df {A : Around} {E : Value -> Shared -> Prop} {s : Shared} {l : Addr} {o : Obj} {items : Array Value} {n : Nat} {ps : List (List K × Addr × Value)} {Q : Value -> Shared -> Prop} (hA : A.handled = none) (hu : A.units + 8 < cLine) (ho : s.heap.get? l = some o) (hc : o.cls = .type "list") (hdat : o.data = .seq items n) (hdn : o.dict = none) (hP : dt knd s.heap items ps) (hz : ps.length <= sizeLine)
    (h : ∀ h' tk, (∀ c o, s.heap.get? c = some o -> h'.get? c = some o) -> h'.DictOfH (tupleKind knd) s.heap.objs.size (accH ps ps.length) -> Q (.ref s.heap.objs.size) { s with heap := h', toks := tk }) :
    wpAny (model prog w) A (call (.type "dict") [.ref l]) Q E s := by
  refine callType_codes (Q₁ := fun obj s₁ => obj = .ref s.heap.objs.size /\ s₁ = { s with heap := s.heap.push { cls := .type "dict", data := .dict #[] } }) F.kt_called_dict (F.kt_typeCall_dict_1 _) F.entry_dict_init (kt_code_dict_new _ ⟨rfl, rfl⟩) ?_
  rintro obj s₁ ⟨rfl, rfl⟩
  have hnew : (s.heap.push { cls := .type "dict", data := .dict #[] }).DictOfH (tupleKind knd) s.heap.objs.size [] := Heap.DictOfH.new s.heap;have ho' : (s.heap.push { cls := .type "dict", data := .dict #[] }).get? l = some o := Heap.get?_push_of_some _ ho;refine ⟨⟨_, Heap.get?_push_size _ rfl, rfl⟩, F.args_dict_init_2 _ _, ?_⟩;unfold Builtin.«dict.__init__»;refine wpAny_bind ?_;unfold Builtin.Dict.selfAndRest;refine wpAny_bind (wpAny_notOrdered_dict ⟨_, Heap.get?_push_size _ rfl, rfl⟩ ?_)
  show wpAny _ _ (pure (s.heap.objs.size, [Value.ref l])) _ _ _
  refine wpAny_pure ?_
  show wpAny _ _ (Builtin.Dict.updateFrom "dict.__init__" s.heap.objs.size (.ref l) [] .none) _ _ _
  unfold Builtin.Dict.updateFrom;refine wpAny_bind (wpAny_typeOf ⟨_, ho', hc⟩ ?_);rw [if_pos (by decide)];refine wpAny_bind (ji ho' hc hdat hdn hA fun h1 tk1 k1 => ?_);rw [if_pos (by decide)];refine wpAny_bind (wpAny_rule ?_);have hl1 : h1.IsList l items := ⟨o, k1 _ _ ho', hc, n, hdat⟩;have hd1 : h1.get? s.heap.objs.size = some { cls := .type "dict", data := .dict #[] } := k1 _ _ (Heap.get?_push_size _ rfl);have hlt : s.heap.objs.size < h1.objs.size := Heap.lt_size hd1;refine wpAny_bind (wpAny_pyIter_list (s := ⟨h1, s.gens, s.drawn, tk1, s.os⟩) hl1 (wpAny_pure ⟨plainId_quiet ny _, ?_⟩));have kp : ∀ c o, s.heap.get? c = some o -> (h1.push { cls := .type "list_iterator", data := .fields #[.ref l, .int 0 0] }).get? c = some o := fun c o e => Heap.get?_push_of_some _ (k1 _ _ (Heap.get?_push_of_some _ e))
  refine zd3 (knd := knd) (A := A.in1) (hB := s.heap) (g := s.gens) (dr := s.drawn) (os := s.os) (l := l) (items := items) (ps := ps) hA (tupleKind_room_in1 (A := A.in1) (by show A.units + 1 + 1 < cLine; omega)) ⟨o, ho, hc, n, hdat⟩ hP (Zm _) (YM hlt) (Zs hlt) hz
    (fun h' tk kp' hD => ⟨rfl, h h' tk kp' hD⟩) ps.length 0 _ tk1 (by omega) (ZE _) kp ⟨_, Heap.get?_push_size _ rfl, rfl, rfl⟩ (kw hnew (fun o e => Heap.get?_push_of_some _ (k1 _ _ e)) fun x hx => by cases hx) (fun x hx => by cases hx)
end
end L2
namespace L2
open PySem PySem.Spec PyProof.Rows
def o5 (kvs : List (List Key × V)) : List (List Key × V) := kvs.foldl (fun acc kv => putK acc kv.1 kv.2) []
structure sv (H : Hp) (Ts : List Addr) (kvs : List (List Key × V)) : Prop where
  len : Ts.length = kvs.length
  at' : ∀ (i : Nat) (T : Addr) (kv : List Key × V), Ts[i]? = some T -> kvs[i]? = some kv -> ∃ b, H T = some (.tup [.ref b, kv.2]) /\ H b = some (.tup (kv.1.map kV))
def ze9 (xs : List V) (H : Hp) (Q : VK) : Prop := ∃ (l : Addr) (Ts : List Addr) (kvs : List (List Key × V)), xs = [.ref l] /\ H l = some (.lst (Ts.map V.ref)) /\ sv H Ts kvs /\ ∀ p, H p = none -> Q (.ref p) (upd H p (.dT (o5 kvs)))
theorem zhp {xs : List V} {H : Hp} {Q : VK} : ze9 xs H Q = ∃ (l : Addr) (Ts : List Addr) (kvs : List (List Key × V)), xs = [.ref l] /\ H l = some (.lst (Ts.map V.ref)) /\ sv H Ts kvs /\ ∀ p, H p = none -> Q (.ref p) (upd H p (.dT (o5 kvs))) := rfl
section
variable {X : Cx} {pins : List (Addr × Obj)} {σ : St} {H : Hp} {s : Shared}
theorem ad (I : Inv X pins σ H s) : ∀ {Ts : List Addr} {kvs : List (List Key × V)} {us : List Value}, sv H Ts kvs -> Vals (Ts.map V.ref) us -> ∃ ps : List (List Key × Addr × Value), dt (wv X.prog X.w) s.heap us.toArray ps /\ KT H kvs ps
  | [], [], us, q, r => by
    cases r;exact ⟨[], ⟨rfl, fun i p e => by simp at e⟩, .nil⟩
  | T :: Ts, kv :: kvs, us, q, r => by
    rw [ZO] at r
    cases r with
    | @cons _ u _ us r0 r1 =>
      obtain ⟨ps, P, k⟩ := ad I (Ts := Ts) (kvs := kvs) ⟨by simpa using q.len, fun i T kv e1 e2 => q.at' (i + 1) T kv (by simpa using e1) (by simpa using e2)⟩ r1;obtain ⟨b, hT, hb⟩ := q.at' 0 T kv rfl rfl;obtain ⟨z, its, rr, hI⟩ := (show ObjOk X.prog X.w H s.heap T (.tup [.ref b, kv.2]) from I.hok T _ hT);obtain ⟨u1, u2, rfl, ru1, ru2⟩ := Vals.two rr;obtain rfl : u1 = Value.ref b := ru1;obtain rfl : u = Value.ref T := r0;refine ⟨(kv.1, b, u2) :: ps, ⟨by simp [<- P.len], fun i p e => ?_⟩, .cons ⟨rfl, hb, ru2⟩ k⟩
      cases i with
      | zero =>
        simp at e;subst e;obtain ⟨o, e1, c1, n1, d1, _⟩ := hI;exact ⟨T, by simp, ⟨o, e1, c1, n1, d1⟩, ak I.hok hb⟩
      | succ i =>
        obtain ⟨T', a1, a2, a3⟩ := P.at' i p (by simpa using e);exact ⟨T', by simpa using a1, a2, a3⟩
  | [], kv :: kvs, us, q, r => by simpa using q.len
  | T :: Ts, [], us, q, r => by simpa using q.len
theorem kt_acc {kvs : List (List Key × V)} {ps : List (List Key × Addr × Value)} (k : KT H kvs ps) : KT H (o5 kvs) (accH ps ps.length) := by
  have go : ∀ (l : List (List Key × V)) (m : List (List Key × Addr × Value)) (a : List (List Key × V)) (b : List (List Key × Addr × Value)), KT H l m -> KT H a b -> KT H (l.foldl (fun acc kv => putK acc kv.1 kv.2) a) (m.foldl (fun xs p => storedH xs p.1 p.2.1 p.2.2) b) := by
    intro l m a b q
    induction q generalizing a b with
    | nil => intro z; exact z
    | @cons p q ps qs h t ih =>
      intro z;obtain ⟨h1, h2, h3⟩ := h;refine ih _ _ ?_
      show KT H (putK a p.1 p.2) (storedH b q.1 q.2.1 q.2.2)
      rw [<- h1];exact z.put p.1 h2 h3
  unfold accH;rw [Zt];exact go _ _ _ _ k .nil
theorem zde (kvs : List (List Key × V)) : (o5 kvs).length <= kvs.length := by
  have go : ∀ (l a : List (List Key × V)), (l.foldl (fun acc kv => putK acc kv.1 kv.2) a).length <= a.length + l.length := by
    intro l
    induction l with
    | nil => intro a; exact Zm _
    | cons p l ih =>
      intro a;have h1 := ih (putK a p.1 p.2);have h2 := zbq a p.1 p.2;simp only [YO, ZL];omega
  have := go kvs []
  simpa [o5] using this
theorem ze2 {kvs : List (List Key × V)} (h : (kvs.map (·.1)).Nodup) : o5 kvs = kvs := by
  have go : ∀ (l a : List (List Key × V)), ((a ++ l).map (·.1)).Nodup -> l.foldl (fun acc kv => putK acc kv.1 kv.2) a = a ++ l := by
    intro l
    induction l with
    | nil => intro a _; simp
    | cons p l ih =>
      intro a hn
      have hno : valV a p.1 = none := by
        cases e : valV a p.1 with
        | none => rfl
        | some v =>
          exfalso
          have hm := zg6 e;rw [Zn, Yj] at hn;exact hn.2.2 _ hm _ (by simp) rfl
      rw [YO, zft _ hno, ih _ (by simpa using hn)];simp
  exact go kvs [] (by simpa using h)
theorem zcv (hc : X.calm = true) (hu : X.A.units + 8 < cLine) : ue X (.type "dict") ze9 := by
  intro pins s σ H xs us Q I r h;obtain ⟨l, Ts, kvs, rfl, hl, hP, q⟩ := h;obtain ⟨u, rfl, ru⟩ := mi r;obtain rfl : u = Value.ref l := ru;obtain ⟨its, rv, pl, hz⟩ := I.list (SqL.of hl);obtain ⟨ps, P, k⟩ := ad I hP rv;obtain ⟨o, n, e, c, d, dat⟩ := id pl;have hps : ps.length = kvs.length := (Paired.length k).symm;have hkl : kvs.length <= sizeLine := by rw [Za, hP.len] at hz; exact hz
  refine df (knd := wv X.prog X.w) (I.ok.hd hc) hu e c dat d P (by omega) fun h' tk kp hD => ?_
  have hn : H s.heap.objs.size = none := I.hok.fresh (Zm _);refine ⟨.ref s.heap.objs.size, upd H s.heap.objs.size (.dT (o5 kvs)), I.laid (t' := tk) (fun b u e => kp b u e) (Zm _) ?_, rfl, q _ hn⟩;obtain ⟨ob, es, ep, g1, g2, g3, g4, _, g6⟩ := hD;have hb := I.big;refine ⟨Zd (zde kvs) hkl, ?_, accH ps ps.length, (kt_acc k).keeps fun b ys e => ?_, ob, es, ep, g1, g2, g3, g4, g6⟩
  . exact beq_eq_false_iff_ne.mpr (ZR hb)
  . rw [zx (fun z => by rw [z, hn] at e; cases e)]
    exact e
end
end L2
namespace L2
open PySem
theorem hu11 {A : Around} {k : Nat} (hr : Room k A) : A.units + 8 < cLine := by have := hu9 hr; omega
end L2
namespace L2
open PySem PySem.Spec PyProof.Rows
section
variable {X : Cx} {pins : List (Addr × Obj)} {σ : St} {H : Hp} {k : Nat} {f : Addr} {fd : FuncData} {ps : List Str} {sp : Sp}
def tMaxK (K : Fg) (sp : Sp) (ta : TA) : TE := fun σ H Q => ta σ H fun vs H1 => ∃ (l : Addr) (xs : List V) (kf : Nat -> Int), vs = [.ref l] /\ SqL K H1 l xs /\ 0 < xs.length /\
  (∀ i x, xs[i]? = some x -> sp [x] H1 (fun v H' => v = .int (kf i) /\ H' = H1) E0) /\ ∀ i x, xs[i]? = some x -> (∀ j, j < xs.length -> kf j <= kf i /\ (j < i -> kf j < kf i)) -> Q x H1
theorem e_maxK {K : Fg} {ta : TA} {Q : VK} : tMaxK K sp ta σ H Q = ta σ H fun vs H1 => ∃ (l : Addr) (xs : List V) (kf : Nat -> Int), vs = [.ref l] /\ SqL K H1 l xs /\ 0 < xs.length /\
  (∀ i x, xs[i]? = some x -> sp [x] H1 (fun v H' => v = .int (kf i) /\ H' = H1) E0) /\ ∀ i x, xs[i]? = some x -> (∀ j, j < xs.length -> kf j <= kf i /\ (j < i -> kf j < kf i)) -> Q x H1 := rfl
end
end L2
namespace L2
open PySem PySem.Spec PyProof.Rows
section
variable {X : Cx}
def rDictK (xs : List V) (H : Hp) (Q : VK) : Prop := ∃ (a : Addr) (kvs : List (Key × V)), xs = [.ref a] /\ H a = some (.dK kvs) /\ ∀ p, H p = none -> Q (.ref p) (upd H p (.dK kvs))
theorem zgr {xs : List V} {H : Hp} {Q : VK} : rDictK xs H Q = ∃ (a : Addr) (kvs : List (Key × V)), xs = [.ref a] /\ H a = some (.dK kvs) /\ ∀ p, H p = none -> Q (.ref p) (upd H p (.dK kvs)) := rfl
def rEqK (x y : V) (H : Hp) (Q : VK) : Prop := ∃ (a b : Addr) (kvs : List (Key × V)), x = .ref a /\ y = .ref b /\ H a = some (.dK kvs) /\ H b = some (.dK kvs) /\ (∀ kv ∈ kvs, wb kv.2 = true) /\ Q (.bl true) H
theorem e_eqK {x y : V} {H : Hp} {Q : VK} : rEqK x y H Q = ∃ (a b : Addr) (kvs : List (Key × V)), x = .ref a /\ y = .ref b /\ H a = some (.dK kvs) /\ H b = some (.dK kvs) /\ (∀ kv ∈ kvs, wb kv.2 = true) /\ Q (.bl true) H := rfl
end
end L2
namespace L2
open PySem PySem.Spec PyProof.Rows
section
variable {X : Cx}
def zh8 (K : Fg) : V -> List V -> Hp -> VK -> Prop := fun x vs H Q => ∃ p xs y, x = .ref p /\ vs = [y] /\ SqT K H p xs /\ wb y = true /\ xs.all wb = true /\ Q (.int ((xs.countP fun z => eqV z y : Nat) : Int)) H
theorem zfv {K : Fg} {x : V} {vs : List V} {H : Hp} {Q : VK} : zh8 K x vs H Q = ∃ p xs y, x = .ref p /\ vs = [y] /\ SqT K H p xs /\ wb y = true /\ xs.all wb = true /\ Q (.int ((xs.countP fun z => eqV z y : Nat) : Int)) H := rfl
end
end L2
namespace L2
open PySem PySem.Spec PyProof.Rows
def m8 (ns : List (Str × NameKind)) : Bool := ns.all fun y => ns.lookup y.1 == some y.2
theorem qh {ns : List (Str × NameKind)} (h : m8 ns = true) {y : Str × NameKind} (hy : y ∈ ns) {k : NameKind} (e : y.2 = k) : ns.lookup y.1 = some k := by
  have q := ZQ.mp h y hy;rw [<- e]
  simpa using q
theorem zdq {ns : List (Str × NameKind)} (h : m8 ns = true) {y : Str × NameKind} (hy : y ∈ ns) (e : y.2 = .free) : ∀ k, (y.1, k) ∈ ns -> k ≠ .cell := fun k hk z => by
  have h1 := qh h hy e;have h2 := qh h hk (k := k) rfl;rw [h1] at h2;cases h2;cases z
theorem sr {x : Str} : ∀ {names : List (Str × NameKind)} {n : Nat} {acc : List (Str × Addr)}, (∀ k, (x, k) ∈ names -> k ≠ .cell) -> (cellsFrom n names acc).lookup x = acc.lookup x
  | [], _, _, _ => rfl
  | (y, k) :: r, n, acc, h => by
    unfold cellsFrom;have hr : ∀ k, (x, k) ∈ r -> k ≠ .cell := fun k hk => h k (Zv _ hk)
    split
    . rename_i hk
      rw [sr hr, ZF]
      cases hx : x == y with
      | true =>
        have e : x = y := eq_of_beq hx;subst e;exact absurd (eq_of_beq hk) (h k ZA)
      | false => rfl
    . exact sr hr
structure zbr (cl : List (Str × Addr)) (lo : Nat) (h : Heap) (cs : List (Str × Addr)) : Prop where
  get : ∀ x c, cs.lookup x = some c -> (cl.lookup x = some c /\ c < lo) \/ (lo <= c /\ h.IsCell c none)
  inj : ∀ x y c, cs.lookup x = some c -> cs.lookup y = some c -> x = y
theorem qu {cl : List (Str × Addr)} {lo : Nat} : ∀ (names : List (Str × NameKind)) (h : Heap) (acc : List (Str × Addr)), lo <= h.objs.size -> zbr cl lo h acc -> zbr cl lo (pushCells h names) (cellsFrom h.objs.size names acc)
  | [], _, _, _, x => x
  | (name, kind) :: r, h, acc, hlo, I => by
    unfold pushCells cellsFrom
    split
    . have big : ∀ y c, acc.lookup y = some c -> c ≠ h.objs.size := fun y c e z => by
        rcases I.get y c e with ⟨_, q⟩ | ⟨_, q⟩
        . exact ZJ _ (Zh (z ▸ q) hlo)
        . exact ZJ _ (z ▸ q.lt)
      have := qu (cl := cl) (lo := lo) r (h.push { cls := .type "cell", data := .cell none }) ((name, h.objs.size) :: acc) (by rw [Heap.size_push]; exact YK hlo) ⟨fun x c e => ?_, fun x y c e1 e2 => ?_⟩
      . rwa [Heap.size_push] at this
      . rw [ZF] at e
        cases hx : x == name with
        | true => rw [hx] at e; cases e; exact .inr ⟨hlo, _, Heap.get?_push_size _ rfl, rfl⟩
        | false =>
          rw [hx] at e
          rcases I.get x c e with q | ⟨q1, q2⟩
          . exact .inl q
          . exact .inr ⟨q1, q2.keeps fun b o e => Heap.get?_push_of_some _ e⟩
      . rw [ZF] at e1 e2
        cases hx : x == name with
        | true =>
          rw [hx] at e1;cases e1
          cases hy : y == name with
          | true => rw [eq_of_beq hx, eq_of_beq hy]
          | false => rw [hy] at e2; exact absurd rfl (big y _ e2)
        | false =>
          rw [hx] at e1
          cases hy : y == name with
          | true => rw [hy] at e2; cases e2; exact absurd rfl (big x _ e1)
          | false => rw [hy] at e2; exact I.inj x y c e1 e2
    . exact qu r h acc hlo I
theorem zbo {M : Model} {A : Around} {E : Value -> Shared -> Prop} {s : Shared} {scope : Scope} {globals : Addr} {cl : List (Str × Addr)} {qual : Str} {outer : Env} {Q : Env -> Shared -> Prop}
    (hQ : (pushCells (s.heap.push { cls := .type "dict", data := .dict #[] }) scope.names).Ns s.heap.objs.size (fun _ => none) -> (∀ b o, s.heap.get? b = some o -> (pushCells (s.heap.push { cls := .type "dict", data := .dict #[] }) scope.names).get? b = some o) ->
      Q (newEnv scope s.heap.objs.size globals (cellsFrom (s.heap.objs.size + 1) scope.names cl) qual none .none (some outer) builtinsNs) { s with heap := pushCells (s.heap.push { cls := .type "dict", data := .dict #[] }) scope.names }) :
    wpAny M A (newFunctionEnv scope globals cl [] qual none .none (some outer)) Q E s := by
  simp only [newFunctionEnv, Option.isSome_some, if_true];refine wpAny_bind (wpAny_alloc ?_);refine wpAny_bind (wpAny_layCells _ (fun name kind cells => by cases hkc : kind == NameKind.cell <;> simp [hkc]) _ _ _ _ ?_);rw [show ({ s with heap := s.heap.push { cls := .type "dict", data := .dict #[] } } : Shared).heap.objs.size = s.heap.objs.size + 1 from Heap.size_push ..];refine wpAny_bind ?_;rw [List.forIn_nil];exact wpAny_pure (wpAny_pure (hQ ((Heap.Ns.new s.heap (.type "dict")).keeps (pushCells_keeps _ _)) fun b o e => pushCells_keeps _ _ b o (Heap.get?_push_of_some _ e)))
theorem qy {x : Str} {lo : Nat} : ∀ {names : List (Str × NameKind)} {n : Nat} {acc : List (Str × Addr)} {c : Addr}, ((x, NameKind.cell) ∈ names \/ ∀ c, acc.lookup x = some c -> lo <= c) -> lo <= n -> (cellsFrom n names acc).lookup x = some c -> lo <= c
  | [], _, _, c, h, _, e => h.elim (fun z => nomatch z) fun z => z c e
  | (y, k) :: r, n, acc, c, h, hn, e => by
    unfold cellsFrom at e
    by_cases hk : (k == NameKind.cell) = true
    . rw [if_pos hk] at e
      refine qy (?_) (YK hn) e
      by_cases hx : (x == y) = true
      . right
        intro d hd;rw [ZF, hx] at hd;cases hd;exact hn
      . rcases h with z | z
        . rcases ZK.mp z with q | q
          . cases q
            simp at hx
          . exact .inl q
        . right
          intro d hd;rw [ZF, Bool.eq_false_iff.mpr hx] at hd;exact z d hd
    . rw [if_neg hk] at e
      refine qy (?_) hn e
      rcases h with z | z
      . rcases ZK.mp z with q | q
        . cases q
          exact absurd rfl hk
        . exact .inl q
      . exact .inr z
abbrev yv (X : Cx) (scope : Scope) (N' : List Str) (d : Dyn) : Cx where
  prog := X.prog
  w := X.w
  K := X.K
  mg := X.mg
  base := X.base
  A := X.A
  N := N'
  s₀ := d.s₀
  H₀ := d.H₀
  env := compEnvC scope d.cl d.C X.env
  outer := X.stack
  stack := X.stack
  ex := d.fp
  fn := fun x => scope.names.lookup x == some .cell
  calm := true
  pn := []
  xe := fun _ _ => False
structure ClOk (X : Cx) (s₂ : Shared) (scope : Scope) (cl : List (Str × Addr)) (C D : Addr) : Prop where
  inj : ∀ x y c, cl.lookup x = some c -> cl.lookup y = some c -> x = y
  old : ∀ x c, cl.lookup x = some c -> X.env.cells.lookup x = some c \/ (s₂.heap.objs.size <= c /\ c ≠ C /\ c ≠ D)
  free : ∀ y ∈ scope.names, y.2 = .free -> ∃ c, cl.lookup y.1 = some c /\ X.env.cells.lookup y.1 = some c
  own : ∀ y ∈ scope.names, y.2 = .cell -> ∃ c, cl.lookup y.1 = some c
  new : ∀ x c, scope.names.lookup x = some .cell -> cl.lookup x = some c -> s₂.heap.objs.size <= c
section
variable {X : Cx} {pins : List (Addr × Obj)} {σ : St} {H2 : Hp} {s₂ : Shared} {scope : Scope} {ts N2 : List Str} {cl : List (Str × Addr)} {C D : Addr} {fp : List Addr}
theorem zgh (I2 : Inv X pins σ H2 s₂) (hc : X.calm = true) (f2 : ∀ b ∈ fp, FpOk X pins H2 b /\ b < s₂.heap.objs.size) (hkind : scope.kind = .function) (hown : m8 scope.names = true) (hfree : uq scope.names X.env = true)
    (hcl : ClOk X s₂ scope cl C D) (hC : s₂.heap.objs.size <= C) :
    (yv X scope (ts ++ N2) ⟨cl, C, s₂, H2, fp⟩).Ok := by
  refine ⟨I2.ok.mod, hkind, I2.ok.glob, I2.ok.blt, hC, hcl.inj, fun x hx => ?_, fun x c z e => hcl.new x c (by simpa using z) e, fun _ => I2.ok.hd hc, I2.ok.frames, .inl rfl, fun b hb => ?_, I2.bs, Zd I2.ok.bsz I2.sz, fun b o e hb => ?_, fun b hb hfs => ?_, I2.stack, I2.stkFree⟩
  . have hx' : (relabel scope X.env).names.lookup x = some .cell \/ (relabel scope X.env).names.lookup x = some .free := hx
    have e0 : (relabel scope X.env).names.lookup x = _ := w9 (env := X.env) (x := x) (ns := scope.names);rw [e0] at hx'
    cases q : scope.names.lookup x with
    | none => rw [q] at hx'; simp at hx'
    | some k =>
      rw [q] at hx';simp only [Yh, Option.some.injEq] at hx';have hm : (x, k) ∈ scope.names := PySem.mem_of_lookup q
      have hk : k = .free \/ k = .cell := by
        split at hx'
        . rename_i hcond
          simp only [Bool.and_eq_true] at hcond;exact .inl (eq_of_beq hcond.1.1)
        . rcases hx' with z | z
          . exact .inr z
          . exact .inl z
      rcases hk with hk | hk
      . obtain ⟨c, e, _⟩ := hcl.free _ hm hk
        exact ⟨c, e⟩
      . exact hcl.own _ hm hk
  . obtain ⟨⟨f0, f1, f3, f4, f5, f6⟩, hlt⟩ := f2 b hb
    exact ⟨Zs (Zh hlt hC), fun x c e => (hcl.old x c e).elim (f5 x c) fun z => ZR (Zh hlt z.1)⟩
  . obtain ⟨⟨f0, f1, f3, f4, f5, f6⟩, hlt⟩ := f2 b hb
    rcases f4 with z | z
    . exact I2.ok.noex b o e z
    . exact absurd (Zh (Heap.lt_size e) (Zd I2.ok.bsz z)) (ZJ _)
  . obtain ⟨⟨f0, f1, f3, f4, f5, f6⟩, hlt⟩ := f2 b hb
    rcases ZK.mp (I2.stkSub b hfs) with z | z
    . exact f1 z
    . exact f3 z
theorem za8 (I2 : Inv X pins σ H2 s₂) (hc : X.calm = true) (f2 : ∀ b ∈ fp, FpOk X pins H2 b /\ b < s₂.heap.objs.size) (hkind : scope.kind = .function) (hown : m8 scope.names = true) (hfree : uq scope.names X.env = true) (hout : wm scope.names N2 X.N = true)
    (hcl : ClOk X s₂ scope cl C D) (hC : s₂.heap.objs.size <= C) (hDC : D ≠ C) (hD : s₂.heap.objs.size <= D)
    {h₁ : Heap} {tk : Nat} {m : Str -> Option Value} (hn : h₁.Ns C m) (old : ∀ b o, s₂.heap.get? b = some o -> h₁.get? b = some o) (hacc : h₁.get? D = some (lobj [])) (hnew : ∀ x c, cl.lookup x = some c -> s₂.heap.objs.size <= c -> ∃ v, h₁.IsCell c v) :
    Inv (yv X scope (ts ++ N2) ⟨cl, C, s₂, H2, fp⟩) [(D, lobj [])] (List.replicate ts.length none ++ σ) H2 { s₂ with heap := h₁, toks := tk } := by
  have ok := zgh (ts := ts) (N2 := N2) (D := D) I2 hc f2 hkind hown hfree hcl hC
  have hlN : ∀ {a b : List Str}, wm scope.names a b = true -> a.length = b.length := by
    intro a
    induction a with
    | nil => intro b h; cases b with | nil => rfl | cons _ _ => cases h
    | cons y ys ih =>
      intro b h
      cases b with
      | nil => cases h
      | cons n ms =>
        unfold wm at h;rw [Bool.and_eq_true] at h;rw [ZL, ZL, ih h.2]
  refine ⟨ok, rfl, I2.bare, Un.kept old, ⟨m, hn, fun i x v e1 e2 e3 => ?_⟩, fun x c e => ?_, ?_, fun x c e => (hcl.old x c e).elim (I2.freeC x c) fun z => I2.hok.fresh z.1, fun p hp => ?_, I2.hok.kept old, ?_⟩
  . by_cases hi : i < ts.length
    . rw [Zg (by simpa using hi), ZZ] at e2
      split at e2 <;> cases e2
    . have hi' : ts.length <= i := ZD.mp hi
      rw [Zf (by simpa using hi')] at e2;rw [ZI] at e2;have e1' : (ts ++ N2)[i]? = some x := e1;rw [Zf hi'] at e1';obtain ⟨k1, k2⟩ := kd hout e1';have e0 : (relabel scope X.env).names.lookup x = _ := w9 (env := X.env) (x := x) (ns := scope.names);have e3' : (relabel scope X.env).names.lookup x = some .local \/ (relabel scope X.env).names.lookup x = some .cell \/ (relabel scope X.env).names.lookup x = some .free := e3;rw [e0] at e3'
      cases q : scope.names.lookup x with
      | none => rw [q] at e3'; simp at e3'
      | some k =>
        have hm : (x, k) ∈ scope.names := PySem.mem_of_lookup q
        have hk : k = .free := by
          unfold j7 at k1;rw [q] at k1 e3'
          cases k with
          | free => rfl
          | «local» => cases k1
          | cell => cases k1
          | _ => exfalso; revert e3'; simp
        subst hk;obtain ⟨mo, hmo, hl⟩ := I2.loc;have hkv := sk hfree hm rfl;have vis : Vis X.env.scope x := hkv.elim (fun z => .inr (.inl z)) fun z => .inr (.inr z)
        obtain ⟨u, r, l⟩ := hl _ x v (k2 q) e2 vis;refine ⟨u, r, .inr ⟨?_, ?_⟩⟩
        . show (relabel scope X.env).names.lookup x = some .cell \/ (relabel scope X.env).names.lookup x = some .free
          rw [e0, q];simp only [Yh, Option.some.injEq]
          split
          . exact .inl rfl
          . exact .inr rfl
        . rcases l with ⟨kl, _⟩ | ⟨_, c, ec, z⟩
          . exfalso
            rcases hkv with z | z <;> (rw [kl] at z; cases z)
          . obtain ⟨c', ec', this⟩ := hcl.free _ hm rfl
            rw [ec] at this;cases this;obtain ⟨o, ho, hd⟩ := z;exact ⟨c, ec', o, old _ _ ho, hd⟩
  . rcases hcl.old x c e with z | z
    . obtain ⟨v, o, ho, hd⟩ := I2.cell x c z
      exact ⟨v, o, old _ _ ho, hd⟩
    . exact hnew x c e z.1
  . exact I2.hok.fresh hC
  . have e : p = (D, lobj []) := by simpa using hp
    subst e;refine ⟨hacc, I2.hok.fresh hD, hDC, fun z => ?_, fun v z => by cases z⟩
    rcases ZK.mp (I2.stkSub D z) with z | z
    . exact absurd (Zh I2.lt (by rw [<- z]; exact hD)) (ZJ _)
    . exact I2.nofs hD z
  . show (List.replicate ts.length none ++ σ).length = (ts ++ N2).length
    rw [Zo, Zo, ZI, I2.len, hlN hout]
theorem zeq (I2 : Inv X pins σ H2 s₂) (f2 : ∀ b ∈ fp, FpOk X pins H2 b) (hD : s₂.heap.objs.size <= D) {σ' : St} {H' : Hp} {s' : Shared} {its : List Value} {ys : List V} {pl : List (Addr × Obj)}
    (J : Inv (yv X scope (ts ++ N2) ⟨cl, C, s₂, H2, fp⟩) pl σ' H' s') (hp : s'.heap.get? D = some (lobj its)) (hn : H' D = none) (hv : Vals ys its) (hz : ys.length <= sizeLine) : Inv X pins σ (upd H' D (.lst ys)) s' := by
  have neD : ∀ b o, s₂.heap.get? b = some o -> b ≠ D := fun b o e => Zs (Zh (Heap.lt_size e) hD)
  have neH : ∀ b o, H2 b = some o -> b ≠ D := fun b o e => Zs (Zh (I2.hok.lt e) hD)
  have u := J.base
  have un : Un (frs X.stack) fp H2 (upd H' D (.lst ys)) s₂.heap s'.heap :=
    ⟨u.keep, u.slot, fun b o e n hx => by rw [zx (neD b o e)]; exact u.free b o e n hx, u.there, fun b xs e => by rw [zx (neH b _ e)]; exact u.tups b xs e, fun b o v e => by rw [zx (neH b _ e)]; exact u.frzs b o v e,
      fun b ps e => by rw [zx (neH b _ e)]; exact u.tbls b ps e⟩
  have hok : HOk X.prog X.w (upd H' D (.lst ys)) s'.heap := fun b o e => by
    by_cases hb : b = D
    . subst hb
      rw [zf] at e;cases e;exact ⟨hz, its, its.length, hv, hp⟩
    . rw [zx hb] at e
      exact (J.hok b o e).stay (fun c v _ q => q) (fun c q => by rw [zx (y8 q hn)]; exact q) fun c xs q => by rw [zx (y8 q hn)]; exact q
  exact I2.call' (ch := fp) J.os un hok J.bare fun b hb => by
    obtain ⟨f0, f1, f3, f4, f5, f6⟩ := f2 b hb;exact ⟨f4, f1, f5, f6⟩
theorem zbf {E : Value -> Shared -> Prop} {tg elt iter : Expr} {ifs : List Expr} {pos : Pos} {it : Addr} {tn : Nat -> Heap -> Prop} {J : It} {g : Dyn -> TG} {tt : Dyn -> TT} {te : Dyn -> TE} {RR : Value -> Addr -> Result -> Shared -> Prop} {cl0 : List (Str × Addr)} {Fin : List V -> Hp -> Prop}
    (I2 : Inv X pins σ H2 s₂) (hc : X.calm = true) (T : Turn X.prog X.w X.K tg J fp it tn) (st : tn 0 s₂.heap) (f2 : ∀ b ∈ fp, FpOk X pins H2 b) (hkind : scope.kind = .function) (hown : m8 scope.names = true) (hfree : uq scope.names X.env = true) (hout : wm scope.names N2 X.N = true)
    (hcl1 : ∀ x c, cl0.lookup x = some c -> X.env.cells.lookup x = some c) (hcl2 : ∀ y ∈ scope.names, y.2 = .free -> ∃ c, cl0.lookup y.1 = some c)
    (hg : ∀ d, PG (yv X scope (ts ++ N2) d) tg (g d)) (ht : ∀ d, PTs (yv X scope (ts ++ N2) d) ifs (tt d)) (he : ∀ d, PE (yv X scope (ts ++ N2) d) elt (te d))
    (hW : ∀ d, sj J σ ts.length (g d) (tt d) (te d) H2 Fin)
    (hRR : ∀ D C s' H' ys, s₂.heap.objs.size <= C -> C ≠ D -> Inv X pins σ (upd H' D (.lst ys)) s' -> H' D = none -> H' C = none -> (∃ m, s'.heap.Ns C m) -> ys.length <= sizeLine -> Fin ys H' -> RR (.ref D) C (.ok .next) s') :
    wpAny (model X.prog X.w) X.A (newList []) (fun acc s₃ => wpAny (model X.prog X.w) X.A (newFunctionEnv scope X.env.globals cl0 [] X.env.qual none .none (some X.env)) (fun cenv s₄ =>
      codeAny (model X.prog X.w) X.A (.compStart (.ListComp elt [⟨tg, iter, ifs, 0⟩] scope pos) 0 (.ref it) acc { cenv with scope := relabel scope X.env }) (RR acc cenv.locals) s₄) E s₃) E s₂ := by
  refine wpAny_newObj_type (zbo fun hns₁ hold₁ => ?_);dsimp only at hns₁ hold₁ ⊢;generalize hH2 : s₂.heap.push { cls := .type "list", dict := none, data := .seq ([] : List Value).toArray } = HP at hns₁ hold₁ ⊢;have hC : HP.objs.size = s₂.heap.objs.size + 1 := by rw [<- hH2, Heap.size_push]
  have hDC : s₂.heap.objs.size ≠ HP.objs.size := by rw [hC]; exact Zs (Yw _)
  have hCle : s₂.heap.objs.size <= HP.objs.size := by rw [hC]; exact Ys _
  have below : ∀ b, b < s₂.heap.objs.size -> b ≠ HP.objs.size /\ b ≠ s₂.heap.objs.size := fun b hb => ⟨by rw [hC]; exact Zs (Yd hb), Zs hb⟩
  have hlow : ∀ x c, cl0.lookup x = some c -> c < s₂.heap.objs.size := fun x c e => by
    obtain ⟨v, q⟩ := I2.cell x c (hcl1 x c e);exact q.lt
  have cinv := qu (cl := cl0) (lo := HP.objs.size + 1) scope.names (HP.push { cls := .type "dict", data := .dict #[] }) cl0 (by rw [Heap.size_push]; exact Zm _)
    ⟨fun x c e => .inl ⟨e, Yd (Zh (hlow x c e) hCle)⟩, fun x y c e1 e2 => I2.ok.inj x y c (hcl1 _ _ e1) (hcl1 _ _ e2)⟩
  rw [Heap.size_push] at cinv
  have hcl : ClOk X s₂ scope (cellsFrom (HP.objs.size + 1) scope.names cl0) HP.objs.size s₂.heap.objs.size := by
    refine ⟨cinv.inj, fun x c e => ?_, fun y hy hf => ?_, fun y hy hk => ?_, fun x c hk e => ?_⟩
    . rcases cinv.get x c e with ⟨z, _⟩ | ⟨z, _⟩
      . exact .inl (hcl1 x c z)
      . exact .inr ⟨Zd hCle (Nat.le_of_succ_le z), ZR z, ZR (YJ hCle z)⟩
    . obtain ⟨c, e⟩ := hcl2 y hy hf
      refine ⟨c, ?_, hcl1 _ _ e⟩;rw [sr (zdq hown hy hf)];exact e
    . exact Yo.mp (PySem.W.cellsFrom_some _ _ _ (.inl (qh hown hy hk)))
    . exact qy (.inl (PySem.mem_of_lookup hk)) (YK hCle) e
  have hnew : ∀ x c, (cellsFrom (HP.objs.size + 1) scope.names cl0).lookup x = some c -> s₂.heap.objs.size <= c -> ∃ v, (pushCells (HP.push { cls := .type "dict", data := .dict #[] }) scope.names).IsCell c v := fun x c e hle => by
    rcases cinv.get x c e with ⟨z, _⟩ | ⟨_, z⟩
    . exact absurd (hlow x c z) (ZD.mpr hle)
    . exact ⟨_, z⟩
  generalize hh₁ : pushCells (HP.push { cls := .type "dict", data := .dict #[] }) scope.names = h₁ at *;generalize cellsFrom (HP.objs.size + 1) scope.names cl0 = cl at *;have old : ∀ b o, s₂.heap.get? b = some o -> h₁.get? b = some o := fun b o e => hold₁ b o (hH2 ▸ Heap.get?_push_of_some _ e)
  have hacc : h₁.get? s₂.heap.objs.size = some (lobj []) := hold₁ _ _ (hH2 ▸ Heap.get?_push_size _ rfl)
  have flt : ∀ b ∈ fp, b < s₂.heap.objs.size := fun b hb => by
    obtain ⟨o, e, _⟩ := T.obj _ _ st b hb;exact Heap.lt_size e
  generalize hDD : s₂.heap.objs.size = D at *;generalize hCC : HP.objs.size = C at *;have hDle : s₂.heap.objs.size <= D := Nat.le_of_eq hDD;have I4 := fun (tk : Nat) => za8 (ts := ts) (D := D) (C := C) (tk := tk) I2 hc (fun b hb => ⟨f2 b hb, by rw [hDD]; exact flt b hb⟩) hkind hown hfree hout hcl (by rw [hDD]; exact hCle) hDC hDle hns₁ old hacc (by rw [hDD]; exact hnew)
  generalize hd : (⟨cl, C, s₂, H2, fp⟩ : Dyn) = d at *;obtain ⟨W, ⟨m0, w0⟩, turn⟩ := hW d
  have Xs : ∀ {pl : List (Addr × Obj)} {H' : Hp}, (∀ b ∈ fp, H' b = none) -> (∀ p ∈ pl, p.1 = D) -> ∀ b ∈ fp, FpOk (yv X scope (ts ++ N2) d) pl H' b := fun {pl H'} hn hp b hb => by
    subst hd;obtain ⟨f0, f1, f3, f4, f5, f6⟩ := f2 b hb;refine ⟨hn b hb, (below b (flt b hb)).1, fun z => ?_, .inl hb, fun x c e => (hcl.old x c e).elim (f5 x c) fun z => ZR (Zh (flt b hb) (hDD ▸ z.1)), fun p hp' => ?_⟩
    . rcases ZK.mp (I2.stkSub b z) with z | z
      . exact f1 z
      . exact f3 z
    . rw [hp p (by simpa using hp')]
      exact Ne.symm (below b (flt b hb)).2
  have loop : ∀ s₃ : Shared, s₃ = { s₂ with heap := h₁ } ->
      codeAny (model X.prog X.w) X.A (.compLoop (.ListComp elt [⟨tg, iter, ifs, 0⟩] scope pos) 0 (.ref it) (.ref D) (compEnvC scope cl C X.env)) (RR (.ref D) C) s₃ := by
    rintro s₃ rfl
    refine iw (fun n s' => ∃ i ys H' its, Inv (yv X scope (ts ++ N2) d) [(D, lobj its)] (List.replicate ts.length none ++ σ) H' s' /\ tn i s'.heap /\ (∀ b ∈ fp, H' b = none) /\ Vals ys its /\ W i n ys H') ?_ m0
      ⟨0, [], H2, [], I4 _, T.keep _ _ _ st fun b _ o e => old b o e, fun b hb => (f2 b hb).1, .nil, w0⟩
    rintro n s3 ⟨i, ys, H3, its, I3, st3, fr3, hv3, w3⟩
    obtain ⟨hlen, tr⟩ := turn i n ys H3 w3
    have one : ∀ p ∈ [(D, lobj its)], p.1 = D := fun p hp => by
      have e : p = (D, lobj its) := by simpa using hp
      rw [e]
    have eenv : (yv X scope (ts ++ N2) d).env = compEnvC scope cl C X.env := by subst hd; rfl
    rcases tr with ⟨stop, fin⟩ | ⟨go, N, hN, step⟩
    . refine thn (T.done (yv X scope (ts ++ N2) d) rfl rfl rfl rfl i _ s3 _ H3 (fun _ _ => False) I3 (Xs fr3 one) st3 stop) fun r s4 ⟨hr, J4⟩ => ?_
      subst hr
      show RR (.ref D) C (.ok .next) s4
      obtain ⟨pe, pn, _⟩ := J4.pin (D, lobj its) (by simp);have fC : H3 C = none := by have := J4.free; rw [eenv] at this; exact this
      have nC : ∃ m, s4.heap.Ns C m := by
        obtain ⟨m, z, _⟩ := J4.loc;rw [eenv] at z;exact ⟨m, z⟩
      subst hd;exact hRR D C s4 H3 ys hCle (Ne.symm hDC) (zeq I2 f2 hDle J4 pe pn hv3 hlen) pn fC nC hlen fin
    . refine thn (T.item (yv X scope (ts ++ N2) d) rfl rfl rfl rfl i _ s3 _ H3 (fun _ _ => False) I3 (Xs fr3 one) st3 go) fun r s4 ⟨u, hr, h4⟩ => ?_
      subst hr;refine thn h4 fun _ s5 ⟨x, H5, I5, r5, y5, st5, fr5⟩ => ?_
      have I5' := I5.pinned (Xs fr5 one) (T.obj _ _ st5);rw [<- eenv];refine thn (hg d _ s5 _ H5 x u _ I5' r5 (step x H5 y5)) fun _ s6 ⟨σ6, H6, I6, hdrop, q6⟩ => ?_
      have back : ∀ {ys' : List V} {its' : List Value} {H' : Hp} {s' : Shared} {pl : List (Addr × Obj)}, Inv (yv X scope (ts ++ N2) d) ([(D, lobj its')] ++ pl) σ6 H' s' -> Inv (yv X scope (ts ++ N2) d) [(D, lobj its')] (List.replicate ts.length none ++ σ) H' s' := fun {ys' its' H' s' pl} I' => by
        have hl : σ6.length = (ts ++ N2).length := I'.len;refine (I'.pins_of (pins' := [(D, lobj its')]) fun p hp => I'.pin p (Zu _ (ZU _ hp))).weak ?_ ?_
        . rw [hl]; exact I3.len
        . intro j v e
          by_cases hj : j < ts.length
          . rw [Zg (by simpa using hj), ZZ] at e
            split at e <;> cases e
          . have hj' : ts.length <= j := ZD.mp hj
            rw [Zf (by simpa using hj'), ZI, <- hdrop, Yp] at e;rw [show ts.length + (j - ts.length) = j by omega] at e;exact e
      refine thn (ht d _ s6 σ6 H6 _ I6 q6) fun b s7 ⟨H7, I7, q7⟩ => ?_
      have pinsOf : ∀ {its' : List Value} {H' : Hp} {s' : Shared}, Inv (yv X scope (ts ++ N2) d) ([(D, lobj its')] ++ ld fp s5.heap) σ6 H' s' -> (∀ b ∈ fp, ∀ o, s5.heap.get? b = some o -> s'.heap.get? b = some o) /\ ∀ b ∈ fp, H' b = none := fun {its' H' s'} I' => by
        refine ⟨fun b hb o e => (I'.pin (b, o) (Zu _ (Zu _ (ve hb e)))).1, fun b hb => ?_⟩;obtain ⟨o, e, _⟩ := T.obj _ _ st5 b hb;exact (I'.pin (b, o) (Zu _ (Zu _ (ve hb e)))).2.1
      cases b with
      | false =>
        have q7' : N ys H7 := by simpa using q7
        obtain ⟨m', hm, w7⟩ := hN _ _ q7';obtain ⟨k1, k2⟩ := pinsOf I7
        show ∃ m, m < n /\ _
        exact ⟨m', hm, i + 1, ys, H7, its, back (ys' := ys) I7, T.keep _ _ _ st5 k1, k2, hv3, w7⟩
      | true =>
        have q7' : te d σ6 H7 fun v H4 => N (ys ++ [v]) H4 := by simpa using q7
        show wpAny _ _ _ _ _ _
        refine thn (he d _ s7 σ6 H7 _ I7 q7') fun y s8 ⟨v, H8, I8, r8, n8⟩ => ?_
        obtain ⟨m', hm, w8⟩ := hN _ _ n8;obtain ⟨k1, k2⟩ := pinsOf I8;obtain ⟨pe, pn, pC, pf, pd⟩ := I8.pin (D, lobj its) (by simp);have hsz : its.toArray.size <= sizeLine := by rw [Zr, <- hv3.length]; exact hlen
        refine append_at (hsz := hsz) pe fun h9 sb9 e9 => ?_
        have J8 : Inv (yv X scope (ts ++ N2) d) [] σ6 H8 s8 := I8.pins_of fun p hp => nomatch hp
        have hDs : (yv X scope (ts ++ N2) d).s₀.heap.objs.size <= D := by subst hd; exact hDle
        have J9 : Inv (yv X scope (ts ++ N2) d) [] σ6 H8 { s8 with heap := h9 } := J8.turned (t' := s8.toks) (it := D) (fun b o hb e => sb9.extBut b o hb e) pn pC (.inr hDs)
          (fun x c e => by
            subst hd
            rcases hcl.old x c e with z | z
            . obtain ⟨v2, z2⟩ := I2.cell x c z
              exact Zs (Zh z2.lt hDle)
            . exact z.2.2) (fun p hp => nomatch hp)
        have e9' : h9.get? D = some (lobj (its ++ [y])) := by
          rw [e9]
          show some ({ cls := .type "list", data := .seq (its.toArray.push y) (its.length + 1) } : Obj) = some { cls := .type "list", data := .seq (its ++ [y]).toArray (its ++ [y]).length }
          rw [Zo, Yk, List.push_toArray]
        have J9' : Inv (yv X scope (ts ++ N2) d) ([(D, lobj (its ++ [y]))] ++ []) σ6 H8 { s8 with heap := h9 } := J9.pins_of fun p hp => by
          have e : p = (D, lobj (its ++ [y])) := by simpa using hp
          subst e;exact ⟨e9', pn, pC, pf, fun v z => by cases z⟩
        refine ⟨m', hm, i + 1, ys ++ [v], H8, its ++ [y], back (ys' := ys) J9', ?_, k2, hv3.append (.cons r8 .nil), w8⟩;exact T.keep _ _ _ st5 fun b hb o e => sb9.extBut b o (below b (flt b hb)).2 (k1 b hb o e)
  exact codeAny_compStart_list (loop _ rfl) (T.self _ 0 _ _ _ (T.keep _ _ _ st fun b _ o e => old b o e) (loop _ rfl))
end
theorem zf9 {X : Cx} {tg elt iter : Expr} {ifs : List Expr} {scope : Scope} {pos : Pos} (ts N2 : List Str) {wi : TI} {g : Dyn -> TG} {tt : Dyn -> TT} {te : Dyn -> TE} (hc : X.calm = true) (hi : PI X tg iter wi)
    (hg : ∀ d, PG (yv X scope (ts ++ N2) d) tg (g d)) (ht : ∀ d, PTs (yv X scope (ts ++ N2) d) ifs (tt d)) (he : ∀ d, PE (yv X scope (ts ++ N2) d) elt (te d))
    (hkind : scope.kind = .function) (hown : m8 scope.names = true) (hfree : uq scope.names X.env = true) (hout : wm scope.names N2 X.N = true)
    (hs : ∀ x, foldedSetIterable iter X.env x = pure x := by intro _; rfl) : PE X (.ListComp elt [⟨tg, iter, ifs, 0⟩] scope pos) (bq ts.length wi g tt te) := by
  intro pins s σ H Q I h;obtain ⟨cl, hclos, hcl1, hcl2⟩ := l7 (scope := scope) (env := X.env) fun y hy hf => I.ok.has y.1 (sk hfree hy hf)
  rw [eval_ListComp];refine wpAny_comprehension_free (use := none) rfl hs hclos hkind (fun y hy e => qh hown hy e) (thn (hi pins s σ H _ I h) fun v s1 h1 => thn h1 fun itv s2 h2 => ?_);obtain ⟨it, fp, tn, J, H2, e, I2, T, st2, f2, hW⟩ := h2;subst e;refine zbf (RR := fun acc C => compPost (model X.prog X.w) X.A X.xe none (EP X pins σ Q) acc C) I2 hc T st2 f2 hkind hown hfree hout hcl1 hcl2 hg ht he hW ?_;intro D C s' H' ys hC hCD I' hD hCn hNs hl fin;obtain ⟨m, hm⟩ := hNs;refine ⟨m, hm, fun h' sb => ?_⟩
  have I'' : Inv X pins σ (upd H' D (.lst ys)) { s' with heap := h' } := by
    refine I'.turned (t' := s'.toks) (it := C) (fun b o hb e => sb.extBut b o hb e) (by rw [zx hCD]; exact hCn) (ZR (Zh I2.lt hC)) (.inr (Zd I2.sz hC)) (fun x c e => ?_) fun p hp => ?_
    . obtain ⟨v, q⟩ := I2.cell x c e
      exact Zs (Zh q.lt hC)
    . exact Zs (Zh (Heap.lt_size (I2.pin p hp).1) hC)
  exact ⟨.ref D, _, I'', rfl, fin D hD⟩
end L2
namespace L2
open PySem PySem.Spec PyProof.Rows
theorem e_dg1 {td ty : TE} {σ : St} {H : Hp} {Q : VK} : tDGet1 td ty σ H Q = td σ H fun x H1 => ∃ a, x = .ref a /\ IsD H1 a /\ ty σ H1 fun y H2 => ∃ o, DGet H2 a y o /\ Q (o.getD .non) H2 := rfl
theorem e_dg2 {td ty tx : TE} {σ : St} {H : Hp} {Q : VK} : tDGet2 td ty tx σ H Q = td σ H fun x H1 => ∃ a, x = .ref a /\ IsD H1 a /\ ty σ H1 fun y H2 => tx σ H2 fun z H3 => ∃ o, DGet H3 a y o /\ Q (o.getD z) H3 := rfl
end L2
namespace L2
open PySem PySem.Spec PyProof.Rows
section
variable {X : Cx}
def rNeI (K : Fg) (x y : V) (H : Hp) (Q : VK) : Prop := ∃ a b xs, x = .ref a /\ y = .ref b /\ SqL K H a xs /\ SqL K H b xs /\ (∀ v ∈ xs, ∃ t, v = V.ref t) /\ Q (.bl false) H
theorem e_neI {K : Fg} {x y : V} {H : Hp} {Q : VK} : rNeI K x y H Q = ∃ a b xs, x = .ref a /\ y = .ref b /\ SqL K H a xs /\ SqL K H b xs /\ (∀ v ∈ xs, ∃ t, v = V.ref t) /\ Q (.bl false) H := rfl
end
end L2
namespace L2
open PySem PySem.Spec PyProof.Rows
section
variable {M : Model} {A : Around} {E : Value -> Shared -> Prop} {s : Shared}
end
section
variable {X : Cx} {pins : List (Addr × Obj)} {σ : St} {H : Hp} {s : Shared}
end
section
variable {X : Cx} {pins : List (Addr × Obj)} {σ : St} {H2 : Hp} {s₂ : Shared} {scope : Scope} {ts N2 : List Str} {cl : List (Str × Addr)} {C D : Addr} {fp : List Addr}
end
end L2
namespace L2
open PySem PySem.Spec PyProof.Rows
section
variable {X : Cx}
def rSplit : V -> List V -> Hp -> VK -> Prop := fun x vs H Q => ∃ z y, x = .str z /\ vs = [.str y] /\ (y.length == 0) = false /\ z.length <= sizeLine /\ (Txt.split z y).length <= sizeLine /\ ∀ l, H l = none -> Q (.ref l) (upd H l (.lst ((Txt.split z y).map V.str)))
theorem zh1 {x : V} {vs : List V} {H : Hp} {Q : VK} : rSplit x vs H Q = ∃ z y, x = .str z /\ vs = [.str y] /\ (y.length == 0) = false /\ z.length <= sizeLine /\ (Txt.split z y).length <= sizeLine /\ ∀ l, H l = none -> Q (.ref l) (upd H l (.lst ((Txt.split z y).map V.str))) := rfl
end
end L2
namespace L2
open PySem PySem.Spec PyProof.Rows
theorem zh4 {c : TT} {tb : TS} {D : Ends} {σ : St} {H : Hp} : tWhile c tb D σ H = ∃ W : Nat -> St -> Hp -> Prop, (∃ m, W m σ H) /\ ∀ m σ H, W m σ H ->
  c σ H fun b H1 => if b = true then ∃ N : St -> Hp -> Prop, (∀ σ' H', N σ' H' -> ∃ m', m' < m /\ W m' σ' H') /\ tb { D with nx := N, ct := N, bk := D.nx } σ H1 else D.nx σ H1 := rfl
end L2
namespace L2
open PySem PySem.Spec PyProof.Rows
def tGlT (K : Fg) (xs : List V) : TE := fun _ H Q => ∀ p, SqT K H p xs -> Q (.ref p) H
theorem e_glT {K : Fg} {xs : List V} {σ : St} {H : Hp} {Q : VK} : tGlT K xs σ H Q = ∀ p, SqT K H p xs -> Q (.ref p) H := rfl
end L2
namespace L2
open PySem PySem.Spec PyProof.Rows
def rIntS (xs : List V) (H : Hp) (Q : VK) : Prop := ∃ (x : Str) (n : Int), xs = [.str x] /\ PySem.intText? x = some n /\ x.length <= 640 /\ Q (.int n) H
theorem e_intS {xs : List V} {H : Hp} {Q : VK} : rIntS xs H Q = ∃ (x : Str) (n : Int), xs = [.str x] /\ PySem.intText? x = some n /\ x.length <= 640 /\ Q (.int n) H := rfl
section
variable {X : Cx}
end
section
variable {a b c d t e u : TS} {tc : TT} {D : Ends} {σ : L2.St} {H : Hp}
end
end L2
namespace Mine
open PySem PySem.Spec PyProof.Rows L2
theorem yd {α β : Type} {g : α -> β} {xs : List α} {i : Nat} {x : β} (h : (xs.map g)[i]? = some x) : ∃ y, xs[i]? = some y /\ g y = x := by
  rw [Ze] at h
  cases e : xs[i]? with
  | none => rw [e] at h; cases h
  | some y => rw [e] at h; cases h; exact ⟨y, rfl, rfl⟩
def ze := And.intro @e_intS (And.intro @e_var (And.intro @e_C (And.intro @e_op (And.intro @e_un (And.intro @e_rI (And.intro @e_rI0 (And.intro @e_rU (And.intro @e_rEq (And.intro @e_rNe (And.intro @e_ixL (And.intro @e_ixT (And.intro @e_set (And.intro @e_cat (And.intro @e_test (And.intro @e_B (And.intro @e_and (And.intro @e_or (And.intro @e_not (And.intro @e_andV (And.intro @e_orV (And.intro @e_notV (And.intro @e_ifE (And.intro @e_all (And.intro @e_next (And.intro @e_seq (And.intro @e_brk (And.intro @e_cnt (And.intro @e_drop (And.intro @e_ret (And.intro @e_retN (And.intro @e_ifS (And.intro @e_asg (And.intro @zhr (And.intro @e_setC (And.intro @e_augS (And.intro @e_ipI (And.intro @e_nil (And.intro @e_cons (And.intro @e_tup (And.intro @e_lst (And.intro @e_call (And.intro @e_CB (And.intro @e_BM (And.intro @e_app (And.intro @e_rng1 (And.intro @e_rng2 (And.intro @e_iL (And.intro @e_for (And.intro @e_comp (And.intro @cxK (And.intro @e_zip (And.intro @e_gTup (And.intro @e_gNil (And.intro @zhc (And.intro @e_rep (And.intro @e_gSub (And.intro @e_slL (And.intro @e_tSl (And.intro @zf8 (And.intro @e_part (And.intro @e_rng3 (And.intro @zg0 (And.intro @e_pop (And.intro @e_BM0 (And.intro @zh7 (And.intro @e_in (And.intro @e_enum (And.intro @e_minK (And.intro @zg8 (And.intro @zhm (And.intro @zhv (And.intro @e_try0 (And.intro @suK (And.intro @noxK (And.intro @tryK (And.intro @e_eqD (And.intro @e_inD (And.intro @e_iStr (And.intro @e_mulS (And.intro @e_ixS (And.intro @e_join (And.intro @e_rev (And.intro @zg4 (And.intro @zgv (And.intro @e_iT (And.intro @e_iSeq (And.intro @e_tupL (And.intro @e_disp (And.intro @zfu (And.intro @zgp (And.intro @e_minL (And.intro @e_maxL (And.intro @zez (And.intro @ze1 (And.intro @zgd (And.intro @e_leS (And.intro @e_vI0 (And.intro @e_vI (And.intro @e_ints (And.intro @e_isB (And.intro @e_catH (And.intro @zf0 (And.intro @e_rngD (And.intro @e_slH (And.intro @e_slT (And.intro @zfy (And.intro @zf4 (And.intro @e_inK (And.intro @e_setD (And.intro @zht (And.intro @e_dget (And.intro @e_zip3 (And.intro @e_zip2 (And.intro @e_BMT (And.intro @zhp (And.intro @e_maxK (And.intro @zgr (And.intro @e_eqK (And.intro @zfv (And.intro @e_dg1 (And.intro @e_dg2 (And.intro @e_neI (And.intro @zh1 (And.intro @zh4 (@e_glT)))))))))))))))))))))))))))))))))))))))))))))))))))))))))))))))))))))))))))))))))))))))))))))))))))))))))))))))))))))))))))))
def zd := And.intro @ZL.{0} (And.intro @ZW.{0} (And.intro @Nat.zero_add (And.intro @YG.{0} (And.intro @List.replicate_zero.{0} (And.intro @List.drop_succ_cons.{0} (And.intro @List.drop_zero.{0} (And.intro @Int.zero_add (And.intro @List.getElem?_cons_zero.{0} (And.intro @Yr.{0} (And.intro @List.set_cons_zero.{0} (And.intro @List.set_cons_succ.{0} (And.intro @Option.some.injEq.{0} (And.intro @V.int.injEq (And.intro @V.ref.injEq (And.intro @V.bl.injEq (And.intro @V.ty.injEq (And.intro @V.str.injEq (And.intro @List.cons.injEq.{0} (And.intro @Yb.{0} (And.intro @List.cons_append.{0} (And.intro @List.nil_append.{0} (And.intro @exists_eq.{1} (And.intro @exists_eq'.{1} (And.intro @exists_eq_left.{1} (And.intro @exists_eq_left'.{1} (And.intro @exists_and_left.{1} (And.intro @exists_and_right.{1} (And.intro @and_assoc (And.intro @true_and (@and_true))))))))))))))))))))))))))))))
def top (i : Nat) : Stmt := PySem.Challenge.pw_trueword_k55_whole_pivots_are_honest.main.body.getD i (.Pass ⟨0, 0, 0, 0⟩)
abbrev p0 : Stmt := top 7
theorem za2 : zn ["thing"] ["thing"] (zi p0) := ⟨rfl, rfl, rfl, by decide +kernel, rfl, by decide +kernel, by decide +kernel⟩
abbrev re : Stmt := top 8
theorem bp : zn ["thing"] ["thing"] (zi re) := ⟨rfl, rfl, rfl, by decide +kernel, rfl, by decide +kernel, by decide +kernel⟩
abbrev u0 : Stmt := top 9
theorem dv : zn ["thing", "width"] ["thing", "width"] (zi u0) := ⟨rfl, rfl, rfl, by decide +kernel, rfl, by decide +kernel, by decide +kernel⟩
abbrev fb : Stmt := top 10
theorem zh0 : zn ["grid", "s", "t"] ["grid", "s", "t"] (zi fb) := ⟨rfl, rfl, rfl, by decide +kernel, rfl, by decide +kernel, by decide +kernel⟩
abbrev fi : Stmt := top 11
theorem zh2 : zn ["grid", "pays", "t", "s"] ["grid", "pays", "t", "s"] (zi fi) := ⟨rfl, rfl, rfl, by decide +kernel, rfl, by decide +kernel, by decide +kernel⟩
abbrev sw : Stmt := top 12
theorem sc_first_gain : zn ["grid", "pays", "t", "s", "more"] ["grid", "pays"] (zi sw) := ⟨rfl, rfl, rfl, by decide +kernel, rfl, by decide +kernel, by decide +kernel⟩
abbrev ni : Stmt := top 18
theorem zc9 : zn ["thing"] ["thing"] (zi ni) := ⟨rfl, rfl, rfl, by decide +kernel, rfl, by decide +kernel, by decide +kernel⟩
abbrev qf : Stmt := top 19
theorem av : zn ["thing", "most"] ["thing", "most"] (zi qf) := ⟨rfl, rfl, rfl, by decide +kernel, rfl, by decide +kernel, by decide +kernel⟩
abbrev sx : Stmt := top 20
theorem bo : zn ["thing", "height", "width"] ["thing", "height", "width"] (zi sx) := ⟨rfl, rfl, rfl, by decide +kernel, rfl, by decide +kernel, by decide +kernel⟩
abbrev mh : Stmt := top 21
theorem zdh : zn ["thing", "width"] ["thing", "width"] (zi mh) := ⟨rfl, rfl, rfl, by decide +kernel, rfl, by decide +kernel, by decide +kernel⟩
abbrev nt : Stmt := top 22
theorem zdp : zn ["hand"] ["hand"] (zi nt) := ⟨rfl, rfl, rfl, by decide +kernel, rfl, by decide +kernel, by decide +kernel⟩
abbrev q9 : Stmt := top 23
theorem zba : zn ["hands"] ["hands"] (zi q9) := ⟨rfl, rfl, rfl, by decide +kernel, rfl, by decide +kernel, by decide +kernel⟩
abbrev w5 : Stmt := top 24
theorem o0 : zn ["hand"] ["hand"] (zi w5) := ⟨rfl, rfl, rfl, by decide +kernel, rfl, by decide +kernel, by decide +kernel⟩
abbrev wf : Stmt := top 25
theorem q8 : zn ["hand"] ["hand"] (zi wf) := ⟨rfl, rfl, rfl, by decide +kernel, rfl, by decide +kernel, by decide +kernel⟩
abbrev qd : Stmt := top 26
theorem aa : zn ["hand", "word"] ["hand", "word"] (zi qd) := ⟨rfl, rfl, rfl, by decide +kernel, rfl, by decide +kernel, by decide +kernel⟩
abbrev vv : Stmt := top 27
theorem sc_count_of_rows : zn ["hands", "count", "hand"] ["hands"] (zi vv) := ⟨rfl, rfl, rfl, by decide +kernel, rfl, by decide +kernel, by decide +kernel⟩
abbrev u9 : Stmt := top 28
theorem d4 : zn ["outcomes", "hands"] ["outcomes", "hands"] (zi u9) := ⟨rfl, rfl, rfl, by decide +kernel, rfl, by decide +kernel, by decide +kernel⟩
abbrev qi : Stmt := top 29
theorem sc_kept_hand : zn ["hand", "worths"] ["hand"] (zi qi) := ⟨rfl, rfl, rfl, by decide +kernel, rfl, by decide +kernel, by decide +kernel⟩
abbrev pk : Stmt := top 30
theorem zbb : zn ["outcomes", "hands"] ["outcomes", "hands"] (zi pk) := ⟨rfl, rfl, rfl, by decide +kernel, rfl, by decide +kernel, by decide +kernel⟩
abbrev uy : Stmt := top 31
theorem dk : zn ["house"] ["house"] (zi uy) := ⟨rfl, rfl, rfl, by decide +kernel, rfl, by decide +kernel, by decide +kernel⟩
abbrev p8 : Stmt := top 32
theorem za7 : zn ["house"] ["house"] (zi p8) := ⟨rfl, rfl, rfl, by decide +kernel, rfl, by decide +kernel, by decide +kernel⟩
abbrev rp : Stmt := top 33
theorem sc_with_each : zn ["rows", "words", "longer", "row"] ["rows", "words"] (zi rp) := ⟨rfl, rfl, rfl, by decide +kernel, rfl, by decide +kernel, by decide +kernel⟩
abbrev r6 : Stmt := top 34
theorem sc_rows_over : zn ["hands", "rows", "hand"] ["hands"] (zi r6) := ⟨rfl, rfl, rfl, by decide +kernel, rfl, by decide +kernel, by decide +kernel⟩
abbrev me : Stmt := top 35
theorem zdm : zn ["house"] ["house"] (zi me) := ⟨rfl, rfl, rfl, by decide +kernel, rfl, by decide +kernel, by decide +kernel⟩
abbrev pq : Stmt := top 36
theorem za1 : zn ["others", "k", "word"] ["others", "k", "word"] (zi pq) := ⟨rfl, rfl, rfl, by decide +kernel, rfl, by decide +kernel, by decide +kernel⟩
abbrev ux : Stmt := top 38
theorem du : zn ["house", "thing"] ["house", "thing"] (zi ux) := ⟨rfl, rfl, rfl, by decide +kernel, rfl, by decide +kernel, by decide +kernel⟩
abbrev vz : Stmt := top 39
theorem gu : zn ["house", "thing"] ["house", "thing"] (zi vz) := ⟨rfl, rfl, rfl, by decide +kernel, rfl, by decide +kernel, by decide +kernel⟩
abbrev vf : Stmt := top 40
theorem ig : zn ["house", "weights", "handicaps"] ["house", "weights", "handicaps"] (zi vf) := ⟨rfl, rfl, rfl, by decide +kernel, rfl, by decide +kernel, by decide +kernel⟩
abbrev ma : Stmt := top 41
theorem zdo : zn ["hand", "weight", "word"] ["hand", "weight", "word"] (zi ma) := ⟨rfl, rfl, rfl, by decide +kernel, rfl, by decide +kernel, by decide +kernel⟩
abbrev px : Stmt := top 42
theorem zbg : zn ["house", "weights", "row"] ["house", "weights", "row"] (zi px) := ⟨rfl, rfl, rfl, by decide +kernel, rfl, by decide +kernel, by decide +kernel⟩
abbrev kg : Stmt := top 43
theorem sc_scores : zn ["house", "weights", "handicaps", "row", "totals", "part"] ["house", "weights", "handicaps", "row"] (zi kg) := ⟨rfl, rfl, rfl, by decide +kernel, rfl, by decide +kernel, by decide +kernel⟩
abbrev ra : Stmt := top 44
theorem bf : zn ["totals"] ["totals"] (zi ra) := ⟨rfl, rfl, rfl, by decide +kernel, rfl, by decide +kernel, by decide +kernel⟩
abbrev ug : Stmt := top 45
theorem ft : zn ["house", "weights", "handicaps", "row"] ["house", "weights", "handicaps", "row"] (zi ug) := ⟨rfl, rfl, rfl, by decide +kernel, rfl, by decide +kernel, by decide +kernel⟩
abbrev t9 : Stmt := top 46
theorem bi : zn ["house", "weights", "handicaps"] ["house", "weights", "handicaps"] (zi t9) := ⟨rfl, rfl, rfl, by decide +kernel, rfl, by decide +kernel, by decide +kernel⟩
abbrev j5 : Stmt := top 47
theorem sc_pivot : zn ["totals", "part", "rest"] ["totals", "part"] (zi j5) := ⟨rfl, rfl, rfl, by decide +kernel, rfl, by decide +kernel, by decide +kernel⟩
abbrev km : Stmt := top 48
theorem sc_pivots : zn ["house", "weights", "handicaps", "row", "totals"] ["house", "weights", "handicaps", "row"] (zi km) := ⟨rfl, rfl, rfl, by decide +kernel, rfl, by decide +kernel, by decide +kernel⟩
abbrev uh : Stmt := top 50
theorem sc_dealt_places : zn ["house", "table", "k", "others", "rows"] ["house", "table", "k", "others"] (zi uh) := ⟨rfl, rfl, rfl, by decide +kernel, rfl, by decide +kernel, by decide +kernel⟩
abbrev r9 : Stmt := top 51
theorem zab : zn ["worths", "places"] ["worths", "places"] (zi r9) := ⟨rfl, rfl, rfl, by decide +kernel, rfl, by decide +kernel, by decide +kernel⟩
abbrev mf : Stmt := top 52
theorem sc_grid_of : zn ["house", "table", "k", "others", "places"] ["house", "table", "k", "others"] (zi mf) := ⟨rfl, rfl, rfl, by decide +kernel, rfl, by decide +kernel, by decide +kernel⟩
abbrev pc : Stmt := top 54
theorem zbk : zn ["walk"] ["walk"] (zi pc) := ⟨rfl, rfl, rfl, by decide +kernel, rfl, by decide +kernel, by decide +kernel⟩
abbrev p6 : Stmt := top 55
theorem zbl : zn ["walk"] ["walk"] (zi p6) := ⟨rfl, rfl, rfl, by decide +kernel, rfl, by decide +kernel, by decide +kernel⟩
abbrev wp : Stmt := top 56
theorem l8 : zn ["grid", "s"] ["grid", "s"] (zi wp) := ⟨rfl, rfl, rfl, by decide +kernel, rfl, by decide +kernel, by decide +kernel⟩
abbrev sf : Stmt := top 57
theorem sc_least_to : zn ["grid", "walks", "t", "longer"] ["grid", "walks", "t"] (zi sf) := ⟨rfl, rfl, rfl, by decide +kernel, rfl, by decide +kernel, by decide +kernel⟩
abbrev v7 : Stmt := top 58
theorem jc : zn ["grid", "walks"] ["grid", "walks"] (zi v7) := ⟨rfl, rfl, rfl, by decide +kernel, rfl, by decide +kernel, by decide +kernel⟩
abbrev ui : Stmt := top 59
theorem eg : zn ["grid", "totals", "t"] ["grid", "totals", "t"] (zi ui) := ⟨rfl, rfl, rfl, by decide +kernel, rfl, by decide +kernel, by decide +kernel⟩
abbrev sd : Stmt := top 60
theorem sc_has_honest : zn ["grid", "totals", "size"] ["grid"] (zi sd) := ⟨rfl, rfl, rfl, by decide +kernel, rfl, by decide +kernel, by decide +kernel⟩
abbrev wq : Stmt := top 61
theorem sc_closed_below_zero : zn ["rows", "s", "walks"] ["rows"] (zi wq) := ⟨rfl, rfl, rfl, by decide +kernel, rfl, by decide +kernel, by decide +kernel⟩
abbrev g0 : Stmt := top 62
theorem sc_ring : zn ["grid", "rows", "size", "found"] ["grid"] (zi g0) := ⟨rfl, rfl, rfl, by decide +kernel, rfl, by decide +kernel, by decide +kernel⟩
abbrev uz : Stmt := top 64
theorem dm : zn ["grid"] ["grid"] (zi uz) := ⟨rfl, rfl, rfl, by decide +kernel, rfl, by decide +kernel, by decide +kernel⟩
abbrev k8 : Stmt := top 65
theorem zet : zn ["walk", "longer"] ["walk", "longer"] (zi k8) := ⟨rfl, rfl, rfl, by decide +kernel, rfl, by decide +kernel, by decide +kernel⟩
abbrev u8 : Stmt := top 66
theorem sc_least_roads : zn ["grid", "walks", "size"] ["grid", "walks"] (zi u8) := ⟨rfl, rfl, rfl, by decide +kernel, rfl, by decide +kernel, by decide +kernel⟩
abbrev pz : Stmt := top 68
theorem sc_greatest : zn ["grid", "walks"] ["grid"] (zi pz) := ⟨rfl, rfl, rfl, by decide +kernel, rfl, by decide +kernel, by decide +kernel⟩
abbrev pj : Stmt := top 70
theorem zay : zn ["script", "k"] ["script", "k"] (zi pj) := ⟨rfl, rfl, rfl, by decide +kernel, rfl, by decide +kernel, by decide +kernel⟩
abbrev sh : Stmt := top 71
theorem c0 : zn ["cell", "top"] ["cell", "top"] (zi sh) := ⟨rfl, rfl, rfl, by decide +kernel, rfl, by decide +kernel, by decide +kernel⟩
abbrev yg : Stmt := top 72
theorem sc_law_names : zn ["cell", "many", "letters", "other", "names", "k", "sign", "head"] ["cell", "many"] (zi yg) := ⟨rfl, rfl, rfl, by decide +kernel, rfl, by decide +kernel, by decide +kernel⟩
abbrev rq : Stmt := top 73
theorem sc_law_hands : zn ["script", "places", "top", "many", "called", "hands", "spot", "k", "size", "worths", "t"] ["script", "places", "top"] (zi rq) := ⟨rfl, rfl, rfl, by decide +kernel, rfl, by decide +kernel, by decide +kernel⟩
abbrev ph : Stmt := top 74
theorem sc_law_rows : zn ["hands", "rows", "hand", "longer_ones", "row", "word"] ["hands"] (zi ph) := ⟨rfl, rfl, rfl, by decide +kernel, rfl, by decide +kernel, by decide +kernel⟩
abbrev u7 : Stmt := top 76
theorem di : zn ["script", "many"] ["script", "many"] (zi u7) := ⟨rfl, rfl, rfl, by decide +kernel, rfl, by decide +kernel, by decide +kernel⟩
abbrev vx : Stmt := top 77
theorem i8 : zn ["script", "places"] ["script", "places"] (zi vx) := ⟨rfl, rfl, rfl, by decide +kernel, rfl, by decide +kernel, by decide +kernel⟩
abbrev rc : Stmt := top 79
theorem sc_law_column : zn ["hands", "outcomes", "table", "k", "others", "places"] ["hands", "outcomes", "table", "k", "others"] (zi rc) := ⟨rfl, rfl, rfl, by decide +kernel, rfl, by decide +kernel, by decide +kernel⟩
abbrev si : Stmt := top 80
theorem sc_law_honest : zn ["grid", "weight", "pays", "t", "s", "more"] ["grid", "weight", "pays"] (zi si) := ⟨rfl, rfl, rfl, by decide +kernel, rfl, by decide +kernel, by decide +kernel⟩
abbrev nk : Stmt := top 81
theorem zc1 : zn ["hand"] ["hand"] (zi nk) := ⟨rfl, rfl, rfl, by decide +kernel, rfl, by decide +kernel, by decide +kernel⟩
abbrev uw : Stmt := top 82
theorem sc_law_bounded : zn ["grid", "weight", "pays", "high", "t"] ["grid", "weight", "pays", "high"] (zi uw) := ⟨rfl, rfl, rfl, by decide +kernel, rfl, by decide +kernel, by decide +kernel⟩
abbrev nz : Stmt := top 83
theorem sc_law : zn ["script", "places", "hands", "outcomes", "house", "weights", "handicaps", "table", "k", "others", "grid", "rows", "pays", "high"] ["script"] (zi nz) := ⟨rfl, rfl, rfl, by decide +kernel, rfl, by decide +kernel, by decide +kernel⟩
structure Bt (mg : Str -> Option Value) : Prop where
  «abs» : mg "abs" = none
  «all» : mg "all" = none
  «bool» : mg "bool" = none
  «dict» : mg "dict" = none
  «enumerate» : mg "enumerate" = none
  «int» : mg "int" = none
  «isinstance» : mg "isinstance" = none
  «len» : mg "len" = none
  «list» : mg "list" = none
  «max» : mg "max" = none
  «min» : mg "min" = none
  «range» : mg "range" = none
  «set» : mg "set" = none
  «str» : mg "str" = none
  «tuple» : mg "tuple" = none
  «zip» : mg "zip" = none
  k_MOST_WORDS : ∃ t, mg "MOST_WORDS" = some (Value.int 8 t)
  k_MOST_LETTERS : ∃ t, mg "MOST_LETTERS" = some (Value.int 8 t)
  k_MOST_OUTCOMES : ∃ t, mg "MOST_OUTCOMES" = some (Value.int 8 t)
  k_MOST_HANDS : ∃ t, mg "MOST_HANDS" = some (Value.int 4 t)
  k_MOST_ROWS : ∃ t, mg "MOST_ROWS" = some (Value.int 256 t)
structure Ad where
  NoHouse : Addr
  NoWeight : Addr
  NoPays : Addr
structure Ct (K : Fg) (mg : Str -> Option Value) (a : Ad) : Prop where
  m_NoHouse : mg "NoHouse" = some (.ref a.NoHouse)
  q_NoHouse : ErrQ K a.NoHouse
  m_NoWeight : mg "NoWeight" = some (.ref a.NoWeight)
  q_NoWeight : ErrQ K a.NoWeight
  m_NoPays : mg "NoPays" = some (.ref a.NoPays)
  q_NoPays : ErrQ K a.NoPays
structure NewGrid (H H' : Hp) (b : Addr) (bs : List Addr) (rows : List (List Int)) (k n : Nat) : Prop where
  same : Same H H'
  nb : H b = none
  nr : ∀ r ∈ bs, H r = none
  nd : bs.Nodup
  ne : b ∉ bs
  at' : H' b = some (.lst (bs.map V.ref))
  lb : bs.length = k
  lr : rows.length = k
  row : ∀ (i : Nat) (r : Addr) (ns : List Int), bs[i]? = some r -> rows[i]? = some ns -> H' r = some (.lst (ns.map V.int)) /\ ns.length = n
theorem Same.upd {H H' : Hp} (s : Same H H') {a : Addr} {o : HO} (n : H a = none) : Same H (upd H' a o) := fun b u e => by
  rw [zx (y8 e n)]; exact s b u e
theorem NewGrid.nil {H H' : Hp} {b : Addr} {n : Nat} (s : Same H H') (nb : H' b = none) : NewGrid H (upd H' b (.lst [])) b [] [] 0 n :=
  ⟨Same.upd s (s.free nb), s.free nb, (fun _ z => nomatch z), YH, (fun z => nomatch z), zf, rfl, rfl, (fun i r ns e => by simp at e)⟩
theorem NewGrid.laid {H H' : Hp} {b c : Addr} {bs : List Addr} {rows : List (List Int)} {k n : Nat} {o : HO} (g : NewGrid H H' b bs rows k n) (nc : H' c = none) : NewGrid H (L2.upd H' c o) b bs rows k n :=
  ⟨Same.upd g.same (g.same.free nc), g.nb, g.nr, g.nd, g.ne, by rw [zx (y8 g.at' nc)]; exact g.at', g.lb, g.lr, fun i r ns e1 e2 => by
    obtain ⟨q, l⟩ := g.row i r ns e1 e2
    exact ⟨by rw [zx (y8 q nc)]; exact q, l⟩⟩
theorem NewGrid.snoc {H H' : Hp} {b c : Addr} {bs : List Addr} {rows : List (List Int)} {k n : Nat} {ns : List Int} (g : NewGrid H H' b bs rows k n) (hn : H c = none) (hc : H' c = some (.lst (ns.map V.int))) (hl : ns.length = n) (hb : c ∉ bs) (hcb : c ≠ b) :
    NewGrid H (L2.upd H' b (.lst (bs.map V.ref ++ [.ref c]))) b (bs ++ [c]) (rows ++ [ns]) (k + 1) n := by
  refine ⟨Same.upd g.same g.nb, g.nb, fun r hr => ?_, ?_, ?_, ?_, by rw [Zo, g.lb]; rfl, by rw [Zo, g.lr]; rfl, fun i r ms e1 e2 => ?_⟩
  . rcases ZH.mp hr with z | z
    . exact g.nr r z
    . rw [ZC.mp z]; exact hn
  . refine Yj.mpr ⟨g.nd, by simp, fun x hx y hy => ?_⟩
    rw [ZC.mp hy]
    rintro rfl
    exact hb hx
  . intro z
    rcases ZH.mp z with z | z
    . exact g.ne z
    . exact hcb (ZC.mp z).symm
  . rw [zf, Zn]; rfl
  . have nb' : ∀ r, r ∈ bs ++ [c] -> r ≠ b := fun r hr => by
      rcases ZH.mp hr with z | z
      . rintro rfl; exact g.ne z
      . rw [ZC.mp z]; exact hcb
    have hr : r ∈ bs ++ [c] := Zi e1;rw [zx (nb' r hr)]
    by_cases hi : i < bs.length
    . rw [Zg hi] at e1
      rw [Zg (by rw [g.lr, <- g.lb]; exact hi)] at e2;exact g.row i r ms e1 e2
    . have hi' : bs.length <= i := ZD.mp hi
      rw [Zf hi'] at e1;rw [Zf (by rw [g.lr, <- g.lb]; exact hi')] at e2
      have e0 : i - bs.length = 0 := by
        have := (Zc.mp e1).1;simp at this; omega
      rw [e0] at e1;have e0' : i - rows.length = 0 := by rw [g.lr, <- g.lb]; exact e0
      rw [e0'] at e2;simp at e1 e2;subst e1 e2;exact ⟨hc, hl⟩
theorem zai {K : Fg} {H : Hp} {g : Addr} {as : List Addr} {rows : List (List Int)} (G : GridL K H g as rows) {t : Nat} {ns : List Int} (h : rows[t]? = some ns) :
    ∃ r, atI (as.map V.ref) (t : Int) = some (V.ref r) /\ SqL K H r (ns.map V.int) := by
  have ht : t < as.length := by rw [G.2.1]; exact (Zc.mp h).1
  have e : as[t]? = some as[t] := by simp [ht]
  exact ⟨as[t], ya (by rw [Ze, e]; rfl), G.2.2 t _ ns e h⟩
theorem x6 {ns : List Int} {t : Nat} {x : Int} (h : ns[t]? = some x) : atI (ns.map V.int) (t : Int) = some (V.int x) := ya (by rw [Ze, h]; rfl)
theorem GridL.mono {K : Fg} {H H' : Hp} {g : Addr} {as : List Addr} {rows : List (List Int)} (S : Same H H') (G : GridL K H g as rows) : GridL K H' g as rows := ⟨S.seq G.1, G.2.1, fun i r ns e1 e2 => S.seq (G.2.2 i r ns e1 e2)⟩
theorem tm {bs : List Addr} {i : Nat} {x : V} (hx : (bs.map V.ref)[i]? = some x) : ∃ r, bs[i]? = some r /\ x = V.ref r := by
  rw [Ze] at hx
  cases e : bs[i]? with
  | none => rw [e] at hx; cases hx
  | some r => rw [e] at hx; cases hx; exact ⟨r, rfl, rfl⟩
theorem gx {ms : List Int} {i : Nat} {x : V} (hx : (ms.map V.int)[i]? = some x) : ∃ r, ms[i]? = some r /\ x = V.int r := by
  rw [Ze] at hx
  cases e : ms[i]? with
  | none => rw [e] at hx; cases hx
  | some r => rw [e] at hx; cases hx; exact ⟨r, rfl, rfl⟩
def yb (ns : List Int) (k : Nat) : Int := ns.getD k 0
def letA (i : Int) : Nat := 97 + (i % 26).toNat
def o7 (K : Fg) : Sp := fun vs H Q _ => ∃ (a : Addr) (ns : List Int) (k : Nat), vs = [.ref a, .int k] /\ SqL K H a (ns.map V.int) /\ Q (.int (yb ns k)) H
theorem x0 (z : Str) (n : Nat) : (xp z n).length = z.length * n := by
  unfold xp Str.length;simp [List.length_flatten, Nat.mul_comm]
theorem ur (y z : Str) : (y ++ z).length = y.length + z.length := by
  show (y.cps ++ z.cps).size = _
  simp [Str.length]
theorem a9 {i : Int} (h0 : 0 <= i) (h1 : i < 26) : atI (Str.ofString "abcdefghijklmnopqrstuvwxyz").cps.toList i = some (97 + i.toNat) := by
  have h : ∀ j : Fin 26, (Str.ofString "abcdefghijklmnopqrstuvwxyz").cps.toList[j.val]? = some (97 + j.val) := by decide +kernel
  have := ya (xs := (Str.ofString "abcdefghijklmnopqrstuvwxyz").cps.toList) (j := i.toNat) (v := 97 + i.toNat) (h ⟨i.toNat, by omega⟩)
  rwa [Int.toNat_of_nonneg h0] at this
section
variable {P : Program} {w : World} {K : Fg} {mg : Str -> Option Value} {base : Heap}
end
section
variable {P : Program} {w : World} {K : Fg} {mg : Str -> Option Value} {base : Heap}
end
structure HX where
  t : Addr
  w : Addr
  g : Addr
  gs : List Addr
def HX.adr (x : HX) : List Addr := x.t :: x.w :: x.g :: x.gs
structure HD where
  name : Str
  words : List Str
  worths : List (List Int)
structure HandAt (H : Hp) (x : HX) (d : HD) : Prop where
  tup : H x.t = some (.tup [.str d.name, .ref x.w, .ref x.g])
  words : H x.w = some (.lst (d.words.map V.str))
  grid : H x.g = some (.lst (x.gs.map V.ref))
  len : x.gs.length = d.worths.length
  row : ∀ (i : Nat) (r : Addr) (ns : List Int), x.gs[i]? = some r -> d.worths[i]? = some ns -> H r = some (.lst (ns.map V.int))
theorem HandAt.mono {H H' : Hp} {x : HX} {d : HD} (S : Same H H') (h : HandAt H x d) : HandAt H' x d :=
  ⟨S _ _ h.tup, S _ _ h.words, S _ _ h.grid, h.len, fun i r ns e1 e2 => S _ _ (h.row i r ns e1 e2)⟩
def adrs (xs : List HX) : List Addr := (xs.map HX.adr).flatten
structure NewHands (H H' : Hp) (b : Addr) (xs : List HX) (ds : List HD) : Prop where
  same : Same H H'
  nb : H b = none
  at' : H' b = some (.lst (xs.map fun x => V.ref x.t))
  len : xs.length = ds.length
  hand : ∀ (i : Nat) (x : HX) (d : HD), xs[i]? = some x -> ds[i]? = some d -> HandAt H' x d
  new : ∀ y ∈ adrs xs, H y = none
  old : ∀ y ∈ adrs xs, H' y ≠ none
  nd : (adrs xs).Nodup
  ne : b ∉ adrs xs
theorem NewHands.nil {H H' : Hp} {b : Addr} (s : Same H H') (nb : H' b = none) : NewHands H (upd H' b (.lst [])) b [] [] :=
  ⟨Same.upd s (s.free nb), s.free nb, zf, rfl, (fun i x d e => by simp at e), (fun y z => nomatch z), (fun y z => nomatch z), YH, (fun z => nomatch z)⟩
theorem NewHands.more {H H' H2 : Hp} {b : Addr} {xs : List HX} {ds : List HD} (g : NewHands H H' b xs ds) (S : Same H' H2) : NewHands H H2 b xs ds :=
  ⟨g.same.trans S, g.nb, S _ _ g.at', g.len, fun i x d e1 e2 => (g.hand i x d e1 e2).mono S, g.new, fun y hy => by
    cases e : H' y with
    | none => exact absurd e (g.old y hy)
    | some o => rw [S _ _ e]; simp, g.nd, g.ne⟩
theorem NewHands.snoc {H H' : Hp} {b : Addr} {xs : List HX} {ds : List HD} {x : HX} {d : HD} (g : NewHands H H' b xs ds) (h : HandAt H' x d) (hn : ∀ y ∈ x.adr, H y = none) (hx : x.adr.Nodup) (ho : ∀ y ∈ x.adr, y ∉ adrs xs) (hb : b ∉ x.adr) :
    NewHands H (upd H' b (.lst (xs.map (fun x => V.ref x.t) ++ [.ref x.t]))) b (xs ++ [x]) (ds ++ [d]) := by
  have ap : adrs (xs ++ [x]) = adrs xs ++ x.adr := by simp [adrs]
  have keep : ∀ y o, y ≠ b -> H' y = some o -> upd H' b (.lst (xs.map (fun x => V.ref x.t) ++ [.ref x.t])) y = some o := fun y o e q => by rw [zx e]; exact q
  have hand' : ∀ {z : HX} {e : HD}, HandAt H' z e -> b ∉ z.adr -> HandAt (upd H' b (.lst (xs.map (fun x => V.ref x.t) ++ [.ref x.t]))) z e := fun {z e} q nb => by
    have n : ∀ y ∈ z.adr, y ≠ b := fun y hy e => nb (e ▸ hy)
    exact ⟨keep _ _ (n _ (by simp [HX.adr])) q.tup, keep _ _ (n _ (by simp [HX.adr])) q.words, keep _ _ (n _ (by simp [HX.adr])) q.grid, q.len, fun i r ns e1 e2 => keep _ _ (n _ (by simp [HX.adr, Zi e1])) (q.row i r ns e1 e2)⟩
  refine ⟨Same.upd g.same g.nb, g.nb, by rw [zf]; simp, by simp [g.len], fun i z e e1 e2 => ?_, fun y hy => ?_, fun y hy => ?_, ?_, ?_⟩
  . by_cases hi : i < xs.length
    . rw [Zg hi] at e1
      rw [Zg (by rw [<- g.len]; exact hi)] at e2;refine hand' (g.hand i z e e1 e2) fun q => g.ne ?_
      exact Yy.mpr ⟨_, Zp.mpr ⟨z, Zi e1, rfl⟩, q⟩
    . rw [Zf (ZD.mp hi)] at e1
      rw [Zf (by rw [<- g.len]; exact ZD.mp hi)] at e2
      have e0 : i - xs.length = 0 := by
        have := (Zc.mp e1).1;simp at this; omega
      rw [e0] at e1;rw [<- g.len, e0] at e2;simp at e1 e2;subst e1 e2;exact hand' h hb
  . rw [ap] at hy
    rcases ZH.mp hy with z | z
    . exact g.new y z
    . exact hn y z
  . rw [ap] at hy
    have hyb : y ≠ b := fun e => by
      rcases ZH.mp hy with z | z
      . exact g.ne (e ▸ z)
      . exact hb (e ▸ z)
    rw [zx hyb]
    rcases ZH.mp hy with z | z
    . exact g.old y z
    . rcases ZK.mp z with e | z
      . rw [e, h.tup]; simp
      rcases ZK.mp z with e | z
      . rw [e, h.words]; simp
      rcases ZK.mp z with e | z
      . rw [e, h.grid]; simp
      . obtain ⟨i, hi, rfl⟩ := Zy z
        have e1 : x.gs[i]? = some x.gs[i] := by simp [hi]
        have hi2 : i < d.worths.length := by rw [<- h.len]; exact hi
        have e2 : d.worths[i]? = some d.worths[i] := by simp [hi2]
        rw [h.row i _ _ e1 e2]; simp
  . rw [ap]
    refine Yj.mpr ⟨g.nd, hx, fun y hy z hz e => ?_⟩;exact ho z hz (e ▸ hy)
  . rw [ap]
    intro z
    rcases ZH.mp z with z | z
    . exact g.ne z
    . exact hb z
theorem y9 (a : Int) {n : Int} (h : 0 < n) : 0 <= a % n /\ a % n < n := ⟨YC _ (by omega), Yi _ h⟩
section
variable {P : Program} {w : World} {K : Fg} {mg : Str -> Option Value} {base : Heap}
end
def pi (z : Str) : Prop := 1 <= z.length /\ z.length <= 8 /\ ∀ c ∈ z.cps.toList, 97 <= c /\ c <= 122
theorem zha (i : Int) : 97 <= letA i /\ letA i <= 122 := by
  have := y9 i (show (0 : Int) < 26 by decide);unfold letA; omega
theorem l6 {z : Str} {n c : Nat} (h : c ∈ (xp z n).cps.toList) : c ∈ z.cps.toList := by
  unfold xp at h;simp only [List.toList_toArray, Yy] at h;obtain ⟨l, h1, h2⟩ := h;rw [(List.mem_replicate.mp h1).2] at h2;exact h2
theorem i3 {y z : Str} {c : Nat} (h : c ∈ (y ++ z).cps.toList) : c ∈ y.cps.toList \/ c ∈ z.cps.toList := by
  have : (y ++ z).cps.toList = y.cps.toList ++ z.cps.toList := by
    show (y.cps ++ z.cps).toList = _
    simp
  rw [this] at h;exact ZH.mp h
theorem zhh {x y : Str} {n : Nat} {a b : Nat} (f : Str) (h : xp f n ++ chr1 a ++ x = xp f n ++ chr1 b ++ y) : a = b := by
  have h1 : (xp f n ++ chr1 a ++ x).cps.toList = (xp f n ++ chr1 b ++ y).cps.toList := by rw [h]
  have e : ∀ (z : Str) (a : Nat), (xp f n ++ chr1 a ++ z).cps.toList = (xp f n).cps.toList ++ ([a] ++ z.cps.toList) := fun z a => by
    show (((xp f n).cps ++ (chr1 a).cps) ++ z.cps).toList = _
    simp [chr1]
  rw [e, e] at h1;have := List.append_cancel_left h1;simp at this;exact this.1
structure HandsL (H : Hp) (b : Addr) (xs : List HX) (ds : List HD) : Prop where
  at' : H b = some (.lst (xs.map fun x => V.ref x.t))
  len : xs.length = ds.length
  hand : ∀ (i : Nat) (x : HX) (d : HD), xs[i]? = some x -> ds[i]? = some d -> HandAt H x d
theorem NewHands.lists {H H' : Hp} {b : Addr} {xs : List HX} {ds : List HD} (g : NewHands H H' b xs ds) : HandsL H' b xs ds := ⟨g.at', g.len, g.hand⟩
theorem HandsL.mono {H H' : Hp} {b : Addr} {xs : List HX} {ds : List HD} (S : Same H H') (g : HandsL H b xs ds) : HandsL H' b xs ds := ⟨S _ _ g.at', g.len, fun i x d e1 e2 => (g.hand i x d e1 e2).mono S⟩
section
variable {P : Program} {w : World} {K : Fg} {mg : Str -> Option Value} {base : Heap}
end
mutual
def tups : Tr -> Bool
  | .lf _ => true
  | .ls _ => false
  | .tp ts => tupss ts
def tupss : List Tr -> Bool
  | [] => true
  | t :: ts => tups t && tupss ts
end
structure GoodHouse (outs : List Str) (ds : List HD) : Prop where
  outs1 : 1 <= outs.length /\ outs.length <= 8
  outsG : ∀ z ∈ outs, pi z
  outsD : outs.Nodup
  hands : 1 <= ds.length /\ ds.length <= 4
  handsG : ∀ d ∈ ds, pi d.name
  handsD : (ds.map HD.name).Nodup
  words1 : ∀ d ∈ ds, 1 <= d.words.length /\ d.words.length <= 8
  wordsG : ∀ d ∈ ds, ∀ z ∈ d.words, pi z
  wordsD : ∀ d ∈ ds, d.words.Nodup
  rows : ∀ d ∈ ds, d.worths.length = d.words.length
  cols : ∀ d ∈ ds, ∀ r ∈ d.worths, r.length = outs.length
  nums : ∀ d ∈ ds, ∀ r ∈ d.worths, ∀ n ∈ r, -(10 ^ 60) < n /\ n < 10 ^ 60
  few : (ds.map fun d => d.words.length).prod <= 256
theorem zhx {n t : Nat} : ∀ {l : List Nat}, (∀ x ∈ l, x <= t) -> l.length = n -> l.prod <= t ^ n := by
  induction n with
  | zero => intro l _ hl; rw [Ye.mp hl]; simp
  | succ n ih =>
    intro l h hl
    match l, hl with
    | x :: l, hl =>
      rw [List.prod_cons, Nat.pow_succ, Nat.mul_comm];exact YI (ih (fun y hy => h y (Zv _ hy)) (by simpa using hl)) (h x ZA)
def y4 (i : Int) : Prop := -(10 ^ 60) < i /\ i < 10 ^ 60
def zfl : Sp := fun vs H Q _ => ∃ i : Int, vs = [.int i] /\ Q (.bl true) H
def zey : Sp := fun vs H Q _ => ∃ i : Int, vs = [.int i] /\ y4 i /\ Q (.bl true) H
def qRow : Sp := fun vs H Q _ => ∃ (r : Addr) (ns : List Int) (n : Nat), vs = [.ref r, .int n] /\ H r = some (.lst (ns.map V.int)) /\ ns.length = n /\ n <= 8 /\ (∀ i ∈ ns, y4 i) /\ ∀ H', Same H H' -> Q (.bl true) H'
def zdr : Sp := fun vs H Q _ => ∃ z : Str, vs = [.str z] /\ pi z /\ ∀ H', Same H H' -> Q (.bl true) H'
def ac : Sp := fun vs H Q _ => ∃ (l : Addr) (zs : List Str) (m : Nat), vs = [.ref l, .int m] /\ H l = some (.lst (zs.map V.str)) /\ 1 <= zs.length /\ zs.length <= m /\ m <= 8 /\ (∀ z ∈ zs, pi z) /\ zs.Nodup /\ ∀ H', Same H H' -> Q (.bl true) H'
def zbv : Sp := fun vs H Q _ => ∃ (g : Addr) (gs : List Addr) (rows : List (List Int)) (h n : Nat), vs = [.ref g, .int h, .int n] /\ H g = some (.lst (gs.map V.ref)) /\ gs.length = h /\ rows.length = h /\ h <= 8 /\ n <= 8 /\ (∀ (i : Nat) (r : Addr) (ns : List Int), gs[i]? = some r -> rows[i]? = some ns -> H r = some (.lst (ns.map V.int))) /\
  (∀ r ∈ rows, r.length = n /\ ∀ i ∈ r, y4 i) /\ ∀ H', Same H H' -> Q (.bl true) H'
structure GoodD (d : HD) (n : Nat) : Prop where
  name : pi d.name
  words : 1 <= d.words.length /\ d.words.length <= 8
  wordsG : ∀ z ∈ d.words, pi z
  wordsD : d.words.Nodup
  rows : d.worths.length = d.words.length
  cols : ∀ r ∈ d.worths, r.length = n /\ ∀ i ∈ r, y4 i
theorem GoodHouse.hand {outs : List Str} {ds : List HD} (g : GoodHouse outs ds) {d : HD} (h : d ∈ ds) : GoodD d outs.length :=
  ⟨g.handsG d h, g.words1 d h, g.wordsG d h, g.wordsD d h, g.rows d h, fun r hr => ⟨g.cols d h r hr, fun i hi => g.nums d h r hr i hi⟩⟩
def qHand : Sp := fun vs H Q _ => ∃ (x : HX) (d : HD) (n : Nat), vs = [.ref x.t, .int n] /\ HandAt H x d /\ GoodD d n /\ n <= 8 /\ ∀ H', Same H H' -> Q (.bl true) H'
def nj (f : HX -> HD -> V) : Sp := fun vs H Q _ => ∃ (x : HX) (d : HD), vs = [.ref x.t] /\ HandAt H x d /\ Q (f x d) H
def zep : Sp := fun vs H Q _ => ∃ (b : Addr) (xs : List HX) (ds : List HD), vs = [.ref b] /\ HandsL H b xs ds /\ (∀ d ∈ ds, d.words.length <= 8) /\ ds.length <= 4 /\ Q (.int ((ds.map fun d => d.words.length).prod : Nat)) H
def zfk : Sp := fun vs H Q _ => ∃ (o b : Addr) (outs : List Str) (xs : List HX) (ds : List HD), vs = [.ref o, .ref b] /\ H o = some (.lst (outs.map V.str)) /\ HandsL H b xs ds /\ GoodHouse outs ds /\ ∀ H', Same H H' -> Q (.bl true) H'
def allT (n : Nat) : List Bool := List.replicate n true
def PvAT (H : Hp) (i : Nat) (ys : List V) (H' : Hp) : Prop := Same H H' /\ ys = (allT i).map V.bl
theorem tw (n : Nat) : (allT n).map V.bl ++ [V.bl true] = (allT (n + 1)).map V.bl := by
  rw [allT, allT, List.replicate_succ', Zn]; rfl
theorem ri (n : Nat) : (allT n).all id = true := by
  rw [ZQ];intro x hx;exact List.eq_of_mem_replicate hx
theorem rm (n : Nat) : ((allT n).map V.bl).length = n := by rw [Za, allT, ZI]
theorem zb1 {zs : List Str} (hd : zs.Nodup) : ∀ i, i <= zs.length -> seen (fun j => zs.getD j ⟨#[]⟩) i = zs.take i
  | 0, _ => rfl
  | i + 1, h => by
    have ih := zb1 hd i (by omega);have hi : i < zs.length := by omega
    have e : zs.getD i ⟨#[]⟩ = zs[i] := by simp [Zk, hi]
    show (if zs.getD i ⟨#[]⟩ ∈ seen (fun j => zs.getD j ⟨#[]⟩) i then _ else seen (fun j => zs.getD j ⟨#[]⟩) i ++ [zs.getD i ⟨#[]⟩]) = _
    rw [ih, e, if_neg, Zq]
    . simp [hi]
    . intro hm
      obtain ⟨j, hj, ej⟩ := Zy hm;rw [Zj] at hj;rw [List.getElem_take] at ej;have := (Yv hd).mp ej;omega
theorem zhd : kit0 "str" "str" = some true := by decide +kernel
theorem j9 : kit0 "list" "list" = some true := by decide +kernel
theorem zg3 : kit0 "tuple" "tuple" = some true := by decide +kernel
theorem zhg : kit0 "int" "int" = some true := by decide +kernel
theorem zhq : kit0 "int" "bool" = some false := by decide +kernel
theorem zhj {c : Nat} (h1 : 97 <= c) (h2 : c <= 122) : (!decide ((chr1 c).cps.toList < (Str.ofString "a").cps.toList)) = true /\ (!decide ((Str.ofString "z").cps.toList < (chr1 c).cps.toList)) = true := by
  have ea : (Str.ofString "a").cps.toList = [97] := by decide +kernel
  have ez : (Str.ofString "z").cps.toList = [122] := by decide +kernel
  have ec : (chr1 c).cps.toList = [c] := rfl;rw [ea, ez, ec]
  constructor
  . rw [decide_eq_false]
    . rfl
    . intro z
      rw [List.cons_lt_cons_iff] at z
      rcases z with z | ⟨_, z⟩
      . omega
      . exact absurd z (by simp)
  . rw [decide_eq_false]
    . rfl
    . intro z
      rw [List.cons_lt_cons_iff] at z
      rcases z with z | ⟨_, z⟩
      . omega
      . exact absurd z (by simp)
def PvNm (H : Hp) (ds : List HD) (i : Nat) (ys : List V) (H' : Hp) : Prop := H' = H /\ ys = ((ds.take i).map HD.name).map V.str
def PvCt (H : Hp) (b : Addr) (ds : List HD) (i : Nat) (σ : L2.St) (H4 : Hp) : Prop := H4 = H /\ ∃ v, σ = [some (.ref b), some (.int (((ds.take i).map fun d => d.words.length).prod : Nat)), v]
section
variable {P : Program} {w : World} {K : Fg} {mg : Str -> Option Value} {base : Heap} {a : Ad}
theorem l9 (B : Bt mg) (D : zc K mg "is_whole" p0 ["thing"]) : FnAt P w K mg base "is_whole" 1 ["thing"] zfl := by
  refine FnAt.of D za2 (fun vs H Q E h => ?_) (fun f cdv A outer s H vs Q E hr h => ?_)
  . obtain ⟨x, rfl, _⟩ := h
    rfl
  . obtain ⟨x, rfl, q⟩ := h
    refine ⟨_, (@zh _ _ _ (@zm _ _ _ _ (@oy _ _ _ _ _ _ _ (zq we rfl B.isinstance xr (za (pv 0) (za (nv rfl B.int bt_int) (@zb _)))) (@lj _ _ _ _ _ (@pe_not _ _ _ _ (zq we rfl B.isinstance xr (za (pv 0) (za (nv rfl B.bool zhb) (@zb _))))))))), ?_⟩;rw [show start ["thing"] [V.int x] = [some (V.int x)] from rfl];simp only [ze, zd, ↓reduceIte];exact ⟨_, .int _, true, zhg, iteT ⟨_, .int _, false, zhq, q⟩⟩
theorem ng (B : Bt mg) (l9 : FnAt P w K mg base "is_whole" 1 ["thing"] zfl) (D : zc K mg "is_bounded" re ["thing"]) : FnAt P w K mg base "is_bounded" 2 ["thing"] zey := by
  refine FnAt.of D bp (fun vs H Q E h => ?_) (fun f cdv A outer s H vs Q E hr h => ?_)
  . obtain ⟨x, rfl, _⟩ := h
    rfl
  . obtain ⟨x, rfl, g, q⟩ := h
    refine ⟨_, (@zh _ _ _ (@zm _ _ _ _ (@oy _ _ _ _ _ _ _ (zg l9 (hr.mono (by decide)) rfl (za (pv 0) (@zb _))) (@lj _ _ _ _ _ (@lc _ _ _ _ _ _ _ _ fj (zq gf rfl B.abs ax (za (pv 0) (@zb _))) (@zp _ _ _ _ _ _ _ _ lq (@zj _ _ _ _) (@zj _ _ _ _)) (yx _)))))), ?_⟩;rw [show start ["thing"] [V.int x] = [some (V.int x)] from rfl];simp only [ze, zd, ↓reduceIte];refine ⟨x, rfl, _, rfl, iteT ⟨⟨by decide, by decide, by decide⟩, ?_⟩⟩;rw [decide_eq_true]
    . exact q
    . have h1 := g.1
      have h2 := g.2
      show _ < (10 : Int) ^ 60
      split <;> omega
theorem x9 (B : Bt mg) (ng : FnAt P w K mg base "is_bounded" 2 ["thing"] zey) (D : zc K mg "is_grid_row" u0 ["thing", "width"]) : FnAt P w K mg base "is_grid_row" 3 ["thing", "width"] qRow := by
  refine FnAt.of D dv (fun vs H Q E h => ?_) (fun f cdv A outer s H vs Q E hr h => ?_)
  . obtain ⟨r, ns, n, rfl, _⟩ := h
    rfl
  . obtain ⟨r, ns, n, rfl, hr1, ln, n8, hg, q⟩ := h
    refine ⟨_, (@zk _ _ _ _ _ (@xl _ _ _ _ _ _ _ _ (PW.pt (@n0 _ _ _ _ _ _ _ (@wg _ _ _ _ (w4 (zq we rfl B.isinstance xr (za (pv 0) (za (nv rfl B.list rk) (@zb _)))))) (@qm _ _ _ _ (@y7 _ _ _ _ _ _ _ _ zcw (zq zr rfl B.len yk (za (pv 0) (@zb _))) (pv 1) (yx _))))) (@zh _ _ _ (@zm _ _ _ _ (@vy _ _ _ _))) (@yi _)) (@zh _ _ _ (@zm _ _ _ _ (zq (tu rfl) rfl B.all my (za (z7 ["worth"] ["thing", "width"] rfl (@z9 _ _ _ _ (pv 0)) (fun _ => (zl (i := 0) (show (["worth", "thing", "width"] : List Str).Nodup by decide +kernel) rfl (Or.inl rfl))) (fun _ => (@zt _)) (fun _ => (zg ng (hr.mono (by decide)) rfl (za (pv 0) (@zb _)))) rfl (by decide +kernel) rfl rfl) (@zb _)))))), ?_⟩;rw [show start ["thing", "width"] [V.ref r, V.int n] = [some (V.ref r), some (V.int n)] from rfl];simp only [ze, zd, ↓reduceIte];refine ⟨_, .lst hr1, true, j9, iteF ⟨_, .inl (.of hr1), rfl, ?_⟩⟩;rw [Za, ln];refine zds rfl ⟨⟨_, .of hr1⟩, fun d => ?_⟩;refine zz (xs := ns.map V.int) (PvAT H) ⟨Same.refl _, rfl⟩ ?_ ?_ ?_
    . rintro i ys H2 hi ⟨S, rfl⟩
      rw [Za] at hi;exact ⟨by rw [rm]; exact Zd hi (Zd (show ns.length <= 8 by omega) (by decide)), S.seq (.of hr1)⟩
    . rintro i x ys H2 hx ⟨S, rfl⟩
      obtain ⟨y, hy, rfl⟩ := yd hx;simp only [ze, zd, ↓reduceIte];exact ⟨y, rfl, hg y (Zi hy), S, tw i⟩
    . rintro ys H2 ⟨S, rfl⟩ l hl
      refine ⟨_, .of zf, ?_⟩;rw [ri];exact q _ (S.trans (Same.upd (Same.refl _) hl))
theorem qk (B : Bt mg) (D : zc K mg "is_name" ni ["thing"]) : FnAt P w K mg base "is_name" 1 ["thing"] zdr := by
  refine FnAt.of D zc9 (fun vs H Q E h => ?_) (fun f cdv A outer s H vs Q E hr h => ?_)
  . obtain ⟨x, rfl, _⟩ := h
    rfl
  . obtain ⟨z, rfl, g, q⟩ := h
    refine ⟨_, (@zk _ _ _ _ _ (@xl _ _ _ _ _ _ _ _ (PW.pt (@n0 _ _ _ _ _ _ _ (@wg _ _ _ _ (w4 (zq we rfl B.isinstance xr (za (pv 0) (za (nv rfl B.str bt_str) (@zb _)))))) (@qm _ _ _ _ (@wg _ _ _ _ (az ff ff (@zj _ _ _ _) (zq zak rfl B.len yk (za (pv 0) (@zb _))) (oi rfl B.k_MOST_LETTERS)))))) (@zh _ _ _ (@zm _ _ _ _ (@vy _ _ _ _))) (@yi _)) (@zh _ _ _ (@zm _ _ _ _ (zq (tu rfl) rfl B.all my (za (z7 ["sign"] ["thing"] rfl (@pi_str _ _ _ _ (pv 0)) (fun _ => (zl (i := 0) (show (["sign", "thing"] : List Str).Nodup by decide +kernel) rfl (Or.inl rfl))) (fun _ => (@zt _)) (fun _ => (zgk zd2 zd2 (@oq _ _ _ _) (pv 0) (@oq _ _ _ _))) rfl (by decide +kernel) rfl rfl) (@zb _)))))), ?_⟩;rw [show start ["thing"] [V.str z] = [some (V.str z)] from rfl];simp only [ze, zd, ↓reduceIte];obtain ⟨g1, g2, g3⟩ := g;refine ⟨_, .str _, true, zhd, iteF ?_⟩;refine ⟨Zd g2 (by decide), ite2 (fun _ => ite2 (fun h => ?_) fun _ => ?_) fun h => (h (decide_eq_true (by omega))).elim⟩
    . rw [decide_eq_true (show (z.length : Int) <= 8 by omega)] at h
      cases h
    . intro d
      refine zf3 (PvAT H) ⟨Same.refl _, rfl⟩ ?_ ?_ ?_
      . rintro i ys H' hi ⟨S, rfl⟩
        rw [rm];exact Zd hi (Zd (show z.cps.size <= 8 from g2) (by decide))
      . rintro i c ys H' hc ⟨S, rfl⟩
        have hm : c ∈ z.cps.toList := by
          obtain ⟨hi, e⟩ := Array.getElem?_eq_some_iff.mp hc;rw [<- e];exact Array.getElem_mem_toList hi
        obtain ⟨o1, o2⟩ := zhj (g3 c hm).1 (g3 c hm).2;simp only [ze, zd, ↓reduceIte];rw [if_pos o1, o2];exact ⟨S, tw i⟩
      . rintro ys H' ⟨S, rfl⟩ l hl
        refine ⟨_, .of zf, ?_⟩;rw [ri];exact q _ (S.trans (Same.upd (Same.refl _) hl))
theorem vo (B : Bt mg) (qk : FnAt P w K mg base "is_name" 1 ["thing"] zdr) (D : zc K mg "are_names" qf ["thing", "most"]) : FnAt P w K mg base "are_names" 2 ["thing", "most"] ac := by
  refine FnAt.of D av (fun vs H Q E h => ?_) (fun f cdv A outer s H vs Q E hr h => ?_)
  . obtain ⟨l, zs, m, rfl, _⟩ := h
    rfl
  . obtain ⟨l, zs, m, rfl, hl, g1, g2, g3, gG, gD, q⟩ := h
    refine ⟨_, (@zk _ _ _ _ _ (@xl _ _ _ _ _ _ _ _ (PW.pt (@n0 _ _ _ _ _ _ _ (@wg _ _ _ _ (w4 (zq we rfl B.isinstance xr (za (pv 0) (za (nv rfl B.list rk) (@zb _)))))) (@qm _ _ _ _ (@wg _ _ _ _ (az ff ff (@zj _ _ _ _) (zq zr rfl B.len yk (za (pv 0) (@zb _))) (pv 1)))))) (@zh _ _ _ (@zm _ _ _ _ (@vy _ _ _ _))) (@yi _)) (@zh _ _ _ (@zm _ _ _ _ (@oy _ _ _ _ _ _ _ (zq (tu rfl) rfl B.all my (za (z7 ["one"] ["thing", "most"] rfl (@z9 _ _ _ _ (pv 0)) (fun _ => (zl (i := 0) (show (["one", "thing", "most"] : List Str).Nodup by decide +kernel) rfl (Or.inl rfl))) (fun _ => (@zt _)) (fun _ => (zg qk (hr.mono (by decide)) rfl (za (pv 0) (@zb _)))) rfl (by decide +kernel) rfl rfl) (@zb _))) (@lj _ _ _ _ _ (@lc _ _ _ _ _ _ _ _ ib (zeb rfl rfl B.len rfl B.set (za (pv 0) (@zb _))) (zq zr rfl B.len yk (za (pv 0) (@zb _))) (yx _))))))), ?_⟩;rw [show start ["thing", "most"] [V.ref l, V.int m] = [some (V.ref l), some (V.int m)] from rfl];simp only [ze, zd, ↓reduceIte];refine ⟨_, .lst hl, true, j9, iteF ⟨_, .inl (.of hl), ?_⟩⟩;rw [Za];refine ite2 (fun _ => ite2 (fun h => ?_) fun _ => ?_) fun h => (h (decide_eq_true (by omega))).elim
    . rw [decide_eq_true (show (zs.length : Int) <= m by omega)] at h
      cases h
    . refine ⟨⟨_, .of hl⟩, fun d => ?_⟩
      refine zz (xs := zs.map V.str) (PvAT H) ⟨Same.refl _, rfl⟩ ?_ ?_ ?_
      . rintro i ys H2 hi ⟨S, rfl⟩
        rw [Za] at hi;exact ⟨by rw [rm]; exact Zd hi (Zd (show zs.length <= 8 by omega) (by decide)), S.seq (.of hl)⟩
      . rintro i x ys H2 hx ⟨S, rfl⟩
        obtain ⟨y, hy, rfl⟩ := yd hx;simp only [ze, zd, ↓reduceIte];exact ⟨y, rfl, gG y (Zi hy), fun H3 S3 => ⟨S.trans S3, tw i⟩⟩
      . rintro ys H2 ⟨S, rfl⟩ p hp
        have S2 : Same H (upd H2 p (.lst ((allT (zs.map V.str).length).map V.bl))) := S.trans (Same.upd (Same.refl _) hp);refine ⟨_, .of zf, ?_⟩;rw [ri];generalize upd H2 p (.lst ((allT (zs.map V.str).length).map V.bl)) = H3 at *;refine ⟨zs, S2.seq (.of hl), by omega, _, .inl (S2.seq (.of hl)), rfl, ?_⟩;rw [zb1 gD _ (Zm _), Zt, Za, decide_eq_true rfl];exact q _ S2
theorem o6 (B : Bt mg) (x9 : FnAt P w K mg base "is_grid_row" 3 ["thing", "width"] qRow) (D : zc K mg "are_worths" sx ["thing", "height", "width"]) : FnAt P w K mg base "are_worths" 4 ["thing", "height", "width"] zbv := by
  refine FnAt.of D bo (fun vs H Q E h => ?_) (fun f cdv A outer s H vs Q E hr h => ?_)
  . obtain ⟨g, gs, rows, ht, n, rfl, _⟩ := h
    rfl
  . obtain ⟨g, gs, rows, ht, n, rfl, hg, l1, l2, b1, b2, hrow, hG, q⟩ := h
    refine ⟨_, (@zk _ _ _ _ _ (@xl _ _ _ _ _ _ _ _ (PW.pt (@n0 _ _ _ _ _ _ _ (@wg _ _ _ _ (w4 (zq we rfl B.isinstance xr (za (pv 0) (za (nv rfl B.list rk) (@zb _)))))) (@qm _ _ _ _ (@y7 _ _ _ _ _ _ _ _ zcw (zq zr rfl B.len yk (za (pv 0) (@zb _))) (pv 1) (yx _))))) (@zh _ _ _ (@zm _ _ _ _ (@vy _ _ _ _))) (@yi _)) (@zh _ _ _ (@zm _ _ _ _ (zq (tu rfl) rfl B.all my (za (z7 ["row"] ["thing", "height", "width"] rfl (@z9 _ _ _ _ (pv 0)) (fun _ => (zl (i := 0) (show (["row", "thing", "height", "width"] : List Str).Nodup by decide +kernel) rfl (Or.inl rfl))) (fun _ => (@zt _)) (fun _ => (zg x9 (hr.mono (by decide)) rfl (za (pv 0) (za (pv 3) (@zb _))))) rfl (by decide +kernel) rfl rfl) (@zb _)))))), ?_⟩;rw [show start ["thing", "height", "width"] [V.ref g, V.int ht, V.int n] = [some (V.ref g), some (V.int ht), some (V.int n)] from rfl];simp only [ze, zd, ↓reduceIte];refine ⟨_, .lst hg, true, j9, iteF ⟨_, .inl (.of hg), rfl, ?_⟩⟩;rw [Za, l1];refine zds rfl ⟨⟨_, .of hg⟩, fun d => ?_⟩;refine zz (xs := gs.map V.ref) (PvAT H) ⟨Same.refl _, rfl⟩ ?_ ?_ ?_
    . rintro i ys H2 hi ⟨S, rfl⟩
      rw [Za] at hi;exact ⟨by rw [rm]; exact Zd hi (Zd (show gs.length <= 8 by omega) (by decide)), S.seq (.of hg)⟩
    . rintro i x ys H2 hx ⟨S, rfl⟩
      obtain ⟨r, hr', rfl⟩ := yd hx;have hi : i < rows.length := by have := (Zc.mp hr').1; omega
      have e2 : rows[i]? = some rows[i] := by simp [hi]
      have hm := hG rows[i] (Zl hi);simp only [ze, zd, ↓reduceIte];exact ⟨r, rows[i], n, rfl, S _ _ (hrow i r rows[i] hr' e2), hm.1, b2, hm.2, fun H3 S3 => ⟨S.trans S3, tw i⟩⟩
    . rintro ys H2 ⟨S, rfl⟩ l hl
      refine ⟨_, .of zf, ?_⟩;rw [ri];exact q _ (S.trans (Same.upd (Same.refl _) hl))
theorem jt (B : Bt mg) (qk : FnAt P w K mg base "is_name" 1 ["thing"] zdr) (vo : FnAt P w K mg base "are_names" 2 ["thing", "most"] ac) (o6 : FnAt P w K mg base "are_worths" 4 ["thing", "height", "width"] zbv) (D : zc K mg "is_hand" mh ["thing", "width"]) : FnAt P w K mg base "is_hand" 5 ["thing", "width"] qHand := by
  refine FnAt.of D zdh (fun vs H Q E h => ?_) (fun f cdv A outer s H vs Q E hr h => ?_)
  . obtain ⟨x, d, n, rfl, _⟩ := h
    rfl
  . obtain ⟨x, d, n, rfl, hx, g, n8, q⟩ := h
    refine ⟨_, (@zk _ _ _ _ _ (@xl _ _ _ _ _ _ _ _ (PW.pt (@n0 _ _ _ _ _ _ _ (@wg _ _ _ _ (w4 (zq we rfl B.isinstance xr (za (pv 0) (za (nv rfl B.tuple rg) (@zb _)))))) (@qm _ _ _ _ (@y7 _ _ _ _ _ _ _ _ zcw (zq zr rfl B.len yk (za (pv 0) (@zb _))) (@zj _ _ _ _) (yx _))))) (@zh _ _ _ (@zm _ _ _ _ (@vy _ _ _ _))) (@yi _)) (@zh _ _ _ (@zm _ _ _ _ (@oy _ _ _ _ _ _ _ (zg qk (hr.mono (by decide)) rfl (za (@zw _ _ _ _ _ _ _ yq (pv 0) (@zj _ _ _ _) (fun _ _ => rfl)) (@zb _))) (@oy _ _ _ _ _ _ _ (zg vo (hr.mono (by decide)) rfl (za (@zw _ _ _ _ _ _ _ yq (pv 0) (@zj _ _ _ _) (fun _ _ => rfl)) (za (oi rfl B.k_MOST_WORDS) (@zb _)))) (@lj _ _ _ _ _ (zg o6 (hr.mono (by decide)) rfl (za (@zw _ _ _ _ _ _ _ yq (pv 0) (@zj _ _ _ _) (fun _ _ => rfl)) (za (zq zr rfl B.len yk (za (@zw _ _ _ _ _ _ _ yq (pv 0) (@zj _ _ _ _) (fun _ _ => rfl)) (@zb _))) (za (pv 1) (@zb _))))))))))), ?_⟩;rw [show start ["thing", "width"] [V.ref x.t, V.int n] = [some (V.ref x.t), some (V.int n)] from rfl];simp only [ze, zd, ↓reduceIte];refine ⟨_, .tup hx.tup, true, zg3, iteF ⟨_, .inr (.of hx.tup), rfl, zds rfl ?_⟩⟩;refine ⟨_, .of hx.tup, _, ya (j := 0) rfl, d.name, rfl, g.name, fun H1 S1 => ?_⟩;have hx1 := hx.mono S1;refine ⟨_, rfl, iteT ⟨_, .of hx1.tup, _, ya (j := 1) rfl, x.w, d.words, 8, rfl, hx1.words, g.words.1, g.words.2, Zm _, g.wordsG, g.wordsD, fun H2 S2 => ?_⟩⟩;have hx2 := hx1.mono S2;refine ⟨_, rfl, iteT ⟨_, .of hx2.tup, _, ya (j := 2) rfl, _, .of hx2.tup, _, ya (j := 1) rfl, x.w, rfl, _, .inl (.of hx2.words), ?_⟩⟩;rw [Za];have hw := g.words.2;have hr2 := g.rows;exact ⟨x.g, x.gs, d.worths, d.words.length, n, rfl, hx2.grid, by rw [hx2.len]; exact hr2, hr2, hw, n8, hx2.row, g.cols, fun H3 S3 => q H3 (S1.trans (S2.trans S3))⟩
theorem ql (D : zc K mg "name_of" nt ["hand"]) : FnAt P w K mg base "name_of" 1 ["hand"] (nj fun _ d => .str d.name) := by
  refine FnAt.of D zdp (fun vs H Q E h => ?_) (fun f cdv A outer s H vs Q E hr h => ?_)
  . obtain ⟨x, d, rfl, _⟩ := h
    rfl
  . obtain ⟨x, d, rfl, hx, q⟩ := h
    refine ⟨_, (@zh _ _ _ (@zm _ _ _ _ (@zw _ _ _ _ _ _ _ yq (pv 0) (@zj _ _ _ _) (fun _ _ => rfl)))), ?_⟩;rw [show start ["hand"] [V.ref x.t] = [some (V.ref x.t)] from rfl];simp only [ze, zd, ↓reduceIte];exact ⟨_, .of hx.tup, _, ya (j := 0) rfl, q⟩
theorem yl (D : zc K mg "words_of_hand" w5 ["hand"]) : FnAt P w K mg base "words_of_hand" 1 ["hand"] (nj fun x _ => .ref x.w) := by
  refine FnAt.of D o0 (fun vs H Q E h => ?_) (fun f cdv A outer s H vs Q E hr h => ?_)
  . obtain ⟨x, d, rfl, _⟩ := h
    rfl
  . obtain ⟨x, d, rfl, hx, q⟩ := h
    refine ⟨_, (@zh _ _ _ (@zm _ _ _ _ (@zw _ _ _ _ _ _ _ yq (pv 0) (@zj _ _ _ _) (fun _ _ => rfl)))), ?_⟩;rw [show start ["hand"] [V.ref x.t] = [some (V.ref x.t)] from rfl];simp only [ze, zd, ↓reduceIte];exact ⟨_, .of hx.tup, _, ya (j := 1) rfl, q⟩
theorem xn (D : zc K mg "worths_of_hand" wf ["hand"]) : FnAt P w K mg base "worths_of_hand" 1 ["hand"] (nj fun x _ => .ref x.g) := by
  refine FnAt.of D q8 (fun vs H Q E h => ?_) (fun f cdv A outer s H vs Q E hr h => ?_)
  . obtain ⟨x, d, rfl, _⟩ := h
    rfl
  . obtain ⟨x, d, rfl, hx, q⟩ := h
    refine ⟨_, (@zh _ _ _ (@zm _ _ _ _ (@zw _ _ _ _ _ _ _ yq (pv 0) (@zj _ _ _ _) (fun _ _ => rfl)))), ?_⟩;rw [show start ["hand"] [V.ref x.t] = [some (V.ref x.t)] from rfl];simp only [ze, zd, ↓reduceIte];exact ⟨_, .of hx.tup, _, ya (j := 2) rfl, q⟩
theorem so (B : Bt mg) (yl : FnAt P w K mg base "words_of_hand" 1 ["hand"] (nj fun x _ => .ref x.w)) (D : zc K mg "count_of_rows" vv ["hands"]) : FnAt P w K mg base "count_of_rows" 2 ["hands"] zep := by
  refine FnAt.of D sc_count_of_rows (fun vs H Q E h => ?_) (fun f cdv A outer s H vs Q E hr h => ?_)
  . obtain ⟨b, xs, ds, rfl, _⟩ := h
    rfl
  . obtain ⟨b, xs, ds, rfl, hh, h8, h4, q⟩ := h
    refine ⟨_, (@zk _ _ _ _ _ (z8 (i := 1) sc_count_of_rows.nd rfl (Or.inl rfl) (@zj _ _ _ _)) (@zk _ _ _ _ _ (xk PassesOwn.never rfl (@z9 _ _ _ _ (pv 0)) (zl (i := 2) sc_count_of_rows.nd rfl (Or.inl rfl)) (@zh _ _ _ (z8 (i := 1) sc_count_of_rows.nd rfl (Or.inl rfl) (@zp _ _ _ _ _ _ _ _ jg (pv 1) (zq zr rfl B.len yk (za (zg yl (hr.mono (by decide)) rfl (za (pv 2) (@zb _))) (@zb _))))))) (@zh _ _ _ (@zm _ _ _ _ (pv 1))))), ?_⟩;rw [show start ["hands", "count", "hand"] [V.ref b] = [some (V.ref b), none, none] from rfl];simp only [ze, zd, ↓reduceIte];refine ⟨⟨_, .of hh.at'⟩, ?_⟩;refine tf (xs := xs.map fun x => V.ref x.t) (PvCt H b ds) ⟨rfl, _, rfl⟩ ?_ ?_ ?_
    . rintro i σ H4 hi ⟨rfl, v, rfl⟩
      exact .of hh.at'
    . rintro i x σ H4 hx ⟨rfl, v, rfl⟩
      obtain ⟨y, hy, rfl⟩ := yd hx;have hi : i < ds.length := by have := (Zc.mp hy).1; have := hh.len; omega
      have e2 : ds[i]? = some ds[i] := by simp [hi]
      have hd := hh.hand i y ds[i] hy e2;have hw := h8 ds[i] (Zl hi);simp only [ze, zd, ↓reduceIte];refine ⟨y, ds[i], rfl, hd, ?_⟩;simp only [ze, zd, ↓reduceIte];refine ⟨_, .inl (.of hd.words), ?_⟩;rw [Za];refine ⟨.inr ⟨by omega, by omega⟩, rfl, some (V.ref y.t), ?_⟩;rw [Zq, e2, Zn, List.prod_append];simp only [Option.toList, ZO, YB, List.prod_cons, List.prod_nil, Nat.mul_one, Int.natCast_mul]
    . rintro σ H4 ⟨rfl, v, rfl⟩
      simp only [ze, zd, ↓reduceIte];rw [Za, hh.len, Zt];exact q
def al : Sp := fun vs H Q _ => ∃ (b : Addr) (xs : List HX) (ds : List HD), vs = [.ref b] /\ HandsL H b xs ds /\ ds.length <= 4 /\ ∀ l, H l = none -> Q (.ref l) (upd H l (.lst ((ds.map HD.name).map V.str)))
theorem k9 (ql : FnAt P w K mg base "name_of" 1 ["hand"] (nj fun _ d => .str d.name)) (D : zc K mg "names_of" q9 ["hands"]) : FnAt P w K mg base "names_of" 2 ["hands"] al := by
  refine FnAt.of D zba (fun vs H Q E h => ?_) (fun f cdv A outer s H vs Q E hr h => ?_)
  . obtain ⟨b, xs, ds, rfl, _⟩ := h
    rfl
  . obtain ⟨b, xs, ds, rfl, hh3, g4, q⟩ := h
    refine ⟨_, (@zh _ _ _ (@zm _ _ _ _ (z7 ["hand"] ["hands"] rfl (@z9 _ _ _ _ (pv 0)) (fun _ => (zl (i := 0) (show (["hand", "hands"] : List Str).Nodup by decide +kernel) rfl (Or.inl rfl))) (fun _ => (@zt _)) (fun _ => (zg ql (hr.mono (by decide)) rfl (za (pv 0) (@zb _)))) rfl (by decide +kernel) rfl rfl))), ?_⟩;rw [show start ["hands"] [V.ref b] = [some (V.ref b)] from rfl];simp only [ze, zd, ↓reduceIte];refine ⟨⟨_, .of hh3.at'⟩, fun d2 => ?_⟩;refine zz (xs := xs.map fun x => V.ref x.t) (PvNm H ds) ⟨rfl, rfl⟩ ?_ ?_ ?_
    . rintro i ys H4 hi ⟨rfl, rfl⟩
      refine ⟨?_, .of hh3.at'⟩;rw [Za, Za, Zj];exact Zd (ZB _ _) (Zd g4 (by decide))
    . rintro i x ys H4 hx ⟨rfl, rfl⟩
      obtain ⟨y, hy, rfl⟩ := yd hx;have hi : i < ds.length := by have := (Zc.mp hy).1; have := hh3.len; omega
      have e2 : ds[i]? = some ds[i] := by simp [hi]
      simp only [ze, zd, ↓reduceIte];refine ⟨y, ds[i], rfl, hh3.hand i y ds[i] hy e2, rfl, ?_⟩;rw [Zq, e2, Zn, Zn];rfl
    . rintro ys H4 ⟨rfl, rfl⟩ l hl
      rw [Za, hh3.len, Zt];exact q l hl
theorem qx (B : Bt mg) (vo : FnAt P w K mg base "are_names" 2 ["thing", "most"] ac) (jt : FnAt P w K mg base "is_hand" 5 ["thing", "width"] qHand) (k9 : FnAt P w K mg base "names_of" 2 ["hands"] al) (so : FnAt P w K mg base "count_of_rows" 2 ["hands"] zep)
    (D : zc K mg "makes_house" u9 ["outcomes", "hands"]) : FnAt P w K mg base "makes_house" 6 ["outcomes", "hands"] zfk := by
  refine FnAt.of D d4 (fun vs H Q E h => ?_) (fun f cdv A outer s H vs Q E hr h => ?_)
  . obtain ⟨o, b, outs, xs, ds, rfl, _⟩ := h
    rfl
  . obtain ⟨o, b, outs, xs, ds, rfl, ho, hh, g, q⟩ := h
    refine ⟨_, (@zk _ _ _ _ _ (@xl _ _ _ _ _ _ _ _ (PW.pt (@n0 _ _ _ _ _ _ _ (@wg _ _ _ _ (w4 (zg vo (hr.mono (by decide)) rfl (za (pv 0) (za (oi rfl B.k_MOST_OUTCOMES) (@zb _)))))) (@qm _ _ _ _ (@wg _ _ _ _ (w4 (zq we rfl B.isinstance xr (za (pv 1) (za (nv rfl B.list rk) (@zb _))))))))) (@zh _ _ _ (@zm _ _ _ _ (@vy _ _ _ _))) (@yi _)) (@zk _ _ _ _ _ (@xl _ _ _ _ _ _ _ _ (@wg _ _ _ _ (w4 (zq (tu rfl) rfl B.all my (za (z7 ["hand"] ["outcomes", "hands"] rfl (@z9 _ _ _ _ (pv 1)) (fun _ => (zl (i := 0) (show (["hand", "outcomes", "hands"] : List Str).Nodup by decide +kernel) rfl (Or.inl rfl))) (fun _ => (@zt _)) (fun _ => (zg jt (hr.mono (by decide)) rfl (za (pv 0) (za (zq zr rfl B.len yk (za (pv 1) (@zb _))) (@zb _))))) rfl (by decide +kernel) rfl rfl) (@zb _))))) (@zh _ _ _ (@zm _ _ _ _ (@vy _ _ _ _))) (@yi _)) (@zh _ _ _ (@zm _ _ _ _ (@oy _ _ _ _ _ _ _ (zg vo (hr.mono (by decide)) rfl (za (zg k9 (hr.mono (by decide)) rfl (za (pv 1) (@zb _))) (za (oi rfl B.k_MOST_HANDS) (@zb _)))) (@lj _ _ _ _ _ (@lc _ _ _ _ _ _ _ _ ff (zg so (hr.mono (by decide)) rfl (za (pv 1) (@zb _))) (oi rfl B.k_MOST_ROWS) (yx _)))))))), ?_⟩;rw [show start ["outcomes", "hands"] [V.ref o, V.ref b] = [some (V.ref o), some (V.ref b)] from rfl];simp only [ze, zd, ↓reduceIte];have g1 := g.outs1;have g2 := g.hands;refine ⟨o, outs, 8, rfl, ho, g1.1, g1.2, Zm _, g.outsG, g.outsD, fun H1 S1 => ?_⟩;simp only [ze, zd, ↓reduceIte];have hh1 := hh.mono S1;have ho1 := S1 _ _ ho;refine iteF ⟨_, .lst hh1.at', true, j9, iteF ⟨⟨_, .of hh1.at'⟩, fun d => ?_⟩⟩;refine zz (xs := xs.map fun x => V.ref x.t) (PvAT H1) ⟨Same.refl _, rfl⟩ ?_ ?_ ?_
    . rintro i ys H2 hi ⟨S, rfl⟩
      rw [Za, hh.len] at hi;exact ⟨by rw [rm]; exact Zd hi (Zd g2.2 (by decide)), S.seq (.of hh1.at')⟩
    . rintro i x ys H2 hx ⟨S, rfl⟩
      obtain ⟨y, hy, rfl⟩ := yd hx;have hi : i < ds.length := by have := (Zc.mp hy).1; have := hh.len; omega
      have e2 : ds[i]? = some ds[i] := by simp [hi]
      simp only [ze, zd, ↓reduceIte];refine ⟨_, .inl (S.seq (.of ho1)), ?_⟩;rw [Za];exact ⟨y, ds[i], outs.length, rfl, (hh1.hand i y ds[i] hy e2).mono S, g.hand (Zl hi), g1.2, fun H3 S3 => ⟨S.trans S3, tw i⟩⟩
    . rintro ys H2 ⟨S, rfl⟩ p hp
      have S2 : Same H1 (upd H2 p (.lst ((allT (xs.map fun x => V.ref x.t).length).map V.bl))) := S.trans (Same.upd (Same.refl _) hp);refine ⟨_, .of zf, ?_⟩;rw [ri];generalize upd H2 p (.lst ((allT (xs.map fun x => V.ref x.t).length).map V.bl)) = H3 at *;have hh3 := hh1.mono S2;refine iteF ⟨b, xs, ds, rfl, hh3, g2.2, fun l hl => ?_⟩;have S5 : Same H3 (upd H3 l (.lst ((ds.map HD.name).map V.str))) := Same.upd (Same.refl _) hl;refine ⟨l, ds.map HD.name, 4, rfl, zf, by rw [Za]; exact g2.1, by rw [Za]; exact g2.2, by decide, fun z hz => ?_, g.handsD, fun H6 S6 => ?_⟩
      . obtain ⟨d, hd, rfl⟩ := Zp.mp hz
        exact g.handsG d hd
      . generalize upd H3 l (.lst ((ds.map HD.name).map V.str)) = H5 at *
        have S36 := S5.trans S6;have few := g.few;refine ⟨_, rfl, iteT ⟨b, xs, ds, rfl, hh3.mono S36, fun d hd => (g.words1 d hd).2, g2.2, _, rfl, ?_⟩⟩;rw [decide_eq_true (by omega)];exact q _ (S1.trans (S2.trans S36))
end
section
variable {α : Type}
def xx (r : List α) (ws : List α) : List (List α) := ws.map fun w => r ++ [w]
def xu (rs : List (List α)) (ws : List α) : List (List α) := (rs.map fun r => xx r ws).flatten
def ym (wss : List (List α)) : List (List α) := wss.foldl xu [[]]
theorem zc5 (wss : List (List α)) (ws : List α) : ym (wss ++ [ws]) = xu (ym wss) ws := by simp [ym]
theorem fg (r : List α) (rs : List (List α)) (ws : List α) : xu (r :: rs) ws = xx r ws ++ xu rs ws := by simp [xu]
theorem fm (rs : List (List α)) (r : List α) (ws : List α) : xu (rs ++ [r]) ws = xu rs ws ++ xx r ws := by simp [xu]
theorem qe (r : List α) (ws : List α) : (xx r ws).length = ws.length := by simp [xx]
theorem nq (ws : List α) : ∀ rs : List (List α), (xu rs ws).length = rs.length * ws.length
  | [] => by simp [xu]
  | r :: rs => by rw [fg, Zo, qe, nq ws rs, ZL, Nat.succ_mul, Nat.add_comm]
theorem um {wss : List (List α)} {j : Nat} {ws : List α} (h : wss[j]? = some ws) : ym (wss.take (j + 1)) = xu (ym (wss.take j)) ws := by
  rw [Zq, h];exact zc5 _ _
theorem jq {rs : List (List α)} {ws : List α} {row : List α} (h : row ∈ xu rs ws) : ∃ r w, r ∈ rs /\ w ∈ ws /\ row = r ++ [w] := by
  simp only [xu, xx, Yy, Zp] at h;obtain ⟨l, ⟨r, hr, rfl⟩, h⟩ := h;obtain ⟨w, hw, rfl⟩ := Zp.mp h;exact ⟨r, w, hr, hw, rfl⟩
theorem iq (wss : List (List α)) : ∀ n, n <= wss.length -> ∀ row ∈ ym (wss.take n), row.length = n := by
  intro n
  induction n with
  | zero => intro _ row h; simp [ym] at h; simp [h]
  | succ n ih =>
    intro h row hr;have e : wss[n]? = some wss[n] := Zb (by omega);rw [um e] at hr;obtain ⟨r, w, h1, _, rfl⟩ := jq hr;simp [ih (by omega) r h1]
end
structure TupsAt (H : Hp) (as : List Addr) (rs : List (List Str)) : Prop where
  len : as.length = rs.length
  at' : ∀ (i : Nat) (a : Addr) (r : List Str), as[i]? = some a -> rs[i]? = some r -> H a = some (.tup (r.map V.str))
theorem TupsAt.nil {H : Hp} : TupsAt H [] [] := ⟨rfl, fun i a r e => by simp at e⟩
theorem TupsAt.mono {H H' : Hp} {as : List Addr} {rs : List (List Str)} (S : Same H H') (h : TupsAt H as rs) : TupsAt H' as rs := ⟨h.len, fun i a r e1 e2 => S _ _ (h.at' i a r e1 e2)⟩
theorem TupsAt.append {H : Hp} {as bs : List Addr} {rs qs : List (List Str)} (h1 : TupsAt H as rs) (h2 : TupsAt H bs qs) : TupsAt H (as ++ bs) (rs ++ qs) := by
  refine ⟨by simp [h1.len, h2.len], fun i a r e1 e2 => ?_⟩
  by_cases hi : i < as.length
  . rw [Zg hi] at e1
    rw [Zg (by rw [<- h1.len]; exact hi)] at e2;exact h1.at' i a r e1 e2
  . rw [Zf (ZD.mp hi)] at e1
    rw [Zf (by rw [<- h1.len]; exact ZD.mp hi)] at e2;rw [h1.len] at e1;exact h2.at' _ a r e1 e2
theorem TupsAt.one {H : Hp} {a : Addr} {r : List Str} (h : H a = some (.tup (r.map V.str))) : TupsAt H [a] [r] := ⟨rfl, fun i b q e1 e2 => by
  cases i with
  | zero =>
    simp at e1 e2;subst e1 e2;exact h
  | succ i => simp at e1⟩
theorem TupsAt.past {H : Hp} {p : Addr} {xs ys : List V} {as : List Addr} {rs : List (List Str)} (hp : H p = some (.lst xs)) (h : TupsAt H as rs) : TupsAt (upd H p (.lst ys)) as rs :=
  ⟨h.len, fun i a r e1 e2 => by
    have := h.at' i a r e1 e2;rw [zx (fun e => by rw [e, hp] at this; cases this)]
    exact this⟩
structure RwsAt (H : Hp) (l : Addr) (as : List Addr) (rs : List (List Str)) : Prop where
  lst : H l = some (.lst (as.map V.ref))
  tups : TupsAt H as rs
theorem RwsAt.mono {H H' : Hp} {l : Addr} {as : List Addr} {rs : List (List Str)} (S : Same H H') (h : RwsAt H l as rs) : RwsAt H' l as rs := ⟨S _ _ h.lst, h.tups.mono S⟩
structure KHand (K : Fg) (H : Hp) (t : Addr) (d : HD) (w g : Addr) (gs : List Addr) : Prop where
  tup : SqT K H t [.str d.name, .ref w, .ref g]
  words : SqT K H w (d.words.map V.str)
  grid : SqT K H g (gs.map V.ref)
  len : gs.length = d.worths.length
  row : ∀ (i : Nat) (r : Addr) (ns : List Int), gs[i]? = some r -> d.worths[i]? = some ns -> SqT K H r (ns.map V.int)
def KHands (K : Fg) (H : Hp) (hs : List Addr) (ds : List HD) : Prop := hs.length = ds.length /\ ∀ (i : Nat) (t : Addr) (d : HD), hs[i]? = some t -> ds[i]? = some d -> ∃ w g gs, KHand K H t d w g gs
structure zfi (K : Fg) (H : Hp) (p o h : Addr) (hs : List Addr) (outs : List Str) (ds : List HD) : Prop where
  tup : SqT K H p [.ref o, .ref h]
  outs : SqT K H o (outs.map V.str)
  hands : SqT K H h (hs.map V.ref)
  hand : KHands K H hs ds
theorem KHand.mono {K : Fg} {H H' : Hp} {t : Addr} {d : HD} {w g : Addr} {gs : List Addr} (S : Same H H') (h : KHand K H t d w g gs) : KHand K H' t d w g gs :=
  ⟨S.seqT h.tup, S.seqT h.words, S.seqT h.grid, h.len, fun i r ns e1 e2 => S.seqT (h.row i r ns e1 e2)⟩
theorem KHands.mono {K : Fg} {H H' : Hp} {hs : List Addr} {ds : List HD} (S : Same H H') (h : KHands K H hs ds) : KHands K H' hs ds :=
  ⟨h.1, fun i t d e1 e2 => by
    obtain ⟨w, g, gs, q⟩ := h.2 i t d e1 e2
    exact ⟨w, g, gs, q.mono S⟩⟩
def wz (K : Fg) (j : Nat) : Sp := fun vs H Q _ => ∃ (t : Addr) (us : List V) (v : V), vs = [.ref t] /\ SqT K H t us /\ us[j]? = some v /\ Q v H
def zei (K : Fg) : Sp := fun vs H Q _ => ∃ (l wd : Addr) (as : List Addr) (rs : List (List Str)) (ws : List Str), vs = [.ref l, .ref wd] /\ RwsAt H l as rs /\ SqT K H wd (ws.map V.str) /\ rs.length <= 4096 /\ ws.length <= 8 /\ (∀ r ∈ rs, r.length <= 8) /\
  ∀ H' l' as', Same H H' -> H l' = none -> RwsAt H' l' as' (xu rs ws) -> Q (.ref l') H'
def PvEach (l wd p : Addr) (rs : List (List Str)) (ws : List Str) (H : Hp) (i : Nat) (σ : L2.St) (H' : Hp) : Prop := ∃ (as' : List Addr) (v : Option V), H' p = some (.lst (as'.map V.ref)) /\ TupsAt H' as' (xu (rs.take i) ws) /\ Same H H' /\ σ = [some (.ref l), some (.ref wd), some (.ref p), v]
def PvLong (r ws : List Str) (H : Hp) (i : Nat) (ys : List V) (H' : Hp) : Prop := ∃ as' : List Addr, ys = as'.map V.ref /\ TupsAt H' as' (xx r (ws.take i)) /\ Same H H'
def zfg (K : Fg) : Sp := fun vs H Q _ => ∃ (h : Addr) (hs : List Addr) (ds : List HD), vs = [.ref h] /\ SqT K H h (hs.map V.ref) /\ KHands K H hs ds /\ ds.length <= 4 /\ (∀ d ∈ ds, d.words.length <= 8) /\
  ∀ H' l as, Same H H' -> H l = none -> RwsAt H' l as (ym (ds.map HD.words)) -> Q (.ref l) H'
def PvOver (h : Addr) (ds : List HD) (H : Hp) (i : Nat) (σ : L2.St) (H' : Hp) : Prop := ∃ (l : Addr) (as : List Addr) (v : Option V), H l = none /\ RwsAt H' l as (ym ((ds.map HD.words).take i)) /\ Same H H' /\ σ = [some (.ref h), some (.ref l), v]
def b9 (K : Fg) : Sp := fun vs H Q _ => ∃ (p o h : Addr) (hs : List Addr) (outs : List Str) (ds : List HD), vs = [.ref p] /\ zfi K H p o h hs outs ds /\ ds.length <= 4 /\ (∀ d ∈ ds, d.words.length <= 8) /\
  ∀ H' l as, Same H H' -> H l = none -> RwsAt H' l as (ym (ds.map HD.words)) -> Q (.ref l) H'
theorem gb {wss : List (List Str)} (h4 : wss.length <= 4) (h8 : ∀ ws ∈ wss, ws.length <= 8) (n : Nat) (hn : n <= wss.length) : (ym (wss.take n)).length <= 4096 := by
  have : ∀ m, m <= wss.length -> (ym (wss.take m)).length <= 8 ^ m := by
    intro m
    induction m with
    | zero => intro _; exact Zm _
    | succ m ih =>
      intro h;have e : wss[m]? = some wss[m] := Zb (by omega);rw [um e, nq, Nat.pow_succ];exact YI (ih (by omega)) (h8 _ (Zl (by omega)))
  exact Zd (this n hn) (Nat.pow_le_pow_right (by decide) (show n <= 4 by omega))
section
variable {P : Program} {w : World} {K : Fg} {mg : Str -> Option Value} {base : Heap}
theorem zdb (D : zc K mg "hands_of" p8 ["house"]) : FnAt P w K mg base "hands_of" 1 ["house"] (wz K 1) := by
  refine FnAt.of D za7 (fun vs H Q E h => ?_) (fun f cdv A outer s H vs Q E hr h => ?_)
  . obtain ⟨t, us, v, rfl, _⟩ := h
    rfl
  . obtain ⟨t, us, v, rfl, ht, e, q⟩ := h
    refine ⟨_, (@zh _ _ _ (@zm _ _ _ _ (@zw _ _ _ _ _ _ _ yq (pv 0) (@zj _ _ _ _) (fun _ _ => rfl)))), ?_⟩;rw [show start ["house"] [V.ref t] = [some (V.ref t)] from rfl];simp only [ze, zd, ↓reduceIte];exact ⟨_, ht, _, ya (j := 1) e, q⟩
theorem f8 (D : zc K mg "words_of_hand" w5 ["hand"]) : FnAt P w K mg base "words_of_hand" 1 ["hand"] (wz K 1) := by
  refine FnAt.of D o0 (fun vs H Q E h => ?_) (fun f cdv A outer s H vs Q E hr h => ?_)
  . obtain ⟨t, us, v, rfl, _⟩ := h
    rfl
  . obtain ⟨t, us, v, rfl, ht, e, q⟩ := h
    refine ⟨_, (@zh _ _ _ (@zm _ _ _ _ (@zw _ _ _ _ _ _ _ yq (pv 0) (@zj _ _ _ _) (fun _ _ => rfl)))), ?_⟩;rw [show start ["hand"] [V.ref t] = [some (V.ref t)] from rfl];simp only [ze, zd, ↓reduceIte];exact ⟨_, ht, _, ya (j := 1) e, q⟩
theorem mm (B : Bt mg) (D : zc K mg "with_each" rp ["rows", "words"]) : FnAt P w K mg base "with_each" 1 ["rows", "words"] (zei K) := by
  refine FnAt.of D sc_with_each (fun vs H Q E h => ?_) (fun f cdv A outer s H vs Q E hr h => ?_)
  . obtain ⟨l, wd, as, rs, ws, rfl, _⟩ := h
    rfl
  . obtain ⟨l, wd, as, rs, ws, rfl, hR, hW, b1, b2, b3, q⟩ := h
    refine ⟨_, (@zk _ _ _ _ _ (z8 (i := 2) sc_with_each.nd rfl (Or.inl rfl) (@vm _ _ _ _ (@zb _))) (@zk _ _ _ _ _ (xk PassesOwn.never rfl (@z9 _ _ _ _ (pv 0)) (zl (i := 3) sc_with_each.nd rfl (Or.inr rfl)) (@zh _ _ _ (rf (kt PySem.F.plainAttrs_list PySem.F.slot_list_extend PySem.F.type_list_extend zfj (pv 2) (za (z7 ["word"] ["rows", "words", "longer", "row"] rfl (@ju _ _ _ _ (pv 1)) (fun _ => (zl (i := 0) (show (["word", "rows", "words", "longer", "row"] : List Str).Nodup by decide +kernel) rfl (Or.inl rfl))) (fun _ => (@zt _)) (fun _ => (@zp _ _ _ _ _ _ _ _ tq (pv 4) (@xw _ _ _ _ _ (za (pv 0) (@zb _))))) rfl (by decide +kernel) rfl rfl) (@zb _)))))) (@zh _ _ _ (@zm _ _ _ _ (pv 2))))), ?_⟩;rw [show start ["rows", "words", "longer", "row"] [V.ref l, V.ref wd] = [some (V.ref l), some (V.ref wd), none, none] from rfl];simp only [ze, zd, ↓reduceIte];refine ⟨by decide, fun p hp => ?_⟩;have S1 : Same H (upd H p (.lst [])) := Same.upd (Same.refl _) hp;refine ⟨⟨_, .of (S1 _ _ hR.lst)⟩, ?_⟩;refine tf (xs := as.map V.ref) (PvEach l wd p rs ws H) ⟨[], _, zf, TupsAt.nil, S1, rfl⟩ ?_ ?_ ?_
    . rintro i σ H' hi ⟨as', v, h1, h2, S, rfl⟩
      exact .of (S _ _ hR.lst)
    . rintro i x σ H' hx ⟨as', v, h1, h2, S, rfl⟩
      obtain ⟨a, ha, rfl⟩ := yd hx;have hi : i < rs.length := by have := (Zc.mp ha).1; have := hR.tups.len; omega
      have er : rs[i]? = some rs[i] := Zb hi;have hrow := hR.tups.at' i a _ ha er;have hr8 := b3 _ (Zl hi);simp only [ze, zd, ↓reduceIte];refine ⟨.inl ⟨rfl, _, .of h1⟩, ⟨_, S.seqT hW⟩, fun d => ?_⟩;refine kc (xs := ws.map V.str) (PvLong rs[i] ws H') ⟨[], rfl, TupsAt.nil, Same.refl _⟩ ?_ ?_ ?_
      . rintro j ys H2 hj ⟨bs, rfl, t2, S2⟩
        refine ⟨?_, S2.seqT (S.seqT hW)⟩;rw [Za, t2.len, qe, Zj];exact Zd (ZB _ _) (Zd b2 (by decide))
      . rintro j y ys H2 hy ⟨bs, rfl, t2, S2⟩
        obtain ⟨z, hz, rfl⟩ := yd hy;simp only [ze, zd, ↓reduceIte];refine ⟨by decide, fun c hc => ?_⟩;have S3 : Same H2 (upd H2 c (.tup [V.str z])) := Same.upd (Same.refl _) hc;refine ⟨_, (S.trans (S2.trans S3)) _ _ hrow, _, zf, ?_, fun H4 e S4 he => ?_⟩
        . rw [Za]
          exact Zd (show _ <= 9 by simp; omega) (by decide)
        . refine ⟨bs ++ [e], by simp, ?_, S2.trans (S3.trans S4)⟩
          rw [Zq, hz]
          show TupsAt H4 (bs ++ [e]) (xx _ (ws.take j ++ [z]))
          rw [xx, Zn];exact (t2.mono (S3.trans S4)).append (TupsAt.one (by rw [he]; simp))
      . rintro ys H2 ⟨bs, rfl, t2, S2⟩ l2 hl2
        rw [Za, Zt] at t2;have S3 : Same H2 (upd H2 l2 (.lst (bs.map V.ref))) := Same.upd (Same.refl _) hl2;have h3 : upd H2 l2 (.lst (bs.map V.ref)) l2 = some (.lst (bs.map V.ref)) := zf;generalize upd H2 l2 (.lst (bs.map V.ref)) = H3 at *;have hp3 := (S2.trans S3) _ _ h1;refine ⟨_, hp3, _, h3, ?_, ?_⟩
        . rw [Za, Za, h2.len, t2.len, qe, nq, Zj]
          have : min i rs.length * ws.length <= 4096 * 8 := YI (by omega) b2;exact Zd (show _ <= 4096 * 8 + 8 by omega) (by decide)
        . refine ⟨as' ++ bs, _, by rw [zf, Zn], ?_, Same.upd (S.trans (S2.trans S3)) hp, rfl⟩
          rw [Zq, er]
          show TupsAt _ _ (xu (rs.take i ++ [rs[i]]) ws)
          rw [fm];exact ((h2.mono (S2.trans S3)).append (t2.mono S3)).past hp3
    . rintro σ H' ⟨as', v, h1, h2, S, rfl⟩
      simp only [ze, zd, ↓reduceIte];rw [Za, hR.tups.len, Zt] at h2;exact q H' p as' S hp ⟨h1, h2⟩
theorem mq (B : Bt mg) (mm : FnAt P w K mg base "with_each" 1 ["rows", "words"] (zei K)) (yl : FnAt P w K mg base "words_of_hand" 1 ["hand"] (wz K 1)) (D : zc K mg "rows_over" r6 ["hands"]) : FnAt P w K mg base "rows_over" 2 ["hands"] (zfg K) := by
  refine FnAt.of D sc_rows_over (fun vs H Q E h => ?_) (fun f cdv A outer s H vs Q E hr h => ?_)
  . obtain ⟨b, hs, ds, rfl, _⟩ := h
    rfl
  . obtain ⟨b, hs, ds, rfl, hH, hK, h4, h8, q⟩ := h
    refine ⟨_, (@zk _ _ _ _ _ (@z8 _ _ 1 _ _ _ _ sc_rows_over.nd rfl (Or.inl rfl) (@vm _ _ _ _ (@za _ _ _ _ _ (@xw _ _ _ _ _ (@zb _)) (@zb _) (yj nofun))) rfl (Or.inl rfl)) (@zk _ _ _ _ _ (xk PassesOwn.never rfl (@ju _ _ _ _ (pv 0)) (zl (i := 2) sc_rows_over.nd rfl (Or.inl rfl)) (@zh _ _ _ (z8 (i := 1) sc_rows_over.nd rfl (Or.inl rfl) (zg mm (hr.mono (by decide)) rfl (za (pv 1) (za (zg yl (hr.mono (by decide)) rfl (za (pv 2) (@zb _))) (@zb _))))))) (@zh _ _ _ (@zm _ _ _ _ (pv 1))))), ?_⟩;rw [show start ["hands", "rows", "hand"] [V.ref b] = [some (V.ref b), none, none] from rfl];simp only [ze, zd, ↓reduceIte];refine ⟨by decide, fun c hc => ⟨by decide, fun p hp => ?_⟩⟩;have S1 : Same H (upd H c (.tup [])) := Same.upd (Same.refl _) hc;have h1 : upd H c (.tup []) c = some (.tup []) := zf;generalize upd H c (.tup []) = H1 at *;have S2 : Same H1 (upd H1 p (.lst [V.ref c])) := Same.upd (Same.refl _) hp;have h2 : upd H1 p (.lst [V.ref c]) p = some (.lst [V.ref c]) := zf;generalize upd H1 p (.lst [V.ref c]) = H2 at *;have S := S1.trans S2;refine ⟨⟨_, S.seqT hH⟩, ?_⟩;refine zgq (xs := hs.map V.ref) (PvOver b ds H) ⟨p, [c], _, S1.free hp, ⟨h2, TupsAt.one (S2 _ _ h1)⟩, S, rfl⟩ ?_ ?_ ?_
    . rintro i σ H' hi ⟨l, as, v, hl, hR, S', rfl⟩
      exact S'.seqT hH
    . rintro i x σ H' hx ⟨l, as, v, hl, hR, S', rfl⟩
      obtain ⟨t, ht, rfl⟩ := yd hx;have hi : i < ds.length := by have := (Zc.mp ht).1; have := hK.1; omega
      have ed : ds[i]? = some ds[i] := Zb hi;obtain ⟨wd, g, gs, hd⟩ := (hK.mono S').2 i t _ ht ed;simp only [ze, zd, ↓reduceIte];refine ⟨t, _, _, rfl, hd.tup, rfl, ?_⟩;have ew : (ds.map HD.words)[i]? = some ds[i].words := by rw [Ze, ed]; rfl
      have hb : ∀ r ∈ ym ((ds.map HD.words).take i), r.length <= 8 := fun r hr => by
        have := iq (ds.map HD.words) i (by rw [Za]; omega) r hr;omega
      refine ⟨l, wd, as, _, ds[i].words, rfl, hR, hd.words, gb (by rw [Za]; exact h4) (fun ws hws => ?_) i (by rw [Za]; omega), h8 _ (Zl hi), hb, fun H3 l3 as3 S3 hl3 R3 => ?_⟩
      . obtain ⟨d, hd, rfl⟩ := Zp.mp hws
        exact h8 d hd
      . simp only [ze, zd, ↓reduceIte]
        refine ⟨l3, as3, _, S'.free hl3, ?_, S'.trans S3, rfl⟩;rw [um ew];exact R3
    . rintro σ H' ⟨l, as, v, hl, hR, S', rfl⟩
      simp only [ze, zd, ↓reduceIte];rw [Za, hK.1, ZG (by rw [Za]; omega)] at hR;exact q H' l as S' hl hR
theorem jz (B : Bt mg) (mq : FnAt P w K mg base "rows_over" 2 ["hands"] (zfg K)) (f_hands_of : FnAt P w K mg base "hands_of" 1 ["house"] (wz K 1)) (D : zc K mg "rows_of" me ["house"]) : FnAt P w K mg base "rows_of" 3 ["house"] (b9 K) := by
  refine FnAt.of D zdm (fun vs H Q E h => ?_) (fun f cdv A outer s H vs Q E hr h => ?_)
  . obtain ⟨p, o, a, hs, outs, ds, rfl, _⟩ := h
    rfl
  . obtain ⟨p, o, a, hs, outs, ds, rfl, hH, h4, h8, q⟩ := h
    refine ⟨_, (@zh _ _ _ (@zm _ _ _ _ (zg mq (hr.mono (by decide)) rfl (za (zg f_hands_of (hr.mono (by decide)) rfl (za (pv 0) (@zb _))) (@zb _))))), ?_⟩;rw [show start ["house"] [V.ref p] = [some (V.ref p)] from rfl];simp only [ze, zd, ↓reduceIte];exact ⟨p, _, _, rfl, hH.tup, rfl, a, hs, ds, rfl, hH.hands, hH.hand, h4, h8, q⟩
end
structure HHand (H : Hp) (t : Addr) (d : HD) (w g : Addr) (gs : List Addr) : Prop where
  tup : H t = some (.tup [.str d.name, .ref w, .ref g])
  words : H w = some (.tup (d.words.map V.str))
  grid : H g = some (.tup (gs.map V.ref))
  len : gs.length = d.worths.length
  row : ∀ (i : Nat) (r : Addr) (ns : List Int), gs[i]? = some r -> d.worths[i]? = some ns -> H r = some (.tup (ns.map V.int))
theorem HHand.mono {H H' : Hp} {t : Addr} {d : HD} {w g : Addr} {gs : List Addr} (S : Same H H') (h : HHand H t d w g gs) : HHand H' t d w g gs :=
  ⟨S _ _ h.tup, S _ _ h.words, S _ _ h.grid, h.len, fun i r ns e1 e2 => S _ _ (h.row i r ns e1 e2)⟩
theorem HHand.k {K : Fg} {H : Hp} {t : Addr} {d : HD} {w g : Addr} {gs : List Addr} (h : HHand H t d w g gs) : KHand K H t d w g gs :=
  ⟨.of h.tup, .of h.words, .of h.grid, h.len, fun i r ns e1 e2 => .of (h.row i r ns e1 e2)⟩
def HHands (H : Hp) (hs : List Addr) (ds : List HD) : Prop := hs.length = ds.length /\ ∀ (i : Nat) (t : Addr) (d : HD), hs[i]? = some t -> ds[i]? = some d -> ∃ w g gs, HHand H t d w g gs
theorem HHands.mono {H H' : Hp} {hs : List Addr} {ds : List HD} (S : Same H H') (h : HHands H hs ds) : HHands H' hs ds :=
  ⟨h.1, fun i t d e1 e2 => by
    obtain ⟨w, g, gs, q⟩ := h.2 i t d e1 e2
    exact ⟨w, g, gs, q.mono S⟩⟩
theorem HHands.snoc {H : Hp} {hs : List Addr} {ds : List HD} {t : Addr} {d : HD} {w g : Addr} {gs : List Addr} (h : HHands H hs ds) (q : HHand H t d w g gs) : HHands H (hs ++ [t]) (ds ++ [d]) := by
  refine ⟨by simp [h.1], fun i a e e1 e2 => ?_⟩
  by_cases hi : i < hs.length
  . rw [Zg hi] at e1
    rw [Zg (by rw [<- h.1]; exact hi)] at e2;exact h.2 i a e e1 e2
  . rw [Zf (ZD.mp hi)] at e1
    rw [Zf (by rw [<- h.1]; exact ZD.mp hi)] at e2
    have h0 : i - hs.length = 0 := by
      have := (Zc.mp e1).1;simp at this;omega
    rw [h0] at e1;rw [<- h.1, h0] at e2;simp at e1 e2;subst e1 e2;exact ⟨w, g, gs, q⟩
structure HHouse (H : Hp) (p o h : Addr) (hs : List Addr) (outs : List Str) (ds : List HD) : Prop where
  tup : H p = some (.tup [.ref o, .ref h])
  outs : H o = some (.tup (outs.map V.str))
  hands : H h = some (.tup (hs.map V.ref))
  hand : HHands H hs ds
theorem HHouse.mono {H H' : Hp} {p o h : Addr} {hs : List Addr} {outs : List Str} {ds : List HD} (S : Same H H') (q : HHouse H p o h hs outs ds) : HHouse H' p o h hs outs ds :=
  ⟨S _ _ q.tup, S _ _ q.outs, S _ _ q.hands, q.hand.mono S⟩
theorem HHouse.k {K : Fg} {H : Hp} {p o h : Addr} {hs : List Addr} {outs : List Str} {ds : List HD} (q : HHouse H p o h hs outs ds) : zfi K H p o h hs outs ds :=
  ⟨.of q.tup, .of q.outs, .of q.hands, q.hand.1, fun i t d e1 e2 => by
    obtain ⟨w, g, gs, z⟩ := q.hand.2 i t d e1 e2
    exact ⟨w, g, gs, z.k⟩⟩
structure IntTs (H : Hp) (ls : List Addr) (ps : List (List Int)) : Prop where
  len : ls.length = ps.length
  at' : ∀ (i : Nat) (l : Addr) (p : List Int), ls[i]? = some l -> ps[i]? = some p -> H l = some (.tup (p.map V.int))
theorem IntTs.mono {H H' : Hp} {ls : List Addr} {ps : List (List Int)} (S : Same H H') (h : IntTs H ls ps) : IntTs H' ls ps := ⟨h.len, fun i l p e1 e2 => S _ _ (h.at' i l p e1 e2)⟩
theorem IntTs.snoc {H : Hp} {ls : List Addr} {ps : List (List Int)} {l : Addr} {p : List Int} (h : IntTs H ls ps) (hl : H l = some (.tup (p.map V.int))) : IntTs H (ls ++ [l]) (ps ++ [p]) := by
  refine ⟨by simp [h.len], fun i a q e1 e2 => ?_⟩
  by_cases hi : i < ls.length
  . rw [Zg hi] at e1
    rw [Zg (by rw [<- h.len]; exact hi)] at e2;exact h.at' i a q e1 e2
  . rw [Zf (ZD.mp hi)] at e1
    rw [Zf (by rw [<- h.len]; exact ZD.mp hi)] at e2
    have h0 : i - ls.length = 0 := by
      have := (Zc.mp e1).1;simp at this;omega
    rw [h0] at e1;rw [<- h.len, h0] at e2;simp at e1 e2;subst e1 e2;exact hl
def zer : Sp := fun vs H Q _ => ∃ (x : HX) (d : HD), vs = [.ref x.t] /\ HandAt H x d /\ d.worths.length <= 8 /\ ∀ H' t w g gs, Same H H' -> HHand H' t d w g gs -> Q (.ref t) H'
def b8 : Sp := fun vs H Q _ => ∃ (o b : Addr) (outs : List Str) (xs : List HX) (ds : List HD), vs = [.ref o, .ref b] /\ H o = some (.lst (outs.map V.str)) /\ HandsL H b xs ds /\ GoodHouse outs ds /\ ∀ H' p o' h hs, Same H H' -> HHouse H' p o' h hs outs ds -> Q (.ref p) H'
def PvEH (rows : List (List Int)) (H1 : Hp) (i : Nat) (ys : List V) (H' : Hp) : Prop := Same H1 H' /\ ∃ gs : List Addr, ys = gs.map V.ref /\ IntTs H' gs (rows.take i)
def PvDH (ds : List HD) (H1 : Hp) (i : Nat) (ys : List V) (H' : Hp) : Prop := Same H1 H' /\ ∃ hs : List Addr, ys = hs.map V.ref /\ HHands H' hs (ds.take i)
section
variable {P : Program} {w : World} {K : Fg} {mg : Str -> Option Value} {base : Heap} {a : Ad}
theorem zbh (B : Bt mg) (ql : FnAt P w K mg base "name_of" 1 ["hand"] (nj fun _ d => .str d.name)) (yl : FnAt P w K mg base "words_of_hand" 1 ["hand"] (nj fun x _ => .ref x.w)) (xn : FnAt P w K mg base "worths_of_hand" 1 ["hand"] (nj fun x _ => .ref x.g))
    (D : zc K mg "kept_hand" qi ["hand"]) : FnAt P w K mg base "kept_hand" 2 ["hand"] zer := by
  refine FnAt.of D sc_kept_hand (fun vs H Q E h => ?_) (fun f cdv A outer s H vs Q E hr h => ?_)
  . obtain ⟨x, d, rfl, _⟩ := h
    rfl
  . obtain ⟨x, d, rfl, hx, h8, q⟩ := h
    refine ⟨_, (@zk _ _ _ _ _ (z8 (i := 1) sc_kept_hand.nd rfl (Or.inl rfl) (wy qj rfl B.tuple rg (za (z7 ["row"] ["hand", "worths"] rfl (@z9 _ _ _ _ (zg xn (hr.mono (by decide)) rfl (za (pv 0) (@zb _)))) (fun _ => (zl (i := 0) (show (["row", "hand", "worths"] : List Str).Nodup by decide +kernel) rfl (Or.inl rfl))) (fun _ => (@zt _)) (fun _ => (wy qj rfl B.tuple rg (za (pv 0) (@zb _)))) rfl (by decide +kernel) rfl rfl) (@zb _)))) (@zh _ _ _ (@zm _ _ _ _ (@xw _ _ _ _ _ (za (zg ql (hr.mono (by decide)) rfl (za (pv 0) (@zb _))) (za (wy qj rfl B.tuple rg (za (zg yl (hr.mono (by decide)) rfl (za (pv 0) (@zb _))) (@zb _))) (za (pv 1) (@zb _)))))))), ?_⟩;rw [show start ["hand", "worths"] [V.ref x.t] = [some (V.ref x.t), none] from rfl];simp only [ze, zd, ↓reduceIte];refine ⟨x, d, rfl, hx, ?_⟩;simp only [ze, zd, ↓reduceIte];refine ⟨⟨_, .of hx.grid⟩, fun dd => ?_⟩;refine zz (xs := x.gs.map V.ref) (PvEH d.worths H) ⟨Same.refl _, [], rfl, rfl, fun i l p e => by simp at e⟩ ?_ ?_ ?_
    . rintro i ys H2 hi ⟨S, gs, rfl, ty⟩
      rw [Za, hx.len] at hi;have ly : gs.length = i := by rw [ty.len, Zj]; omega
      exact ⟨by rw [Za, ly]; exact Zd hi (Zd h8 (by decide)), S.seq (.of hx.grid)⟩
    . rintro i y ys H2 hy ⟨S, gs, rfl, ty⟩
      obtain ⟨r, hr', rfl⟩ := yd hy;have hi : i < d.worths.length := by have := (Zc.mp hr').1; have := hx.len; omega
      have e2 : d.worths[i]? = some d.worths[i] := by simp [hi]
      simp only [ze, zd, ↓reduceIte];refine ⟨_, S.seq (.of (hx.row i r _ hr' e2)), fun l hl => ?_⟩;have S3 : Same H2 (upd H2 l (.tup ((d.worths[i]).map V.int))) := Same.upd (Same.refl _) hl;refine ⟨S.trans S3, gs ++ [l], by simp, ?_⟩;rw [Zq, e2];exact (ty.mono S3).snoc zf
    . rintro ys H2 ⟨S, gs, rfl, ty⟩ l hl
      rw [Za, hx.len, Zt] at ty;have S3 : Same H2 (upd H2 l (.lst (gs.map V.ref))) := Same.upd (Same.refl _) hl;refine ⟨_, .of zf, fun l1 hl1 => ?_⟩;generalize upd H2 l (.lst (gs.map V.ref)) = H3 at *;have S4 : Same H3 (upd H3 l1 (.tup (gs.map V.ref))) := Same.upd (Same.refl _) hl1;have h4 : upd H3 l1 (.tup (gs.map V.ref)) l1 = some (.tup (gs.map V.ref)) := zf;generalize upd H3 l1 (.tup (gs.map V.ref)) = H4 at *;have S24 := S.trans (S3.trans S4);refine ⟨x, d, rfl, hx.mono S24, x, d, rfl, hx.mono S24, x.w, rfl, _, .of (hx.mono S24).words, fun l2 hl2 => ⟨by decide, fun p hp => ?_⟩⟩;have S5 : Same H4 (upd H4 l2 (.tup (d.words.map V.str))) := Same.upd (Same.refl _) hl2;have h5 : upd H4 l2 (.tup (d.words.map V.str)) l2 = some (.tup (d.words.map V.str)) := zf;generalize upd H4 l2 (.tup (d.words.map V.str)) = H5 at *;have S6 : Same H5 (upd H5 p (.tup [V.str d.name, V.ref l2, V.ref l1])) := Same.upd (Same.refl _) hp;exact q _ p l2 l1 gs (S24.trans (S5.trans S6)) ⟨zf, S6 _ _ h5, (S5.trans S6) _ _ h4, ty.len, fun i r ns e1 e2 => (S3.trans (S4.trans (S5.trans S6))) _ _ (ty.at' i r ns e1 e2)⟩
theorem zdn (B : Bt mg) (C : Ct K mg a) (qx : FnAt P w K mg base "makes_house" 6 ["outcomes", "hands"] zfk) (f_kept_hand : FnAt P w K mg base "kept_hand" 2 ["hand"] zer) (D : zc K mg "house_of" pk ["outcomes", "hands"]) : FnAtX P w K mg base "house_of" 7 ["outcomes", "hands"] b8 := by
  refine FnAtX.of D zbb (fun vs H Q E h => ?_) (fun f cdv A outer s H vs Q E hr h => ?_)
  . obtain ⟨o, b, outs, xs, ds, rfl, _⟩ := h
    rfl
  . obtain ⟨o, b, outs, xs, ds, rfl, ho, hh, g, q⟩ := h
    refine ⟨_, (@zk _ _ _ _ _ (@xl _ _ _ _ _ _ _ _ (@wg _ _ _ _ (w4 (zg qx (hr.mono (by decide)) rfl (za (pv 0) (za (pv 1) (@zb _)))))) (@zh _ _ _ (kj rfl C.q_NoHouse.toErr rfl C.m_NoHouse (qc rfl) (za (@oq _ _ _ _) (@zb _)))) (@yi _)) (@zh _ _ _ (PS.nox (@zm _ _ _ _ (@xw _ _ _ _ _ (za (wy qj rfl B.tuple rg (za (pv 0) (@zb _))) (za (wy qj rfl B.tuple rg (za (z7 ["hand"] ["outcomes", "hands"] rfl (@z9 _ _ _ _ (pv 1)) (fun _ => (zl (i := 0) (show (["hand", "outcomes", "hands"] : List Str).Nodup by decide +kernel) rfl (Or.inl rfl))) (fun _ => (@zt _)) (fun _ => (zg f_kept_hand (hr.mono (by decide)) rfl (za (pv 0) (@zb _)))) rfl (by decide +kernel) rfl rfl) (@zb _))) (@zb _)))))))), ?_⟩;rw [show start ["outcomes", "hands"] [V.ref o, V.ref b] = [some (V.ref o), some (V.ref b)] from rfl];simp only [ze, zd, ↓reduceIte];have g2 := g.hands;refine ⟨o, b, outs, xs, ds, rfl, ho, hh, g, fun H1 S1 => ?_⟩;simp only [ze, zd, ↓reduceIte];have hh1 := hh.mono S1;have ho1 := S1 _ _ ho;refine iteF ⟨_, .of ho1, fun l hl => ?_⟩;have S2 : Same H1 (upd H1 l (.tup (outs.map V.str))) := Same.upd (Same.refl _) hl;have h2 : upd H1 l (.tup (outs.map V.str)) l = some (.tup (outs.map V.str)) := zf;generalize upd H1 l (.tup (outs.map V.str)) = H2 at *;have hh2 := hh1.mono S2;refine ⟨⟨_, .of hh2.at'⟩, fun d => ?_⟩;refine zz (xs := xs.map fun x => V.ref x.t) (PvDH ds H2) ⟨Same.refl _, [], rfl, rfl, fun i t d e => by simp at e⟩ ?_ ?_ ?_
    . rintro i ys H3 hi ⟨S, hs, rfl, ty⟩
      rw [Za, hh.len] at hi;have ly : hs.length = i := by rw [ty.1, Zj]; omega
      exact ⟨by rw [Za, ly]; exact Zd hi (Zd g2.2 (by decide)), S.seq (.of hh2.at')⟩
    . rintro i y ys H3 hy ⟨S, hs, rfl, ty⟩
      obtain ⟨x, hx, rfl⟩ := yd hy;have hi : i < ds.length := by have := (Zc.mp hx).1; have := hh.len; omega
      have e2 : ds[i]? = some ds[i] := by simp [hi]
      have hm := Zl hi;have r8 : (ds[i]).worths.length <= 8 := by rw [g.rows _ hm]; exact (g.words1 _ hm).2
      simp only [ze, zd, ↓reduceIte];refine ⟨x, ds[i], rfl, (hh2.hand i x ds[i] hx e2).mono S, r8, fun H4 p wd g' gs S4 tp => ?_⟩;refine ⟨S.trans S4, hs ++ [p], by simp, ?_⟩;rw [Zq, e2];exact (ty.mono S4).snoc tp
    . rintro ys H3 ⟨S, hs, rfl, ty⟩ l1 hl1
      rw [Za, hh.len, Zt] at ty;have S4 : Same H3 (upd H3 l1 (.lst (hs.map V.ref))) := Same.upd (Same.refl _) hl1;refine ⟨_, .of zf, fun l2 hl2 => ⟨by decide, fun p hp => ?_⟩⟩;generalize upd H3 l1 (.lst (hs.map V.ref)) = H4 at *;have S5 : Same H4 (upd H4 l2 (.tup (hs.map V.ref))) := Same.upd (Same.refl _) hl2;have h5 : upd H4 l2 (.tup (hs.map V.ref)) l2 = some (.tup (hs.map V.ref)) := zf;generalize upd H4 l2 (.tup (hs.map V.ref)) = H5 at *;have S6 : Same H5 (upd H5 p (.tup [V.ref l, V.ref l2])) := Same.upd (Same.refl _) hp;have S36 := S4.trans (S5.trans S6);exact q _ p l l2 hs (S1.trans (S2.trans (S.trans S36))) ⟨zf, (S.trans S36) _ _ h2, S6 _ _ h5, ty.mono S36⟩
end
section
variable {α : Type}
def br (r : List α) (wss : List (List α)) : Prop := r.length = wss.length /\ ∀ (j : Nat) (ws : List α), wss[j]? = some ws -> ∃ w, r[j]? = some w /\ w ∈ ws
theorem zgb {rs : List (List α)} {ws : List α} {r : List α} {w : α} (h1 : r ∈ rs) (h2 : w ∈ ws) : r ++ [w] ∈ xu rs ws := by
  simp only [xu, xx, Yy, Zp];exact ⟨_, ⟨r, h1, rfl⟩, Zp.mpr ⟨w, h2, rfl⟩⟩
theorem zd4 (wss : List (List α)) : ∀ n, n <= wss.length -> ∀ r, r ∈ ym (wss.take n) ↔ br r (wss.take n) := by
  intro n
  induction n with
  | zero =>
    intro _ r;simp only [List.take_zero, ym, List.foldl_nil, ZC]
    constructor
    . rintro rfl; exact ⟨rfl, fun j ws e => by simp at e⟩
    . intro h; exact Ye.mp h.1
  | succ n ih =>
    intro hn r;have e : wss[n]? = some wss[n] := Zb (by omega);have et : wss.take (n + 1) = wss.take n ++ [wss[n]] := by rw [Zq, e]; rfl
    have ln : (wss.take n).length = n := by rw [Zj]; omega
    rw [um e]
    constructor
    . intro h
      obtain ⟨q, w, h1, h2, rfl⟩ := jq h;obtain ⟨p1, p2⟩ := (ih (by omega) q).mp h1;rw [ln] at p1;refine ⟨by rw [et, Zo, Zo, p1, ln]; rfl, fun j ws ej => ?_⟩;rw [et] at ej
      by_cases hj : j < n
      . rw [Zg (by omega)] at ej
        obtain ⟨w', a1, a2⟩ := p2 j ws ej;exact ⟨w', by rw [Zg (by omega)]; exact a1, a2⟩
      . rw [Zf (by omega), ln] at ej
        have hj0 : j - n = 0 := by
          have := (Zc.mp ej).1;simp at this;omega
        rw [hj0] at ej;simp at ej;subst ej;exact ⟨w, by rw [Zf (by omega), p1, hj0]; rfl, h2⟩
    . rintro ⟨p1, p2⟩
      rw [et] at p1 p2;have lr : r.length = n + 1 := by rw [p1, Zo, ln]; rfl
      obtain ⟨w, a1, a2⟩ := p2 n wss[n] (by rw [Zf (by omega), ln]; simp)
      have er : r = r.take n ++ [w] := by
        have : r.take (n + 1) = r := ZG (by omega);rw [Zq, a1] at this;exact this.symm
      rw [er];refine zgb ((ih (by omega) _).mpr ⟨by rw [Zj, ln]; omega, fun j ws ej => ?_⟩) a2;have hj : j < n := by have := (Zc.mp ej).1; omega
      obtain ⟨w', b1, b2⟩ := p2 j ws (by rw [Zg (by omega)]; exact ej);exact ⟨w', by rw [List.getElem?_take, if_pos hj]; exact b1, b2⟩
theorem rowsP_iff {wss : List (List α)} {r : List α} : r ∈ ym wss ↔ br r wss := by
  have := zd4 wss wss.length (Zm _) r
  rwa [Zt] at this
theorem zbd {rs : List (List α)} {ws : List α} (h1 : rs.Nodup) (h2 : ws.Nodup) : (xu rs ws).Nodup := by
  induction rs with
  | nil => exact YH
  | cons r rs ih =>
    rw [fg];obtain ⟨n1, n2⟩ := ZV.mp h1;refine Yj.mpr ⟨?_, ih n2, fun x hx y hy e => ?_⟩
    . rw [xx]
      refine YL.mpr (List.Pairwise.imp (fun {a b} hab e => hab ?_) h2)
      simpa using e
    . obtain ⟨w, _, rfl⟩ := Zp.mp hx
      obtain ⟨q, w', hq, _, e2⟩ := jq hy;rw [e2] at e;have := (List.append_inj' e rfl).1;exact n1 (this ▸ hq)
theorem zbe {wss : List (List α)} (h : ∀ ws ∈ wss, ws.Nodup) : (ym wss).Nodup := by
  have : ∀ n, n <= wss.length -> (ym (wss.take n)).Nodup := by
    intro n
    induction n with
    | zero => intro _; simp [ym]
    | succ n ih =>
      intro hn;have e : wss[n]? = some wss[n] := Zb (by omega);rw [um e];exact zbd (ih (by omega)) (h _ (Zl _))
  have := this wss.length (Zm _)
  rwa [Zt] at this
def insP (r : List α) (k : Nat) (w : α) : List α := r.take k ++ w :: r.drop k
theorem zgg {r : List α} {k : Nat} (w : α) (h : k <= r.length) : (insP r k w).length = r.length + 1 := by simp [insP]; omega
theorem zcj {r : List α} {k : Nat} (w : α) (h : k <= r.length) : (insP r k w)[k]? = some w := by
  rw [insP, Zf (by rw [Zj]; omega), Zj, YQ h, Nat.sub_self];rfl
end
def numB (c top : Int) : Int := if c % 4 = 0 then c / 4 % 19 - 9 else if c % 4 = 1 then c / 4 % 3 - 1 else if c % 4 = 2 then c / 4 % (2 * 10 ^ 18) - 10 ^ 18 else c / 4 % (2 * top + 1) - top
theorem j8 (c : Int) {top : Int} (h0 : 10 ^ 18 <= top) : -top <= numB c top /\ numB c top <= top := by
  unfold numB;have h1 := y9 (c / 4) (show (0 : Int) < 19 by decide);have h2 := y9 (c / 4) (show (0 : Int) < 3 by decide);have h3 := y9 (c / 4) (show (0 : Int) < 2 * 10 ^ 18 by decide);have h4 := y9 (c / 4) (show (0 : Int) < 2 * top + 1 by omega)
  split
  . omega
  . split
    . omega
    . split
      . omega
      . omega
def vd (c : Int) (k : Nat) : Str := if c % 3 = 0 then xp (chr1 (letA (c / 3))) (k + 1) else xp (chr1 (letA (c / 468))) (c / 5 % 4).toNat ++ chr1 (letA (c / 3 + k * (1 + 2 * (c / 78 % 6)))) ++ xp (chr1 (letA (c / 468))) (c / 7 % 4).toNat
def yt (c : Int) (many : Nat) : List Str := (List.range many).map (vd c)
theorem ww (c : Int) (n : Nat) : (yt c n).length = n := by rw [yt, Za, ZN]
theorem i4 (c : Int) (n : Nat) : yt c (n + 1) = yt c n ++ [vd c n] := by rw [yt, ZX, Zn]; rfl
theorem jb {d : Nat} {i : Int} (h : d ∈ (chr1 (letA i)).cps.toList) : 97 <= d /\ d <= 122 := by
  have : d = letA i := by simpa [chr1] using h
  rw [this]; exact zha _
theorem dc (c : Int) {k : Nat} (hk : k < 8) : pi (vd c k) := by
  unfold vd;have h5 := y9 (c / 5) (show (0 : Int) < 4 by decide);have h7 := y9 (c / 7) (show (0 : Int) < 4 by decide);have l1 : ∀ n, (chr1 n).length = 1 := fun n => rfl
  by_cases h : c % 3 = 0
  . rw [if_pos h]
    refine ⟨?_, ?_, fun d hd => jb (l6 hd)⟩ <;> rw [x0, l1] <;> omega
  . rw [if_neg h]
    refine ⟨?_, ?_, fun d hd => ?_⟩
    . rw [ur, ur, x0, x0, l1, l1]
      omega
    . rw [ur, ur, x0, x0, l1, l1]
      omega
    . rcases i3 hd with z | z
      . rcases i3 z with z | z
        . exact jb (l6 z)
        . exact jb z
      . exact jb (l6 z)
theorem zeo (c : Int) {i j : Nat} (hi : i < 5) (hj : j < 5) (h : vd c i = vd c j) : i = j := by
  unfold vd at h
  by_cases q : c % 3 = 0
  . rw [if_pos q, if_pos q] at h
    have := congrArg Str.length h;rw [x0, x0, show (chr1 (letA (c / 3))).length = 1 from rfl] at this;omega
  . rw [if_neg q, if_neg q] at h
    have e := zhh _ h;have hs := y9 (c / 78) (show (0 : Int) < 6 by decide);generalize c / 78 % 6 = st at hs e;have h1 := y9 (c / 3 + i * (1 + 2 * st)) (show (0 : Int) < 26 by decide);have h2 := y9 (c / 3 + j * (1 + 2 * st)) (show (0 : Int) < 26 by decide);have h3 : (c / 3 + i * (1 + 2 * st)) % 26 = (c / 3 + j * (1 + 2 * st)) % 26 := by unfold letA at e; omega
    have : st = 0 \/ st = 1 \/ st = 2 \/ st = 3 \/ st = 4 \/ st = 5 := by omega
    rcases this with rfl | rfl | rfl | rfl | rfl | rfl <;> omega
theorem ox (c : Int) {n : Nat} (hn : n <= 5) : (yt c n).Nodup := by
  unfold yt;refine YL.mpr ?_;refine List.Pairwise.imp_of_mem ?_ (List.nodup_range (n := n));intro i j hi hj hne e;exact hne (zeo c (by have := ZS.mp hi; omega) (by have := ZS.mp hj; omega) e)
theorem io (c : Int) {n : Nat} (hn : n <= 8) : ∀ z ∈ yt c n, pi z := fun z hz => by
  obtain ⟨i, hi, rfl⟩ := Zp.mp hz;exact dc c (by have := ZS.mp hi; omega)
def ye (ns : List Int) : Nat := (1 + yb ns 0 % 4).toNat
def yw (ns : List Int) : Nat := (1 + yb ns 0 / 4 % 3).toNat
def x8 (ns : List Int) (j : Nat) : Nat := (1 + yb ns 1 / ([1, 3, 9] : List Int).getD j 0 % 3).toNat
def rowB (ns : List Int) (top : Int) (k n : Nat) : List Int := (List.range n).map fun i => numB (yb ns (k + i)) top
def vi (ns : List Int) (top : Int) (k n m : Nat) : List (List Int) := (List.range m).map fun r => rowB ns top (k + r * n) n
def x5 (ns : List Int) (n : Nat) : Nat -> Nat
  | 0 => 8
  | j + 1 => x5 ns n j + x8 ns j * n
def bt (ns : List Int) (top : Int) (n j : Nat) : HD := ⟨vd (yb ns 6) j, yt (yb ns (3 + j)) (x8 ns j), vi ns top (x5 ns n j) n (x8 ns j)⟩
def wa (ns : List Int) (top : Int) (n m : Nat) : List HD := (List.range m).map (bt ns top n)
theorem za0 (ns : List Int) (top : Int) (n m : Nat) : wa ns top n (m + 1) = wa ns top n m ++ [bt ns top n m] := by rw [wa, ZX, Zn]; rfl
theorem zdw (ns : List Int) (top : Int) (k n : Nat) : rowB ns top k (n + 1) = rowB ns top k n ++ [numB (yb ns (k + n)) top] := by rw [rowB, ZX, Zn]; rfl
theorem gj (ns : List Int) (top : Int) (k n : Nat) : (rowB ns top k n).length = n := by rw [rowB, Za, ZN]
theorem zc4 (ns : List Int) (top : Int) (k n m : Nat) : vi ns top k n (m + 1) = vi ns top k n m ++ [rowB ns top (k + m * n) n] := by rw [vi, ZX, Zn]; rfl
theorem cx (ns : List Int) (top : Int) (k n m : Nat) : (vi ns top k n m).length = m := by rw [vi, Za, ZN]
theorem pp (ns : List Int) : 1 <= ye ns /\ ye ns <= 4 := by
  have := y9 (yb ns 0) (show (0 : Int) < 4 by decide);unfold ye; omega
theorem ul (ns : List Int) : 1 <= yw ns /\ yw ns <= 3 := by
  have := y9 (yb ns 0 / 4) (show (0 : Int) < 3 by decide);unfold yw; omega
theorem sg (ns : List Int) (j : Nat) : 1 <= x8 ns j /\ x8 ns j <= 3 := by
  have := y9 (yb ns 1 / ([1, 3, 9] : List Int).getD j 0) (show (0 : Int) < 3 by decide);unfold x8; omega
theorem wc {ns : List Int} {top : Int} {n m : Nat} {d : HD} (h : d ∈ wa ns top n m) : ∃ j, j < m /\ d = bt ns top n j := by
  obtain ⟨j, hj, rfl⟩ := Zp.mp h;exact ⟨j, ZS.mp hj, rfl⟩
theorem za3 (ns : List Int) {top : Int} (h0 : 10 ^ 18 <= top) (h1 : top < 10 ^ 60) {outs : List Str} (ho : outs = yt (yb ns 2) (ye ns)) : GoodHouse outs (wa ns top (ye ns) (yw ns)) where
  outs1 := by rw [ho, ww]; have := pp ns; omega
  outsG := by rw [ho]; exact io _ (by have := pp ns; omega)
  outsD := by rw [ho]; exact ox _ (by have := pp ns; omega)
  hands := by rw [wa, Za, ZN]; have := ul ns; omega
  handsG := fun d hd => by
    obtain ⟨j, hj, rfl⟩ := wc hd;exact dc _ (by have := ul ns; omega)
  handsD := by
    have : (wa ns top (ye ns) (yw ns)).map HD.name = yt (yb ns 6) (yw ns) := by rw [wa, yt, Yl]; rfl
    rw [this];exact ox _ (by have := ul ns; omega)
  words1 := fun d hd => by
    obtain ⟨j, hj, rfl⟩ := wc hd
    show 1 <= (yt _ _).length /\ (yt _ _).length <= 8
    rw [ww]; have := sg ns j; omega
  wordsG := fun d hd => by
    obtain ⟨j, hj, rfl⟩ := wc hd;exact io _ (by have := sg ns j; omega)
  wordsD := fun d hd => by
    obtain ⟨j, hj, rfl⟩ := wc hd;exact ox _ (by have := sg ns j; omega)
  rows := fun d hd => by
    obtain ⟨j, hj, rfl⟩ := wc hd
    show (vi _ _ _ _ _).length = (yt _ _).length
    rw [cx, ww]
  cols := fun d hd r hr => by
    obtain ⟨j, hj, rfl⟩ := wc hd;obtain ⟨i, _, rfl⟩ := Zp.mp hr;rw [gj, ho, ww]
  nums := fun d hd r hr n hn => by
    obtain ⟨j, hj, rfl⟩ := wc hd;obtain ⟨i, _, rfl⟩ := Zp.mp hr;obtain ⟨k, _, rfl⟩ := Zp.mp hn;have := j8 (yb ns (x5 ns (ye ns) j + i * ye ns + k)) h0
    constructor <;> omega
  few := by
    refine Zd (zhx (n := yw ns) (t := 3) (fun x hx => ?_) (by rw [Za, wa, Za, ZN])) ?_
    . obtain ⟨d, hd, rfl⟩ := Zp.mp hx
      obtain ⟨j, hj, rfl⟩ := wc hd
      show (yt _ _).length <= _
      rw [ww];exact (sg ns j).2
    . exact Zd (Nat.pow_le_pow_right (by decide) (ul ns).2) (by decide)
theorem NewHands.from {H0 H H' : Hp} {b : Addr} {xs : List HX} {ds : List HD} (g : NewHands H H' b xs ds) (S : Same H0 H) : NewHands H0 H' b xs ds :=
  ⟨S.trans g.same, S.free g.nb, g.at', g.len, g.hand, fun y hy => S.free (g.new y hy), g.old, g.nd, g.ne⟩
def fz : Sp := fun vs H Q _ => ∃ c top : Int, vs = [.int c, .int top] /\ 10 ^ 18 <= top /\ top < 10 ^ 60 /\ Q (.int (numB c top)) H
def i6 : Sp := fun vs H Q _ => ∃ (c : Int) (many : Nat), vs = [.int c, .int many] /\ many <= 8 /\ ∀ H' l, Same H H' -> H l = none -> H' l = some (.lst ((yt c many).map V.str)) -> Q (.ref l) H'
def zac (K : Fg) : Sp := fun vs H Q _ => ∃ (a : Addr) (ns : List Int) (n : Nat) (top : Int), vs = [.ref a, .int n, .int top] /\ SqL K H a (ns.map V.int) /\ 1 <= n /\ n <= 4 /\ 10 ^ 18 <= top /\ top < 10 ^ 60 /\
  ∀ H' (b : Addr) (xs : List HX), NewHands H H' b xs (wa ns top n (yw ns)) -> Q (.ref b) H'
def PvHB (a cl b : Addr) (ns : List Int) (n : Nat) (top : Int) (H1 : Hp) (j : Nat) : L2.St -> Hp -> Prop := fun σ H' => ∃ (xs : List HX) (t1 t2 t3 t4 : Option V), NewHands H1 H' b xs (wa ns top n j) /\ σ = [some (V.ref a), some (V.int n), some (V.int top), some (V.int (yw ns)), some (V.ref cl), some (V.ref b), some (V.int (x5 ns n j)), t1, t2, t3, t4]
def PvGB (a cl b g : Addr) (ns : List Int) (n : Nat) (top : Int) (H5 : Hp) (j : Nat) (m : Nat) : L2.St -> Hp -> Prop := fun σ H' => ∃ (gs : List Addr) (t4 : Option V), NewGrid H5 H' g gs (vi ns top (x5 ns n j) n m) m n /\ σ = [some (V.ref a), some (V.int n), some (V.int top), some (V.int (yw ns)), some (V.ref cl), some (V.ref b), some (V.int ((x5 ns n j + m * n : Nat) : Int)), some (V.int j), some (V.int (x8 ns j)), some (V.ref g), t4]
def PvRB (ns : List Int) (top : Int) (H6 : Hp) (k : Nat) (i : Nat) (ys : List V) (H' : Hp) : Prop := H' = H6 /\ ys = (rowB ns top k i).map V.int
def PvNB (c : Int) (many : Nat) (ot : Str) (l : Addr) (H : Hp) (i : Nat) (σ : L2.St) (H' : Hp) : Prop := Same H H' /\ H' l = some (.lst ((yt c i).map V.str)) /\ ∃ t1 t2 t3 : Option V, σ = [some (V.int c), some (V.int many), some (V.str (Str.ofString "abcdefghijklmnopqrstuvwxyz")), some (V.str ot), some (V.ref l), t1, t2, t3]
section
variable {P : Program} {w : World} {K : Fg} {mg : Str -> Option Value} {base : Heap}
theorem yr (B : Bt mg) (D : zc K mg "_law_cell" pj ["script", "k"]) : FnAt P w K mg base "_law_cell" 1 ["script", "k"] (o7 K) := by
  refine FnAt.of D zay (fun vs H Q E h => ?_) (fun f cdv A outer s H vs Q E hr h => ?_)
  . obtain ⟨a, ns, k, rfl, _⟩ := h
    rfl
  . obtain ⟨a, ns, k, rfl, hS, q⟩ := h
    refine ⟨_, (@zk _ _ _ _ _ (@xl _ _ _ _ _ _ _ _ (@y7 _ _ _ _ _ _ _ _ fj (pv 1) (zq zr rfl B.len yk (za (pv 0) (@zb _))) (yx _)) (@zh _ _ _ (@zm _ _ _ _ (@zw _ _ _ _ _ _ _ z0 (pv 0) (pv 1) (fun _ _ => rfl)))) (@yi _)) (@zh _ _ _ (@zm _ _ _ _ (@zj _ _ _ _)))), ?_⟩;rw [show start ["script", "k"] [V.ref a, V.int k] = [some (V.ref a), some (V.int k)] from rfl];simp only [ze, zd, ↓reduceIte];refine ⟨ns.map V.int, .inl hS, ?_⟩;rw [Za];unfold yb at q;refine ite2 (fun h => ?_) (fun h => ?_)
    . have h' : (k : Int) < ns.length := of_decide_eq_true h
      have hlt : k < ns.length := by omega
      have e : ns[k]? = some ns[k] := by simp [hlt]
      have e2 := ya (xs := ns.map V.int) (j := k) (v := V.int ns[k]) (by rw [Ze, e]; rfl);rw [Zk, e] at q;exact ⟨ns.map V.int, hS, _, e2, q⟩
    . have h' : ¬ (k : Int) < ns.length := fun z => h (decide_eq_true z)
      rw [Zk, Yz (by omega)] at q;exact q
theorem wj (D : zc K mg "_law_number" sh ["cell", "top"]) : FnAt P w K mg base "_law_number" 1 ["cell", "top"] fz := by
  refine FnAt.of D c0 (fun vs H Q E h => ?_) (fun f cdv A outer s H vs Q E hr h => ?_)
  . obtain ⟨c, top, rfl, _⟩ := h
    rfl
  . obtain ⟨c, top, rfl, t0, t1, q⟩ := h
    refine ⟨_, (@zk _ _ _ _ _ (@xl _ _ _ _ _ _ _ _ (@y7 _ _ _ _ _ _ _ _ ib (@zp _ _ _ _ _ _ _ _ xv (pv 0) (@zj _ _ _ _)) (@zj _ _ _ _) (yx _)) (@zh _ _ _ (@zm _ _ _ _ (@zp _ _ _ _ _ _ _ _ ua (@zp _ _ _ _ _ _ _ _ xv (@zp _ _ _ _ _ _ _ _ wu (pv 0) (@zj _ _ _ _)) (@zj _ _ _ _)) (@zj _ _ _ _)))) (@yi _)) (@zk _ _ _ _ _ (@xl _ _ _ _ _ _ _ _ (@y7 _ _ _ _ _ _ _ _ ib (@zp _ _ _ _ _ _ _ _ xv (pv 0) (@zj _ _ _ _)) (@zj _ _ _ _) (yx _)) (@zh _ _ _ (@zm _ _ _ _ (@zp _ _ _ _ _ _ _ _ ua (@zp _ _ _ _ _ _ _ _ xv (@zp _ _ _ _ _ _ _ _ wu (pv 0) (@zj _ _ _ _)) (@zj _ _ _ _)) (@zj _ _ _ _)))) (@yi _)) (@zk _ _ _ _ _ (@xl _ _ _ _ _ _ _ _ (@y7 _ _ _ _ _ _ _ _ ib (@zp _ _ _ _ _ _ _ _ xv (pv 0) (@zj _ _ _ _)) (@zj _ _ _ _) (yx _)) (@zh _ _ _ (@zm _ _ _ _ (@zp _ _ _ _ _ _ _ _ ua (@zp _ _ _ _ _ _ _ _ xv (@zp _ _ _ _ _ _ _ _ wu (pv 0) (@zj _ _ _ _)) (@zp _ _ _ _ _ _ _ _ jg (@zj _ _ _ _) (@zp _ _ _ _ _ _ _ _ lq (@zj _ _ _ _) (@zj _ _ _ _)))) (@zp _ _ _ _ _ _ _ _ lq (@zj _ _ _ _) (@zj _ _ _ _))))) (@yi _)) (@zh _ _ _ (@zm _ _ _ _ (@zp _ _ _ _ _ _ _ _ ua (@zp _ _ _ _ _ _ _ _ xv (@zp _ _ _ _ _ _ _ _ wu (pv 0) (@zj _ _ _ _)) (@zp _ _ _ _ _ _ _ _ xj (@zp _ _ _ _ _ _ _ _ jg (@zj _ _ _ _) (pv 1)) (@zj _ _ _ _))) (pv 1))))))), ?_⟩;rw [show start ["cell", "top"] [V.int c, V.int top] = [some (V.int c), some (V.int top)] from rfl];simp only [ze, zd, ↓reduceIte];unfold numB at q;refine ⟨by decide, rfl, ite2 (fun h => ?_) (fun h => ?_)⟩
    . rw [if_pos (of_decide_eq_true h)] at q
      exact ⟨⟨by decide, by decide⟩, by decide, q⟩
    . rw [if_neg (fun z => h (decide_eq_true z))] at q
      refine ⟨by decide, rfl, ite2 (fun h => ?_) (fun h => ?_)⟩
      . rw [if_pos (of_decide_eq_true h)] at q
        exact ⟨⟨by decide, by decide⟩, by decide, q⟩
      . rw [if_neg (fun z => h (decide_eq_true z))] at q
        refine ⟨by decide, rfl, ite2 (fun h => ?_) (fun h => ?_)⟩
        . rw [if_pos (of_decide_eq_true h)] at q
          exact ⟨⟨by decide, by decide⟩, ⟨by decide, by decide, by decide⟩, .inl ⟨by decide, by decide⟩, by decide, ⟨by decide, by decide, by decide⟩, q⟩
        . rw [if_neg (fun z => h (decide_eq_true z))] at q
          exact ⟨⟨by decide, by decide⟩, .inl ⟨by decide, by decide⟩, by omega, q⟩
end
section
variable {P : Program} {w : World} {K : Fg} {mg : Str -> Option Value} {base : Heap}
theorem vp (B : Bt mg) (D : zc K mg "_law_names" yg ["cell", "many"]) : FnAt P w K mg base "_law_names" 1 ["cell", "many"] i6 := by
  refine FnAt.of D sc_law_names (fun vs H Q E h => ?_) (fun f cdv A outer s H vs Q E hr h => ?_)
  . obtain ⟨c, many, rfl, _⟩ := h
    rfl
  . obtain ⟨c, many, rfl, hm, q⟩ := h
    have b5 : PSs (cxOf CX0 P w K mg base ["cell", "many", "letters", "other", "names", "k", "sign", "head"] "_law_names" (zi yg) f cdv A outer s H E).nox ((xh yg).drop 5) _ := (@zhz _ _ _ _ _ (@zm _ _ _ _ (pv 4)) rfl rfl);have b4 : PSs (cxOf CX0 P w K mg base ["cell", "many", "letters", "other", "names", "k", "sign", "head"] "_law_names" (zi yg) f cdv A outer s H E).nox ((xh yg).drop 4) _ := (@jw _ _ _ _ _ _ (xk PassesOwn.never rfl (yn rfl B.range (za (pv 1) (@zb _))) (zl (i := 5) sc_law_names.nd rfl (Or.inl rfl)) (@zk _ _ _ _ _ (z8 (i := 6) sc_law_names.nd rfl (Or.inl rfl) (@zw _ _ _ _ _ _ _ ae (pv 2) (@zp _ _ _ _ _ _ _ _ xv (@zp _ _ _ _ _ _ _ _ xj (@zp _ _ _ _ _ _ _ _ wu (pv 0) (@zj _ _ _ _)) (@zp _ _ _ _ _ _ _ _ jg (pv 5) (@zp _ _ _ _ _ _ _ _ xj (@zj _ _ _ _) (@zp _ _ _ _ _ _ _ _ jg (@zj _ _ _ _) (@zp _ _ _ _ _ _ _ _ xv (@zp _ _ _ _ _ _ _ _ wu (pv 0) (@zj _ _ _ _)) (@zj _ _ _ _)))))) (@zj _ _ _ _)) (fun _ _ => rfl))) (@zk _ _ _ _ _ (z8 (i := 7) sc_law_names.nd rfl (Or.inl rfl) (@zp _ _ _ _ _ _ _ _ dq (pv 3) (@zp _ _ _ _ _ _ _ _ xv (@zp _ _ _ _ _ _ _ _ wu (pv 0) (@zj _ _ _ _)) (@zj _ _ _ _)))) (@zh _ _ _ (rf (kt PySem.F.plainAttrs_list PySem.F.slot_list_append PySem.F.type_list_append md (pv 4) (za (@zp _ _ _ _ _ _ _ _ f9 (@zp _ _ _ _ _ _ _ _ f9 (pv 7) (pv 6)) (@zp _ _ _ _ _ _ _ _ dq (pv 3) (@zp _ _ _ _ _ _ _ _ xv (@zp _ _ _ _ _ _ _ _ wu (pv 0) (@zj _ _ _ _)) (@zj _ _ _ _)))) (@zb _)))))))) rfl @b5);have b3 : PSs (cxOf CX0 P w K mg base ["cell", "many", "letters", "other", "names", "k", "sign", "head"] "_law_names" (zi yg) f cdv A outer s H E).nox ((xh yg).drop 3) _ := (@jw _ _ _ _ _ _ (z8 (i := 4) sc_law_names.nd rfl (Or.inl rfl) (@vm _ _ _ _ (@zb _))) rfl @b4);have b2 : PSs (cxOf CX0 P w K mg base ["cell", "many", "letters", "other", "names", "k", "sign", "head"] "_law_names" (zi yg) f cdv A outer s H E).nox ((xh yg).drop 2) _ := (@jw _ _ _ _ _ _ (z8 (i := 3) sc_law_names.nd rfl (Or.inl rfl) (@zw _ _ _ _ _ _ _ ae (pv 2) (@zp _ _ _ _ _ _ _ _ xv (@zp _ _ _ _ _ _ _ _ wu (pv 0) (@zj _ _ _ _)) (@zj _ _ _ _)) (fun _ _ => rfl))) rfl @b3);have b1 : PSs (cxOf CX0 P w K mg base ["cell", "many", "letters", "other", "names", "k", "sign", "head"] "_law_names" (zi yg) f cdv A outer s H E).nox ((xh yg).drop 1) _ := (@jw _ _ _ _ _ _ (@xl _ _ _ _ _ _ _ _ (@y7 _ _ _ _ _ _ _ _ ib (@zp _ _ _ _ _ _ _ _ xv (pv 0) (@zj _ _ _ _)) (@zj _ _ _ _) (yx _)) (@zh _ _ _ (@zm _ _ _ _ (z7 ["k"] ["cell", "many", "letters", "other", "names", "k?", "sign", "head"] rfl (yn rfl B.range (za (pv 1) (@zb _))) (fun _ => (zl (i := 0) (show (["k", "cell", "many", "letters", "other", "names", "k?", "sign", "head"] : List Str).Nodup by decide +kernel) rfl (Or.inl rfl))) (fun _ => (@zt _)) (fun _ => (@zp _ _ _ _ _ _ _ _ dq (@zw _ _ _ _ _ _ _ ae (pv 3) (@zp _ _ _ _ _ _ _ _ xv (@zp _ _ _ _ _ _ _ _ wu (pv 1) (@zj _ _ _ _)) (@zj _ _ _ _)) (fun _ _ => rfl)) (@zp _ _ _ _ _ _ _ _ xj (pv 0) (@zj _ _ _ _)))) rfl (by decide +kernel) rfl rfl))) (@yi _)) rfl @b2);have b0 : PSs (cxOf CX0 P w K mg base ["cell", "many", "letters", "other", "names", "k", "sign", "head"] "_law_names" (zi yg) f cdv A outer s H E).nox ((xh yg).drop 0) _ := (@jw _ _ _ _ _ _ (z8 (i := 2) sc_law_names.nd rfl (Or.inr rfl) (@oq _ _ _ _)) rfl @b1);have b_ := @zho _ _ _ @b0;refine ⟨_, @b_, ?_⟩;rw [show start ["cell", "many", "letters", "other", "names", "k", "sign", "head"] [V.int c, V.int many] = [some (V.int c), some (V.int many), none, none, none, none, none, none] from rfl];simp only [ze, zd, ↓reduceIte];have e5 := y9 (c / 5) (show (0 : Int) < 4 by decide);have e7 := y9 (c / 7) (show (0 : Int) < 4 by decide);have e78 := y9 (c / 78) (show (0 : Int) < 6 by decide);have l1 : ∀ n, (chr1 n).length = 1 := fun n => rfl
    refine ⟨by decide, rfl, ite2 (fun h => ?_) (fun h => ?_)⟩
    . have h := of_decide_eq_true h
      refine ⟨by omega, by omega, fun d => ?_⟩;rw [Zw];refine xy (fun i ys H' => H' = H /\ ys = (yt c i).map V.str) ⟨rfl, rfl⟩ ?_ ?_ ?_
      . rintro i ys H' hi ⟨rfl, rfl⟩
        rw [Za, ww];exact Zd (show i <= 9 by omega) (by decide)
      . rintro i ys H' hi ⟨rfl, rfl⟩
        simp only [ze, zd, ↓reduceIte];have hl1 := a9 (YC (c / 3) (show (26 : Int) ≠ 0 by decide)) (Yi (c / 3) (show (0 : Int) < 26 by decide));refine ⟨⟨by decide, by decide⟩, by decide, by decide, _, hl1, by omega, by omega, ?_, ?_⟩
        . show 1 * _ <= _
          rw [Nat.one_mul];exact Zd (show ((i : Int) + 1).toNat <= 10 by omega) (by decide)
        . rw [i4, vd, if_pos h, Zn, show ((i : Int) + 1).toNat = i + 1 by omega]
          rfl
      . rintro ys H' ⟨rfl, rfl⟩ l hl
        exact q _ l (Same.upd (Same.refl _) hl) hl zf
    . have h : ¬ _ := fun z => h (decide_eq_true z)
      have hl1 := a9 (YC (c / 468) (show (26 : Int) ≠ 0 by decide)) (Yi (c / 468) (show (0 : Int) < 26 by decide));refine ⟨⟨by decide, by decide⟩, by decide, by decide, _, hl1, by decide, fun l hl => ?_⟩;refine ⟨by omega, by omega, ?_⟩;rw [Zw];refine xt (PvNB c many (chr1 (letA (c / 468))) l H) ⟨Same.upd (Same.refl _) hl, zf, _, _, _, rfl⟩ ?_ ?_
      . rintro i σ H' hi ⟨S, hl', t1, t2, t3, rfl⟩
        simp only [ze, zd, ↓reduceIte];have hb := a9 (YC (c / 3 + i * (1 + 2 * (c / 78 % 6))) (show (26 : Int) ≠ 0 by decide)) (Yi (c / 3 + i * (1 + 2 * (c / 78 % 6))) (show (0 : Int) < 26 by decide));refine ⟨⟨by decide, by decide⟩, ⟨by decide, by decide⟩, by decide, .inl ⟨by decide, by decide⟩, .inl ⟨by omega, by omega⟩, by decide, by decide, _, hb, ⟨by decide, by decide⟩, by decide, by omega, by omega, ?_, .inl ⟨rfl, _, .of hl'⟩, ?_, ⟨by decide, by decide⟩, by decide, by omega, by omega, ?_, ?_, _, hl', ?_, Same.upd S hl, ?_, _, _, _, rfl⟩
        . rw [l1]; omega
        . rw [x0, l1]
          exact Zd (show _ <= 20 by show 1 * _ + 1 <= 20; omega) (by decide)
        . rw [l1]; omega
        . rw [ur, x0, x0, l1]
          exact Zd (show _ <= 30 by show 1 * _ + 1 + 1 * _ <= 30; omega) (by decide)
        . rw [Za, ww]
          exact Zh hi (Zd hm (by decide))
        . rw [zf, i4, vd, if_neg h, Zn]
          rfl
      . rintro σ H' ⟨S, hl', t1, t2, t3, rfl⟩
        simp only [ze, zd, ↓reduceIte];exact q _ l S hl hl'
theorem mr (B : Bt mg) (yr : FnAt P w K mg base "_law_cell" 1 ["script", "k"] (o7 K)) (wj : FnAt P w K mg base "_law_number" 1 ["cell", "top"] fz) (vp : FnAt P w K mg base "_law_names" 1 ["cell", "many"] i6)
    (D : zc K mg "_law_hands" rq ["script", "places", "top"]) : FnAt P w K mg base "_law_hands" 2 ["script", "places", "top"] (zac K) := by
  refine FnAt.of D sc_law_hands (fun vs H Q E h => ?_) (fun f cdv A outer s H vs Q E hr h => ?_)
  . obtain ⟨a, ns, n, top, rfl, _⟩ := h
    rfl
  . obtain ⟨a, ns, n, top, rfl, hS, n1, n4, t0, t1, q⟩ := h
    refine ⟨_, (@zk _ _ _ _ _ (z8 (i := 3) sc_law_hands.nd rfl (Or.inl rfl) (@zp _ _ _ _ _ _ _ _ xj (@zj _ _ _ _) (@zp _ _ _ _ _ _ _ _ xv (@zp _ _ _ _ _ _ _ _ wu (zg yr (hr.mono (by decide)) rfl (za (pv 0) (za (@zj _ _ _ _) (@zb _)))) (@zj _ _ _ _)) (@zj _ _ _ _)))) (@zk _ _ _ _ _ (z8 (i := 4) sc_law_hands.nd rfl (Or.inl rfl) (zg vp (hr.mono (by decide)) rfl (za (zg yr (hr.mono (by decide)) rfl (za (pv 0) (za (@zj _ _ _ _) (@zb _)))) (za (@zj _ _ _ _) (@zb _))))) (@zk _ _ _ _ _ (z8 (i := 5) sc_law_hands.nd rfl (Or.inl rfl) (@vm _ _ _ _ (@zb _))) (@zk _ _ _ _ _ (z8 (i := 6) sc_law_hands.nd rfl (Or.inr rfl) (@zj _ _ _ _)) (@zk _ _ _ _ _ (xk PassesOwn.never rfl (yn rfl B.range (za (pv 3) (@zb _))) (zl (i := 7) sc_law_hands.nd rfl (Or.inl rfl)) (@zk _ _ _ _ _ (z8 (i := 8) sc_law_hands.nd rfl (Or.inl rfl) (@zp _ _ _ _ _ _ _ _ xj (@zj _ _ _ _) (@zp _ _ _ _ _ _ _ _ xv (@zp _ _ _ _ _ _ _ _ wu (zg yr (hr.mono (by decide)) rfl (za (pv 0) (za (@zj _ _ _ _) (@zb _)))) (@zw _ _ _ _ _ _ _ z0 (@vm _ _ _ _ (za (@zj _ _ _ _) (za (@zj _ _ _ _) (za (@zj _ _ _ _) (@zb _))))) (pv 7) (fun _ _ => rfl))) (@zj _ _ _ _)))) (@zk _ _ _ _ _ (z8 (i := 9) sc_law_hands.nd rfl (Or.inl rfl) (@vm _ _ _ _ (@zb _))) (@zk _ _ _ _ _ (xk PassesOwn.never rfl (yn rfl B.range (za (pv 8) (@zb _))) (zl (i := 10) sc_law_hands.nd rfl (Or.inl rfl)) (@zk _ _ _ _ _ (rf (kt PySem.F.plainAttrs_list PySem.F.slot_list_append PySem.F.type_list_append md (pv 9) (za (z7 ["j"] ["script", "places", "top", "many", "called", "hands", "spot", "k", "size", "worths", "t"] rfl (yn rfl B.range (za (pv 1) (@zb _))) (fun _ => (zl (i := 0) (show (["j", "script", "places", "top", "many", "called", "hands", "spot", "k", "size", "worths", "t"] : List Str).Nodup by decide +kernel) rfl (Or.inl rfl))) (fun _ => (@zt _)) (fun _ => (zg wj (hr.mono (by decide)) rfl (za (zg yr (hr.mono (by decide)) rfl (za (pv 1) (za (@zp _ _ _ _ _ _ _ _ xj (pv 7) (pv 0)) (@zb _)))) (za (pv 3) (@zb _))))) rfl (by decide +kernel) rfl rfl) (@zb _)))) (@zh _ _ _ (z8 (i := 6) sc_law_hands.nd rfl (Or.inr rfl) (@zp _ _ _ _ _ _ _ _ xj (pv 6) (pv 1)))))) (@zh _ _ _ (rf (kt PySem.F.plainAttrs_list PySem.F.slot_list_append PySem.F.type_list_append md (pv 5) (@za _ _ _ _ _ (@xw _ _ _ _ _ (@za _ _ _ _ _ (@zw _ _ _ _ _ _ _ z0 (pv 4) (pv 7) (fun _ _ => rfl)) (@za _ _ _ _ _ (zg vp (hr.mono (by decide)) rfl (@za _ _ _ _ _ (zg yr (hr.mono (by decide)) rfl (@za _ _ _ _ _ (pv 0) (@za _ _ _ _ _ (@zp _ _ _ _ _ _ _ _ xj (@zj _ _ _ _) (pv 7)) (@zb _) (yj nofun)) (yj nofun))) (@za _ _ _ _ _ (pv 8) (@zb _) (yj nofun)) (yj nofun))) (@za _ _ _ _ _ (pv 9) (@zb _) (yj nofun)) (yj nofun)) (yj nofun))) (@zb _) (yj nofun))))))))) (@zh _ _ _ (@zm _ _ _ _ (pv 5)))))))), ?_⟩;rw [show start ["script", "places", "top", "many", "called", "hands", "spot", "k", "size", "worths", "t"] [V.ref a, V.int n, V.int top] = [some (V.ref a), some (V.int n), some (V.int top), none, none, none, none, none, none, none, none] from rfl];simp only [ze, zd, ↓reduceIte];have hN := ul ns;have h0 := y9 (yb ns 0 / 4) (show (0 : Int) < 3 by decide);refine ⟨a, ns, 0, rfl, hS, ?_⟩;simp only [ze, zd, ↓reduceIte];refine ⟨⟨by decide, by decide⟩, by decide, ?_⟩;rw [show 1 + yb ns 0 / 4 % 3 = ((yw ns : Nat) : Int) by unfold yw; omega];refine ⟨a, ns, 6, rfl, hS, yb ns 6, 3, rfl, by decide, fun H1 cl S1 hcl hcl1 => ?_⟩;simp only [ze, zd, ↓reduceIte];refine ⟨by decide, fun b hb => ?_⟩;refine ⟨by omega, by omega, ?_⟩;rw [Zw];refine xt (PvHB a cl b ns n top H1) ⟨[], _, _, _, _, NewHands.nil (Same.refl _) hb, rfl⟩ ?_ ?_
    . rintro j σ H' hj ⟨xs, t1', t2', t3', t4', G, rfl⟩
      simp only [ze, zd, ↓reduceIte];have SA := S1.trans G.same;refine ⟨a, ns, 1, rfl, SA.seq hS, by decide, fun p1 hp1 => ?_⟩;have S2 : Same H' (upd H' p1 (.lst [V.int 1, V.int 3, V.int 9])) := Same.upd (Same.refl _) hp1;have hl2 : upd H' p1 (.lst [V.int 1, V.int 3, V.int 9]) p1 = some (.lst [V.int 1, V.int 3, V.int 9]) := zf;generalize upd H' p1 (.lst [V.int 1, V.int 3, V.int 9]) = H2 at *
      have hdiv : [V.int 1, V.int 3, V.int 9][j]? = some (V.int (([1, 3, 9] : List Int).getD j 0)) /\ 0 < ([1, 3, 9] : List Int).getD j 0 /\ ([1, 3, 9] : List Int).getD j 0 < 1073741824 := by
        have : ∀ k : _root_.Fin 3, [V.int 1, V.int 3, V.int 9][k.val]? = some (V.int (([1, 3, 9] : List Int).getD k.val 0)) /\ 0 < ([1, 3, 9] : List Int).getD k.val 0 /\ ([1, 3, 9] : List Int).getD k.val 0 < 1073741824 := by decide
        exact this ⟨j, by omega⟩
      refine ⟨_, .of hl2, _, ya hdiv.1, _, rfl, _, rfl, ⟨hdiv.2.1, hdiv.2.2⟩, by decide, by decide, fun g hg => ?_⟩;have hwN := sg ns j;have h3 := y9 (yb ns 1 / ([1, 3, 9] : List Int).getD j 0) (show (0 : Int) < 3 by decide);refine ⟨by omega, by omega, ?_⟩;rw [show (1 + yb ns 1 / ([1, 3, 9] : List Int).getD j 0 % 3).toNat = x8 ns j from rfl, show 1 + yb ns 1 / ([1, 3, 9] : List Int).getD j 0 % 3 = ((x8 ns j : Nat) : Int) by unfold x8; omega];have SB := SA.trans S2;have GG := G.more S2;refine xt (PvGB a cl b g ns n top H2 j) ⟨[], _, NewGrid.nil (Same.refl _) hg, by rw [Nat.zero_mul, Nat.add_zero]⟩ ?_ ?_
      . rintro m σ H5 hm ⟨gs, t4, NG, rfl⟩
        simp only [ze, zd, ↓reduceIte];have So : Same H H5 := SB.trans NG.same;refine ⟨.inl ⟨rfl, _, .of NG.at'⟩, by omega, by omega, fun d => ?_⟩;rw [Zw];refine xy (PvRB ns top H5 (x5 ns n j + m * n)) ⟨rfl, rfl⟩ ?_ ?_ ?_
        . rintro i ys H6 hi ⟨rfl, rfl⟩
          rw [Za, gj];exact Zd (show i <= 8 by omega) (by decide)
        . rintro i ys H6 hi ⟨rfl, rfl⟩
          simp only [ze, zd, ↓reduceIte];refine ⟨a, ns, x5 ns n j + m * n + i, ?_, So.seq hS, yb ns (x5 ns n j + m * n + i), top, rfl, t0, t1, rfl, ?_⟩
          . rw [show ((x5 ns n j + m * n : Nat) : Int) + (i : Int) = ((x5 ns n j + m * n + i : Nat) : Int) by omega]
          rw [zdw, Zn];rfl
        . rintro ys H6 ⟨rfl, rfl⟩ l hl
          have hgl : g ≠ l := y8 NG.at' hl;refine ⟨gs.map V.ref, by rw [zx hgl]; exact NG.at', ?_, ?_⟩
          . rw [Za, NG.lb]
            exact Zh hm (Zd hwN.2 (by decide))
          . have NG2 := NG.laid (c := l) (o := .lst ((rowB ns top (x5 ns n j + m * n) n).map V.int)) hl
            have NG3 := NG2.snoc (c := l) (ns := rowB ns top (x5 ns n j + m * n) n) (NG.same.free hl) zf (gj ..) (fun z => by
              obtain ⟨k, hk, e⟩ := Zy z;have e1 : gs[k]? = some l := by rw [<- e]; simp [hk]
              have hk2 : k < (vi ns top (x5 ns n j) n m).length := by rw [NG.lr, <- NG.lb]; exact hk
              have e2 : (vi ns top (x5 ns n j) n m)[k]? = some (vi ns top (x5 ns n j) n m)[k] := by simp [hk2]
              have := (NG.row k l _ e1 e2).1
              rw [hl] at this; cases this) (Ne.symm hgl)
            refine ⟨gs ++ [l], some (V.int (m : Nat)), ?_, ?_⟩
            . rw [zc4]
              exact NG3
            . rw [show ((x5 ns n j + m * n : Nat) : Int) + (n : Int) = ((x5 ns n j + (m + 1) * n : Nat) : Int) by rw [Nat.succ_mul]; omega]
      . rintro σ H5 ⟨gs, t4, NG, rfl⟩
        simp only [ze, zd, ↓reduceIte];have S5 := NG.same;have GH := GG.more S5;have hb5 := GH.at';have So : Same H H5 := SB.trans NG.same;have hcl5 : H5 cl = some (.lst ((yt (yb ns 6) 3).map V.str)) := (G.same.trans (S2.trans S5)) _ _ hcl1;refine ⟨.inl ⟨rfl, _, .of hb5⟩, _, .of hcl5, V.str (vd (yb ns 6) j), ?_, ?_⟩
        . refine ya ?_
          rw [Ze, yt, Ze, List.getElem?_range (show j < 3 by omega)];rfl
        refine ⟨a, ns, 3 + j, ?_, So.seq hS, ?_⟩
        . rw [show (3 : Int) + (j : Int) = ((3 + j : Nat) : Int) by omega]
        refine ⟨yb ns (3 + j), x8 ns j, rfl, by omega, fun H7 wl S7 hwl hwl7 => ⟨by decide, fun tt htt => ?_⟩⟩;have S8 : Same H7 (upd H7 tt (.tup [V.str (vd (yb ns 6) j), V.ref wl, V.ref g])) := Same.upd (Same.refl _) htt;have htt8 : upd H7 tt (.tup [V.str (vd (yb ns 6) j), V.ref wl, V.ref g]) tt = some (.tup [V.str (vd (yb ns 6) j), V.ref wl, V.ref g]) := zf;generalize upd H7 tt (.tup [V.str (vd (yb ns 6) j), V.ref wl, V.ref g]) = H8 at *;have S58 := S7.trans S8;have G7 := GH.more S7;have G8 := GH.more S58;have hb8 := G8.at';have hd : HandAt H8 ⟨tt, wl, g, gs⟩ (bt ns top n j) := ⟨htt8, S8 _ _ hwl7, S58 _ _ NG.at', by rw [NG.lb]; exact (cx ..).symm, fun i r ms e1 e2 => S58 _ _ (NG.row i r ms e1 e2).1⟩
        have h2 : ∀ y ∈ g :: gs, H2 y = none := fun y hy => by
          rcases ZK.mp hy with e | z
          . rw [e]; exact hg
          . exact NG.nr y z
        have S12 : Same H1 H2 := GG.same
        have h5 : ∀ y ∈ g :: gs, H5 y ≠ none := fun y hy => by
          rcases ZK.mp hy with e | z
          . rw [e, NG.at']; simp
          . obtain ⟨k, hk, e⟩ := Zy z
            have e1 : gs[k]? = some y := by rw [<- e]; simp [hk]
            have hk2 : k < (vi ns top (x5 ns n j) n (x8 ns j)).length := by rw [NG.lr, <- NG.lb]; exact hk
            have e2 : (vi ns top (x5 ns n j) n (x8 ns j))[k]? = some (vi ns top (x5 ns n j) n (x8 ns j))[k] := by simp [hk2]
            rw [(NG.row k y _ e1 e2).1]; simp
        have htt5 : H5 tt = none := S7.free htt;refine ⟨_, hb8, ?_, ?_⟩
        . rw [Za, G.len, wa, Za, ZN]
          exact Zh (show j < 3 by omega) (by decide)
        refine ⟨xs ++ [⟨tt, wl, g, gs⟩], _, _, _, _, ?_, rfl⟩;rw [za0];refine G8.snoc hd (fun y hy => ?_) ?_ (fun y hy => ?_) ?_
        . rcases ZK.mp hy with e | hy
          . rw [e]; exact (S12.trans S5).free htt5
          rcases ZK.mp hy with e | hy
          . rw [e]; exact (S12.trans S5).free hwl
          . exact S12.free (h2 y hy)
        . refine ZV.mpr ⟨fun z => ?_, ZV.mpr ⟨fun z => h5 _ z hwl, ZV.mpr ⟨NG.ne, NG.nd⟩⟩⟩
          rcases ZK.mp (show tt ∈ wl :: g :: gs from z) with e | z
          . rw [e, hwl7] at htt; cases htt
          . exact h5 _ z htt5
        . intro hz
          rcases ZK.mp hy with e | hy
          . rw [e] at hz; exact G7.old _ hz htt
          rcases ZK.mp hy with e | hy
          . rw [e] at hz; exact GH.old _ hz hwl
          . exact GG.old _ hz (h2 y hy)
        . intro hz
          rcases ZK.mp (show b ∈ tt :: wl :: g :: gs from hz) with e | hz
          . rw [<- e, G7.at'] at htt; cases htt
          rcases ZK.mp hz with e | hz
          . rw [<- e, GH.at'] at hwl; cases hwl
          . have := h2 _ hz
            rw [GG.at'] at this; cases this
    . rintro σ H' ⟨xs, t1', t2', t3', t4', G, rfl⟩
      simp only [ze, zd, ↓reduceIte];exact q H' b xs (G.from S1)
end
def yh (d : HD) (z : Str) : List Int := d.worths.getD (d.words.idxOf z) []
def qg (d : HD) (wt : Int) (z : Str) : List Int := (yh d z).map fun n => wt * n
def y0 (ds : List HD) (ws : List Int) (r : List Str) (i : Nat) : List Int := match ds[i]?, ws[i]?, r[i]? with
  | some d, some w, some z => qg d w z
  | _, _, _ => []
def yf (ds : List HD) (ws : List Int) (r : List Str) (n : Nat) : List (List Int) := (List.range n).map (y0 ds ws r)
def yu (hc : List Int) (ps : List (List Int)) : List Int := ps.foldl (fun t p => List.zipWith (· + ·) t p) hc
theorem ky (ds : List HD) (ws : List Int) (r : List Str) (n : Nat) : (yf ds ws r n).length = n := by rw [yf, Za, ZN]
theorem zbm (ds : List HD) (ws : List Int) (r : List Str) (n : Nat) : yf ds ws r (n + 1) = yf ds ws r n ++ [y0 ds ws r n] := by rw [yf, ZX, Zn]; rfl
theorem za6 (hc : List Int) (ps : List (List Int)) (p : List Int) : yu hc (ps ++ [p]) = List.zipWith (· + ·) (yu hc ps) p := by rw [yu, List.foldl_append]; rfl
theorem s9 {n : Nat} : ∀ (ps : List (List Int)) (hc : List Int), hc.length = n -> (∀ p ∈ ps, p.length = n) -> (yu hc ps).length = n
  | [], hc, h, _ => h
  | p :: ps, hc, h, hp => by
    refine s9 ps _ ?_ fun q hq => hp q (Zv _ hq)
    rw [ZT, h, hp p ZA, YD]
theorem b6 : ∀ {zs : List Str} {m : Nat} {z : Str}, zs[m]? = some z -> zs.idxOf z <= m
  | [], m, z, h => by simp at h
  | y :: zs, 0, z, h => by
    simp at h;subst h;simp
  | y :: zs, m + 1, z, h => by
    rw [List.idxOf_cons]
    cases y == z with
    | true => exact ZE _
    | false => exact Yx (b6 (by simpa using h))
theorem zbu (y z : Str) : eqV (V.str y) (V.str z) = decide (y = z) := rfl
theorem jn {zs : List Str} {z : Str} (h : z ∈ zs) : FirstAt (zs.map V.str) (V.str z) (zs.idxOf z) := by
  have hl := Zz.mpr h;refine ⟨rfl, ?_, ⟨V.str z, ?_, ?_⟩, fun m y hm e => ?_⟩
  . rw [ZQ]
    intro x hx;obtain ⟨y, _, rfl⟩ := Zp.mp hx;rfl
  . rw [Ze, Zb hl, Yq]
    rfl
  . rw [zbu]
    exact decide_eq_true rfl
  . rw [Ze] at e
    have hml : m < zs.length := by omega
    rw [Zb hml] at e;cases e;rw [zbu, decide_eq_false];intro ez;have := Zz.mpr h
    have hle : zs.idxOf z <= m := by
      exact b6 (by rw [Zb hml, ez])
    omega
def nu (ds : List HD) (r : List Str) : Prop := r.length = ds.length /\ ∀ (i : Nat) (d : HD) (z : Str), ds[i]? = some d -> r[i]? = some z -> z ∈ d.words
def e8 (K : Fg) : Sp := fun vs H Q _ => ∃ (t : Addr) (d : HD) (w g : Addr) (gs : List Addr) (z : Str), vs = [.ref t, .str z] /\ HHand H t d w g gs /\ z ∈ d.words /\ d.worths.length = d.words.length /\ ∀ r, H r = some (.tup ((yh d z).map V.int)) -> Q (.ref r) H
def zfe (K : Fg) : Sp := fun vs H Q _ => ∃ (t : Addr) (d : HD) (w g : Addr) (gs : List Addr) (wt : Int) (z : Str), vs = [.ref t, .int wt, .str z] /\ HHand H t d w g gs /\ z ∈ d.words /\ d.worths.length = d.words.length /\ (∀ r ∈ d.worths, r.length <= 8) /\ y4 wt /\ (∀ r ∈ d.worths, ∀ i ∈ r, y4 i) /\ ∀ H' l, Same H H' -> H' l = some (.lst ((qg d wt z).map V.int)) -> Q (.ref l) H'
def PvPart (H : Hp) (wt : Int) (ns : List Int) (i : Nat) (ys : List V) (H' : Hp) : Prop := H' = H /\ ys = ((ns.take i).map fun n => wt * n).map V.int
structure IntsAt (H : Hp) (ls : List Addr) (ps : List (List Int)) : Prop where
  len : ls.length = ps.length
  at' : ∀ (i : Nat) (l : Addr) (p : List Int), ls[i]? = some l -> ps[i]? = some p -> H l = some (.lst (p.map V.int))
theorem IntsAt.mono {H H' : Hp} {ls : List Addr} {ps : List (List Int)} (S : Same H H') (h : IntsAt H ls ps) : IntsAt H' ls ps := ⟨h.len, fun i l p e1 e2 => S _ _ (h.at' i l p e1 e2)⟩
theorem IntsAt.snoc {H : Hp} {ls : List Addr} {ps : List (List Int)} {l : Addr} {p : List Int} (h : IntsAt H ls ps) (hl : H l = some (.lst (p.map V.int))) : IntsAt H (ls ++ [l]) (ps ++ [p]) := by
  refine ⟨by simp [h.len], fun i a q e1 e2 => ?_⟩
  by_cases hi : i < ls.length
  . rw [Zg hi] at e1
    rw [Zg (by rw [<- h.len]; exact hi)] at e2;exact h.at' i a q e1 e2
  . rw [Zf (ZD.mp hi)] at e1
    rw [Zf (by rw [<- h.len]; exact ZD.mp hi)] at e2
    have h0 : i - ls.length = 0 := by
      have := (Zc.mp e1).1;simp at this;omega
    rw [h0] at e1;rw [<- h.len, h0] at e2;simp at e1 e2;subst e1 e2;exact hl
def jo (K : Fg) : Sp := fun vs H Q _ => ∃ (p o h l r : Addr) (hs : List Addr) (outs : List Str) (ds : List HD) (ws : List Int) (row : List Str), vs = [.ref p, .ref l, .ref r] /\ HHouse H p o h hs outs ds /\ GoodHouse outs ds /\ H l = some (.lst (ws.map V.int)) /\ ws.length = ds.length /\ (∀ i ∈ ws, y4 i /\ 1 <= i) /\ SqT K H r (row.map V.str) /\ nu ds row /\
  ∀ H' l' ls, Same H H' -> H' l' = some (.lst (ls.map V.ref)) -> IntsAt H' ls (yf ds ws row ds.length) -> Q (.ref l') H'
def zgs (H : Hp) (ds : List HD) (ws : List Int) (row : List Str) (i : Nat) (ys : List V) (H' : Hp) : Prop := Same H H' /\ ∃ ls : List Addr, ys = ls.map V.ref /\ IntsAt H' ls (yf ds ws row i)
def cr (K : Fg) : Sp := fun vs H Q _ => ∃ (p o h l m : Addr) (hs : List Addr) (outs : List Str) (ds : List HD) (ws hc : List Int), vs = [.ref p, .ref l, .ref m] /\ HHouse H p o h hs outs ds /\ GoodHouse outs ds /\ H l = some (.lst (ws.map V.int)) /\ ws.length = ds.length /\ (∀ i ∈ ws, y4 i /\ 1 <= i) /\ H m = some (.lst (hc.map V.int)) /\ hc.length = outs.length /\ (∀ i ∈ hc, y4 i) /\ ∀ H', Same H H' -> Q .non H'
def zd9 (K : Fg) : Sp := fun vs H Q _ => ∃ (p o h l : Addr) (hs : List Addr) (outs : List Str) (ds : List HD) (ws : List Int), vs = [.ref p, .ref l] /\ HHouse H p o h hs outs ds /\ GoodHouse outs ds /\ H l = some (.lst (ws.map V.int)) /\ ws.length = ds.length /\ (∀ i ∈ ws, y4 i /\ 1 <= i) /\ ∀ H', Same H H' -> Q (.bl true) H'
def zd6 (K : Fg) : Sp := fun vs H Q _ => ∃ (p o h m : Addr) (hs : List Addr) (outs : List Str) (ds : List HD) (hc : List Int), vs = [.ref p, .ref m] /\ HHouse H p o h hs outs ds /\ GoodHouse outs ds /\ H m = some (.lst (hc.map V.int)) /\ hc.length = outs.length /\ (∀ i ∈ hc, y4 i) /\ ∀ H', Same H H' -> Q (.bl true) H'
def ge (K : Fg) : Sp := fun vs H Q _ => ∃ (p o h l m r : Addr) (hs : List Addr) (outs : List Str) (ds : List HD) (ws hc : List Int) (row : List Str), vs = [.ref p, .ref l, .ref m, .ref r] /\ HHouse H p o h hs outs ds /\ GoodHouse outs ds /\ H l = some (.lst (ws.map V.int)) /\ ws.length = ds.length /\ (∀ i ∈ ws, y4 i /\ 1 <= i) /\ H m = some (.lst (hc.map V.int)) /\ hc.length = outs.length /\ (∀ i ∈ hc, y4 i) /\ SqT K H r (row.map V.str) /\ nu ds row /\
  ∀ H' l', Same H H' -> H l' = none -> H' l' = some (.lst ((yu hc (yf ds ws row ds.length)).map V.int)) -> Q (.ref l') H'
def PvSc (p l m r lp : Addr) (H0 H : Hp) (ls : List Addr) (ps : List (List Int)) (hc : List Int) (i : Nat) (σ : L2.St) (H' : Hp) : Prop := Same H H' /\ ∃ (t : Addr) (v : Option V), H0 t = none /\ H' t = some (.lst ((yu hc (ps.take i)).map V.int)) /\ σ = [some (.ref p), some (.ref l), some (.ref m), some (.ref r), some (.ref t), v]
def PvZw (H : Hp) (as bs : List Int) (i : Nat) (ys : List V) (H' : Hp) : Prop := Same H H' /\ ys = (List.zipWith (· + ·) (as.take i) (bs.take i)).map V.int
theorem zg2 {as bs : List Int} {i : Nat} {x y : Int} (h1 : as[i]? = some x) (h2 : bs[i]? = some y) : List.zipWith (· + ·) (as.take (i + 1)) (bs.take (i + 1)) = List.zipWith (· + ·) (as.take i) (bs.take i) ++ [x + y] := by
  have hl1 := (Zc.mp h1).1;have hl2 := (Zc.mp h2).1;rw [Zq, Zq, h1, h2];exact List.zipWith_append (by rw [Zj, Zj]; omega)
theorem sy {outs : List Str} {ds : List HD} (G : GoodHouse outs ds) {ws : List Int} {row : List Str} (lw : ws.length = ds.length) (R : nu ds row) {i : Nat} (hi : i < ds.length) : (y0 ds ws row i).length = outs.length := by
  have e1 : ds[i]? = some ds[i] := Zb hi;have e2 : ws[i]? = some (ws[i]'(by omega)) := Zb (by omega);have e3 : row[i]? = some (row[i]'(by rw [R.1]; exact hi)) := Zb (by rw [R.1]; exact hi);have hz := R.2 i _ _ e1 e3;have hm := Zl hi;unfold y0;rw [e1, e2, e3]
  show (qg _ _ _).length = _
  rw [qg, Za];have hx := Zz.mpr hz;have hr : (ds[i]).words.idxOf (row[i]'(by rw [R.1]; exact hi)) < (ds[i]).worths.length := by rw [G.rows _ hm]; exact hx
  rw [yh, Zk, Zb hr];exact G.cols _ hm _ (Zl hr)
section
variable {P : Program} {w : World} {K : Fg} {mg : Str -> Option Value} {base : Heap} {a : Ad}
theorem cy (D : zc K mg "outcomes_of" uy ["house"]) : FnAt P w K mg base "outcomes_of" 1 ["house"] (wz K 0) := by
  refine FnAt.of D dk (fun vs H Q E h => ?_) (fun f cdv A outer s H vs Q E hr h => ?_)
  . obtain ⟨t, us, v, rfl, _⟩ := h
    rfl
  . obtain ⟨t, us, v, rfl, ht, e, q⟩ := h
    refine ⟨_, (@zh _ _ _ (@zm _ _ _ _ (@zw _ _ _ _ _ _ _ yq (pv 0) (@zj _ _ _ _) (fun _ _ => rfl)))), ?_⟩;rw [show start ["house"] [V.ref t] = [some (V.ref t)] from rfl];simp only [ze, zd, ↓reduceIte];exact ⟨_, ht, _, ya (j := 0) e, q⟩
theorem gp (D : zc K mg "worths_of_hand" wf ["hand"]) : FnAt P w K mg base "worths_of_hand" 1 ["hand"] (wz K 2) := by
  refine FnAt.of D q8 (fun vs H Q E h => ?_) (fun f cdv A outer s H vs Q E hr h => ?_)
  . obtain ⟨t, us, v, rfl, _⟩ := h
    rfl
  . obtain ⟨t, us, v, rfl, ht, e, q⟩ := h
    refine ⟨_, (@zh _ _ _ (@zm _ _ _ _ (@zw _ _ _ _ _ _ _ yq (pv 0) (@zj _ _ _ _) (fun _ _ => rfl)))), ?_⟩;rw [show start ["hand"] [V.ref t] = [some (V.ref t)] from rfl];simp only [ze, zd, ↓reduceIte];exact ⟨_, ht, _, ya (j := 2) e, q⟩
theorem mt (yl : FnAt P w K mg base "words_of_hand" 1 ["hand"] (wz K 1)) (xn : FnAt P w K mg base "worths_of_hand" 1 ["hand"] (wz K 2)) (D : zc K mg "worths_by" qd ["hand", "word"]) : FnAt P w K mg base "worths_by" 2 ["hand", "word"] (e8 K) := by
  refine FnAt.of D aa (fun vs H Q E h => ?_) (fun f cdv A outer s H vs Q E hr h => ?_)
  . obtain ⟨t, d, wd, g, gs, z, rfl, _⟩ := h
    rfl
  . obtain ⟨t, d, wd, g, gs, z, rfl, hK, hz, hl, q⟩ := h
    refine ⟨_, (@zh _ _ _ (@zm _ _ _ _ (@zw _ _ _ _ _ _ _ yq (zg xn (hr.mono (by decide)) rfl (za (pv 0) (@zb _))) (zeg PySem.F.plainAttrs_tuple PySem.F.slot_tuple_index PySem.F.type_tuple_index cm (zg yl (hr.mono (by decide)) rfl (za (pv 0) (@zb _))) (za (pv 1) (@zb _))) (fun _ _ => rfl)))), ?_⟩;rw [show start ["hand", "word"] [V.ref t, V.str z] = [some (V.ref t), some (V.str z)] from rfl];simp only [ze, zd, ↓reduceIte];have hx := Zz.mpr hz;have hr : d.words.idxOf z < d.worths.length := by rw [hl]; exact hx
    obtain ⟨r, er⟩ : ∃ r, gs[d.words.idxOf z]? = some r := ⟨gs[d.words.idxOf z]'(by rw [hK.len]; exact hr), by simp⟩;have hrow := hK.row _ r _ er (Zb hr);refine ⟨t, _, _, rfl, .of hK.tup, rfl, t, _, _, rfl, .of hK.tup, rfl, ?_⟩;refine ⟨⟨wd, rfl, _, .of hK.words⟩, wd, rfl, _, .of hK.words, _, jn hz, g, rfl, _, .of hK.grid, _, ya (v := V.ref r) (by rw [Ze, er]; rfl), q r ?_⟩;rw [yh, Zk, Zb hr];exact hrow
theorem zam {d : HD} {z : Str} (h : ∀ r ∈ d.worths, r.length <= 8) : (yh d z).length <= 8 := by
  rw [yh, Zk]
  cases e : d.worths[d.words.idxOf z]? with
  | none => exact ZE _
  | some r => exact h r (Zi e)
theorem jf (mt : FnAt P w K mg base "worths_by" 2 ["hand", "word"] (e8 K)) (D : zc K mg "part_of" ma ["hand", "weight", "word"]) : FnAt P w K mg base "part_of" 3 ["hand", "weight", "word"] (zfe K) := by
  refine FnAt.of D zdo (fun vs H Q E h => ?_) (fun f cdv A outer s H vs Q E hr h => ?_)
  . obtain ⟨t, d, wd, g, gs, wt, z, rfl, _⟩ := h
    rfl
  . obtain ⟨t, d, wd, g, gs, wt, z, rfl, hK, hz, hl, h8, hwt, hwn, q⟩ := h
    have hlen := zam (z := z) h8;refine ⟨_, (@zh _ _ _ (@zm _ _ _ _ (z7 ["worth"] ["hand", "weight", "word"] rfl (@ju _ _ _ _ (zg mt (hr.mono (by decide)) rfl (za (pv 0) (za (pv 2) (@zb _))))) (fun _ => (zl (i := 0) (show (["worth", "hand", "weight", "word"] : List Str).Nodup by decide +kernel) rfl (Or.inl rfl))) (fun _ => (@zt _)) (fun _ => (@zp _ _ _ _ _ _ _ _ j3 (pv 2) (pv 0))) rfl (by decide +kernel) rfl rfl))), ?_⟩;rw [show start ["hand", "weight", "word"] [V.ref t, V.int wt, V.str z] = [some (V.ref t), some (V.int wt), some (V.str z)] from rfl];simp only [ze, zd, ↓reduceIte];refine ⟨t, d, wd, g, gs, z, rfl, hK, hz, hl, fun r hrr => ⟨r, rfl, ⟨_, .of hrr⟩, fun dd => ?_⟩⟩;refine kc (xs := (yh d z).map V.int) (PvPart H wt (yh d z)) ⟨rfl, rfl⟩ ?_ ?_ ?_
    . rintro i ys H2 hi ⟨rfl, rfl⟩
      refine ⟨?_, .of hrr⟩;rw [Za, Za, Zj];exact Zd (ZB _ _) (Zd hlen (by decide))
    . rintro i y ys H2 hy ⟨rfl, rfl⟩
      obtain ⟨x, hx, rfl⟩ := yd hy;simp only [ze, zd, ↓reduceIte]
      have hgx : y4 x := by
        have hm := Zi hx;rw [yh, Zk] at hm
        cases e : d.worths[d.words.idxOf z]? with
        | none => rw [e] at hm; cases hm
        | some r => rw [e] at hm; exact hwn r (Zi e) x hm
      refine ⟨⟨⟨by have := hwt.1; omega, by have := hwt.2; omega⟩, by have := hgx.1; omega, by have := hgx.2; omega⟩, rfl, ?_⟩;rw [Zq, hx, Zn, Zn];rfl
    . rintro ys H2 ⟨rfl, rfl⟩ l hll
      rw [Za, Zt];exact q _ l (Same.upd (Same.refl _) hll) zf
theorem t7 (B : Bt mg) (f_hands_of : FnAt P w K mg base "hands_of" 1 ["house"] (wz K 1)) (jf : FnAt P w K mg base "part_of" 3 ["hand", "weight", "word"] (zfe K)) (D : zc K mg "parts_of" px ["house", "weights", "row"]) : FnAt P w K mg base "parts_of" 4 ["house", "weights", "row"] (jo K) := by
  refine FnAt.of D zbg (fun vs H Q E h => ?_) (fun f cdv A outer s H vs Q E hr h => ?_)
  . obtain ⟨p, o, h, l, r, hs, outs, ds, ws, row, rfl, _⟩ := h
    rfl
  . obtain ⟨p, o, h, l, r, hs, outs, ds, ws, row, rfl, hH, G, hw, lw, gw, hrow, R, q⟩ := h
    refine ⟨_, (@zh _ _ _ (@zm _ _ _ _ (z7 ["hand", "weight", "word"] ["house", "weights", "row"] rfl (zhe rfl B.zip (za (zg f_hands_of (hr.mono (by decide)) rfl (za (pv 0) (@zb _))) (za (pv 1) (za (pv 2) (@zb _))))) (fun _ => (qo rfl (y6 (zl (i := 0) (show (["hand", "weight", "word", "house", "weights", "row"] : List Str).Nodup by decide +kernel) rfl (Or.inl rfl)) (y6 (zl (i := 1) (show (["hand", "weight", "word", "house", "weights", "row"] : List Str).Nodup by decide +kernel) rfl (Or.inl rfl)) (y6 (zl (i := 2) (show (["hand", "weight", "word", "house", "weights", "row"] : List Str).Nodup by decide +kernel) rfl (Or.inl rfl)) (@t6 _)))))) (fun _ => (@zt _)) (fun _ => (zg jf (hr.mono (by decide)) rfl (za (pv 0) (za (pv 1) (za (pv 2) (@zb _)))))) rfl (by decide +kernel) rfl rfl))), ?_⟩;rw [show start ["house", "weights", "row"] [V.ref p, V.ref l, V.ref r] = [some (V.ref p), some (V.ref l), some (V.ref r)] from rfl];simp only [ze, zd, ↓reduceIte];have h4 := G.hands.2;refine ⟨p, _, _, rfl, .of hH.tup, rfl, h, rfl, ?_⟩
    have all : ∀ H', Same H H' -> uj K H' [h, l, r] [hs.map V.ref, ws.map V.int, row.map V.str] := fun H' S => ⟨rfl, fun j a xs e1 e2 => by
      match j with
      | 0 => simp at e1 e2; subst e1 e2; exact .inr (.of (S _ _ hH.hands))
      | 1 => simp at e1 e2; subst e1 e2; exact .inl (.of (S _ _ hw))
      | 2 => simp at e1 e2; subst e1 e2; exact .inr (S.seqT hrow)
      | j + 3 => simp at e1⟩
    refine ⟨⟨_, all H (Same.refl _)⟩, fun dd => ?_⟩;refine zdy (xss := [hs.map V.ref, ws.map V.int, row.map V.str]) (n := ds.length) (zgs H ds ws row) ⟨Same.refl _, [], rfl, rfl, fun i l p e => by simp at e⟩ (fun xs hx => ?_) ⟨hs.map V.ref, by simp, by rw [Za]; exact hH.hand.1⟩ ?_ ?_ ?_
    . simp only [ZK, Zx, or_false] at hx
      rcases hx with rfl | rfl | rfl
      . rw [Za, hH.hand.1]; exact Zm _
      . rw [Za, lw]; exact Zm _
      . rw [Za, R.1]; exact Zm _
    . rintro i ys H2 hi ⟨S, ls, rfl, hI⟩
      refine ⟨?_, all H2 S⟩;rw [Za, hI.len, ky];exact Zd hi (Zd h4 (by decide))
    . rintro i vs ys H2 T hi lv hv hT ⟨S, ls, rfl, hI⟩
      have e0 := hv 0 _ rfl;have e1 := hv 1 _ rfl;have e2 := hv 2 _ rfl;have hd : ds[i]? = some ds[i] := Zb hi;obtain ⟨t, ht⟩ : ∃ t, hs[i]? = some t := ⟨hs[i]'(by rw [hH.hand.1]; exact hi), by simp⟩;obtain ⟨wt, hwt⟩ : ∃ t, ws[i]? = some t := ⟨ws[i]'(by rw [lw]; exact hi), by simp⟩;obtain ⟨z, hz⟩ : ∃ t, row[i]? = some t := ⟨row[i]'(by rw [R.1]; exact hi), by simp⟩;rw [Ze, ht] at e0;rw [Ze, hwt] at e1;rw [Ze, hz] at e2
      have ev : vs = [V.ref t, V.int wt, V.str z] := by
        match vs, lv with
        | [x, y, u], _ =>
          simp at e0 e1 e2;rw [<- e0, <- e1, <- e2]
      subst ev;have S1 : Same H2 (upd H2 T (.tup [V.ref t, V.int wt, V.str z])) := Same.upd (Same.refl _) hT;simp only [ze, zd, ↓reduceIte];refine ⟨_, .of zf, rfl, ?_⟩;generalize upd H2 T (.tup [V.ref t, V.int wt, V.str z]) = H3 at *;simp only [ze, zd, ↓reduceIte];obtain ⟨wd, g, gs, hk⟩ := (hH.hand.mono (S.trans S1)).2 i t _ ht hd;have hm := Zl hi;have hG := G.hand hm;have ho8 := G.outs1.2;refine ⟨t, ds[i], wd, g, gs, wt, z, rfl, hk, R.2 i _ z hd hz, hG.rows, fun r' hr' => by rw [(hG.cols r' hr').1]; exact ho8, (gw wt (Zi hwt)).1, fun r' hr' => (hG.cols r' hr').2, fun H4 l4 S4 hl4 => ?_⟩;refine ⟨S.trans (S1.trans S4), ls ++ [l4], by simp, ?_⟩;rw [zbm];refine (hI.mono (S1.trans S4)).snoc ?_;rw [hl4, y0, hd, hwt, hz]
    . rintro ys H2 ⟨S, ls, rfl, hI⟩ l2 hl2
      exact q _ l2 ls (S.trans (Same.upd (Same.refl _) hl2)) zf (hI.mono (Same.upd (Same.refl _) hl2))
theorem rb (B : Bt mg) (f_outcomes_of : FnAt P w K mg base "outcomes_of" 1 ["house"] (wz K 0)) (x9 : FnAt P w K mg base "is_grid_row" 3 ["thing", "width"] qRow) (D : zc K mg "are_handicaps" vz ["house", "thing"]) : FnAt P w K mg base "are_handicaps" 4 ["house", "thing"] (zd6 K) := by
  refine FnAt.of D gu (fun vs H Q E h => ?_) (fun f cdv A outer s H vs Q E hr h => ?_)
  . obtain ⟨p, o, h, m, hs, outs, ds, hc, rfl, _⟩ := h
    rfl
  . obtain ⟨p, o, h, m, hs, outs, ds, hc, rfl, hH, G, hm, lh, gh, q⟩ := h
    refine ⟨_, (@zh _ _ _ (@zm _ _ _ _ (zg x9 (hr.mono (by decide)) rfl (za (pv 1) (za (zq zr rfl B.len yk (za (zg f_outcomes_of (hr.mono (by decide)) rfl (za (pv 0) (@zb _))) (@zb _))) (@zb _)))))), ?_⟩;rw [show start ["house", "thing"] [V.ref p, V.ref m] = [some (V.ref p), some (V.ref m)] from rfl];simp only [ze, zd, ↓reduceIte];refine ⟨p, _, _, rfl, .of hH.tup, rfl, o, rfl, _, .inr (.of hH.outs), ?_⟩;rw [Za];exact ⟨m, hc, outs.length, rfl, hm, lh, G.outs1.2, gh, q⟩
theorem qr (B : Bt mg) (f_hands_of : FnAt P w K mg base "hands_of" 1 ["house"] (wz K 1)) (x9 : FnAt P w K mg base "is_grid_row" 3 ["thing", "width"] qRow) (D : zc K mg "are_weights" ux ["house", "thing"]) : FnAt P w K mg base "are_weights" 4 ["house", "thing"] (zd9 K) := by
  refine FnAt.of D du (fun vs H Q E h => ?_) (fun f cdv A outer s H vs Q E hr h => ?_)
  . obtain ⟨p, o, h, l, hs, outs, ds, ws, rfl, _⟩ := h
    rfl
  . obtain ⟨p, o, h, l, hs, outs, ds, ws, rfl, hH, G, hl, lw, gw, q⟩ := h
    refine ⟨_, (@zh _ _ _ (@zm _ _ _ _ (@oy _ _ _ _ _ _ _ (zg x9 (hr.mono (by decide)) rfl (za (pv 1) (za (zq zr rfl B.len yk (za (zg f_hands_of (hr.mono (by decide)) rfl (za (pv 0) (@zb _))) (@zb _))) (@zb _)))) (@lj _ _ _ _ _ (zq (tu rfl) rfl B.all my (za (z7 ["weight"] ["house", "thing"] rfl (@z9 _ _ _ _ (pv 1)) (fun _ => (zl (i := 0) (show (["weight", "house", "thing"] : List Str).Nodup by decide +kernel) rfl (Or.inl rfl))) (fun _ => (@zt _)) (fun _ => (@lc _ _ _ _ _ _ _ _ op_ge (pv 0) (@zj _ _ _ _) (yx _))) rfl (by decide +kernel) rfl rfl) (@zb _))))))), ?_⟩;rw [show start ["house", "thing"] [V.ref p, V.ref l] = [some (V.ref p), some (V.ref l)] from rfl];simp only [ze, zd, ↓reduceIte];have h4 := G.hands.2;refine ⟨p, _, _, rfl, .of hH.tup, rfl, h, rfl, _, .inr (.of hH.hands), ?_⟩;rw [Za, hH.hand.1];refine ⟨l, ws, ds.length, rfl, hl, lw, by omega, fun i hi => (gw i hi).1, fun H1 S1 => ?_⟩;have hl1 := S1 _ _ hl;refine ⟨_, rfl, iteT ⟨⟨_, .of hl1⟩, fun d => ?_⟩⟩;refine zz (xs := ws.map V.int) (PvAT H1) ⟨Same.refl _, rfl⟩ ?_ ?_ ?_
    . rintro i ys H2 hi ⟨S, rfl⟩
      rw [Za] at hi;exact ⟨by rw [rm]; exact Zd hi (Zd (show ws.length <= 8 by omega) (by decide)), S.seq (.of hl1)⟩
    . rintro i x ys H2 hx ⟨S, rfl⟩
      obtain ⟨y, hy, rfl⟩ := yd hx;simp only [ze, zd, ↓reduceIte];have := (gw y (Zi hy)).2;rw [decide_eq_true (show y ≥ 1 from this)];exact ⟨S, tw i⟩
    . rintro ys H2 ⟨S, rfl⟩ l2 hl2
      refine ⟨_, .of zf, ?_⟩;rw [ri];exact q _ (S1.trans (S.trans (Same.upd (Same.refl _) hl2)))
theorem tj (B : Bt mg) (C : Ct K mg a) (qr : FnAt P w K mg base "are_weights" 4 ["house", "thing"] (zd9 K)) (rb : FnAt P w K mg base "are_handicaps" 4 ["house", "thing"] (zd6 K)) (D : zc K mg "refuse_weights" vf ["house", "weights", "handicaps"]) : FnAtX P w K mg base "refuse_weights" 5 ["house", "weights", "handicaps"] (cr K) := by
  refine FnAtX.of D ig (fun vs H Q E h => ?_) (fun f cdv A outer s H vs Q E hr h => ?_)
  . obtain ⟨p, o, h, l, m, hs, outs, ds, ws, hc, rfl, _⟩ := h
    rfl
  . obtain ⟨p, o, h, l, m, hs, outs, ds, ws, hc, rfl, hH, G, hl, lw, gw, hm, lh, gh, q⟩ := h
    refine ⟨_, (@zk _ _ _ _ _ (@xl _ _ _ _ _ _ _ _ (@wg _ _ _ _ (w4 (zg qr (hr.mono (by decide)) rfl (za (pv 0) (za (pv 1) (@zb _)))))) (@zh _ _ _ (kj rfl C.q_NoWeight.toErr rfl C.m_NoWeight (qc rfl) (za (@oq _ _ _ _) (@zb _)))) (@yi _)) (@zh _ _ _ (@xl _ _ _ _ _ _ _ _ (@wg _ _ _ _ (w4 (zg rb (hr.mono (by decide)) rfl (za (pv 0) (za (pv 2) (@zb _)))))) (@zh _ _ _ (kj rfl C.q_NoWeight.toErr rfl C.m_NoWeight (qc rfl) (za (@oq _ _ _ _) (@zb _)))) (@yi _)))), ?_⟩;rw [show start ["house", "weights", "handicaps"] [V.ref p, V.ref l, V.ref m] = [some (V.ref p), some (V.ref l), some (V.ref m)] from rfl];simp only [ze, zd, ↓reduceIte];refine ⟨p, o, h, l, hs, outs, ds, ws, rfl, hH, G, hl, lw, gw, fun H1 S1 => ?_⟩;refine ⟨true, rfl, iteF ⟨p, o, h, m, hs, outs, ds, hc, rfl, hH.mono S1, G, S1 _ _ hm, lh, gh, fun H2 S2 => ?_⟩⟩;exact ⟨true, rfl, iteF (q H2 (S1.trans S2))⟩
theorem o9 (B : Bt mg) (C : Ct K mg a) (tj : FnAtX P w K mg base "refuse_weights" 5 ["house", "weights", "handicaps"] (cr K)) (t7 : FnAt P w K mg base "parts_of" 4 ["house", "weights", "row"] (jo K)) (D : zc K mg "scores" kg ["house", "weights", "handicaps", "row"]) : FnAtX P w K mg base "scores" 6 ["house", "weights", "handicaps", "row"] (ge K) := by
  refine FnAtX.of D sc_scores (fun vs H Q E h => ?_) (fun f cdv A outer s H vs Q E hr h => ?_)
  . obtain ⟨p, o, h, l, m, r, hs, outs, ds, ws, hc, row, rfl, _⟩ := h
    rfl
  . obtain ⟨p, o, h, l, m, r, hs, outs, ds, ws, hc, row, rfl, hH, G, hl, lw, gw, hm, lh, gh, hrow, R, q⟩ := h
    refine ⟨_, (@zk _ _ _ _ _ (rf (gm tj (hr.mono (by decide)) (k7 rfl) rfl (za (pv 0) (za (pv 1) (za (pv 2) (@zb _)))))) (@zk _ _ _ _ _ (PS.nox (z8 (i := 4) sc_scores.nd rfl (Or.inl rfl) (wy na rfl B.list rk (za (pv 2) (@zb _))))) (@zk _ _ _ _ _ (PS.nox (xk PassesOwn.never rfl (@z9 _ _ _ _ (zg t7 (hr.mono (by decide)) rfl (za (pv 0) (za (pv 1) (za (pv 3) (@zb _)))))) (zl (i := 5) sc_scores.nd rfl (Or.inl rfl)) (@zh _ _ _ (va (i := 4) ["total", "number"] ["house", "weights", "handicaps", "row", "totals", "part"] sc_scores.nd rfl rfl rfl (a8 rfl B.zip (za (pv 4) (za (pv 5) (@zb _)))) (fun _ => (qo rfl (y6 (zl (i := 0) (show (["total", "number", "house", "weights", "handicaps", "row", "totals", "part"] : List Str).Nodup by decide +kernel) rfl (Or.inl rfl)) (y6 (zl (i := 1) (show (["total", "number", "house", "weights", "handicaps", "row", "totals", "part"] : List Str).Nodup by decide +kernel) rfl (Or.inl rfl)) (@t6 _))))) (fun _ => (@zt _)) (fun _ => (@zp _ _ _ _ _ _ _ _ xj (pv 0) (pv 1))) rfl (by decide +kernel) rfl rfl rfl)))) (@zh _ _ _ (PS.nox (@zm _ _ _ _ (pv 4))))))), ?_⟩;rw [show start ["house", "weights", "handicaps", "row", "totals", "part"] [V.ref p, V.ref l, V.ref m, V.ref r] = [some (V.ref p), some (V.ref l), some (V.ref m), some (V.ref r), none, none] from rfl];simp only [ze, zd, ↓reduceIte];refine ⟨p, o, h, l, m, hs, outs, ds, ws, hc, rfl, hH, G, hl, lw, gw, hm, lh, gh, fun H1 S1 => ?_⟩;simp only [ze, zd, ↓reduceIte];refine ⟨_, .inl (.of (S1 _ _ hm)), fun t ht => ?_⟩;have S2 : Same H1 (upd H1 t (.lst (hc.map V.int))) := Same.upd (Same.refl _) ht;have t2 : upd H1 t (.lst (hc.map V.int)) t = some (.lst (hc.map V.int)) := zf;generalize upd H1 t (.lst (hc.map V.int)) = H2 at *;have S12 := S1.trans S2;refine ⟨p, o, h, l, r, hs, outs, ds, ws, row, rfl, hH.mono S12, G, S12 _ _ hl, lw, gw, S12.seqT hrow, R, fun H3 lp ls S3 hlp hI => ⟨lp, rfl, ⟨_, .of hlp⟩, ?_⟩⟩;have pl : (yf ds ws row ds.length).length = ds.length := ky _ _ _ _
    have pw : ∀ q ∈ yf ds ws row ds.length, q.length = outs.length := fun q hq => by
      obtain ⟨i, hi, rfl⟩ := Zp.mp hq;exact sy G lw R (ZS.mp hi)
    generalize yf ds ws row ds.length = ps at *;refine tf (xs := ls.map V.ref) (PvSc p l m r lp H H3 ls ps hc) ⟨Same.refl _, t, _, S1.free ht, S3 _ _ t2, rfl⟩ ?_ ?_ ?_
    . rintro i σ H4 hi ⟨S4, t4, v, hn4, ht4, rfl⟩
      exact .of (S4 _ _ hlp)
    . rintro i x σ H4 hx ⟨S4, t4, v, hn4, ht4, rfl⟩
      obtain ⟨c, hcx, rfl⟩ := yd hx;have hi : i < ps.length := by have := (Zc.mp hcx).1; have := hI.len; omega
      have ep : ps[i]? = some ps[i] := Zb hi;have hp4 := S4 _ _ (hI.at' i c _ hcx ep);have lp4 := pw _ (Zl hi);have ls4 : (yu hc (ps.take i)).length = outs.length := s9 _ _ lh fun q hq => pw q (List.mem_of_mem_take hq)
      have ho8 := G.outs1.2;generalize ps[i] = pt at *;simp only [ze, zd, ↓reduceIte];refine ⟨⟨_, .of ht4⟩, ⟨_, .of hp4⟩, fun dd => ?_⟩;refine gz (xs := (yu hc (ps.take i)).map V.int) (zs := pt.map V.int) (PvZw H4 (yu hc (ps.take i)) pt) ⟨Same.refl _, rfl⟩ ?_ ?_ ?_
      . rintro j ys H5 hj ⟨S5, rfl⟩
        refine ⟨?_, .of (S5 _ _ ht4), .of (S5 _ _ hp4)⟩;rw [Za, ZT, Zj, Zj];exact Zd (show _ <= 8 by omega) (by decide)
      . rintro j x z ys H5 T hx hz hT ⟨S5, rfl⟩
        rw [Ze] at hx hz
        obtain ⟨x', hx'⟩ : ∃ y, (yu hc (ps.take i))[j]? = some y := by
          cases e : (yu hc (ps.take i))[j]? with
          | none => rw [e] at hx; cases hx
          | some y => exact ⟨y, rfl⟩
        obtain ⟨z', hz'⟩ : ∃ y, pt[j]? = some y := by
          cases e : pt[j]? with
          | none => rw [e] at hz; cases hz
          | some y => exact ⟨y, rfl⟩
        rw [hx'] at hx;rw [hz'] at hz;cases hx;cases hz;have S6 : Same H5 (upd H5 T (.tup [V.int x', V.int z'])) := Same.upd (Same.refl _) hT;simp only [ze, zd, ↓reduceIte];refine ⟨_, .of zf, rfl, ?_⟩;generalize upd H5 T (.tup [V.int x', V.int z']) = H6 at *;simp only [ze, zd, ↓reduceIte];refine ⟨S5.trans S6, ?_⟩;rw [zg2 hx' hz', Zn];rfl
      . rintro ys H5 ⟨S5, rfl⟩ t5 ht5
        have e1 : (yu hc (ps.take i)).take outs.length = yu hc (ps.take i) := ZG (by omega);have e2 : pt.take outs.length = pt := ZG (by omega);rw [Za, Za, ls4, lp4, YD, e1, e2];refine ⟨S4.trans (S5.trans (Same.upd (Same.refl _) ht5)), t5, _, ?_, ?_, rfl⟩
        . exact (S12.trans (S3.trans (S4.trans S5))).free ht5
        . rw [zf, Zq, ep]
          show _ = some (HO.lst ((yu hc (ps.take i ++ [pt])).map V.int))
          rw [za6]
    . rintro σ H4 ⟨S4, t4, v, hn4, ht4, rfl⟩
      simp only [ze, zd, ↓reduceIte];rw [Za, hI.len, Zt] at ht4;exact q H4 t4 (S12.trans (S3.trans S4)) hn4 ht4
end
def zb8 : Sp := fun vs H Q _ => ∃ (b : Addr) (xs : List HX) (ds : List HD), vs = [.ref b] /\ HandsL H b xs ds /\ ds.length <= 4 /\ (∀ d ∈ ds, d.words.length <= 8) /\ ∀ H' l as, Same H H' -> H l = none -> RwsAt H' l as (ym (ds.map HD.words)) -> Q (.ref l) H'
def PvRL (b : Addr) (ds : List HD) (H : Hp) (i : Nat) (σ : L2.St) (H' : Hp) : Prop := ∃ (l : Addr) (as : List Addr) (v1 v2 v3 v4 : Option V), H l = none /\ RwsAt H' l as (ym ((ds.map HD.words).take i)) /\ Same H H' /\ σ = [some (.ref b), some (.ref l), v1, v2, v3, v4]
def PvRL2 (b l t p : Addr) (rs : List (List Str)) (ws : List Str) (H : Hp) (i : Nat) (σ : L2.St) (H' : Hp) : Prop := ∃ (as' : List Addr) (v3 v4 : Option V), H' p = some (.lst (as'.map V.ref)) /\ TupsAt H' as' (xu (rs.take i) ws) /\ Same H H' /\ σ = [some (.ref b), some (.ref l), some (.ref t), some (.ref p), v3, v4]
def PvRL3 (b l t p c : Addr) (rs : List (List Str)) (r ws : List Str) (H : Hp) (i j : Nat) (σ : L2.St) (H' : Hp) : Prop := ∃ (as' : List Addr) (v4 : Option V), H' p = some (.lst (as'.map V.ref)) /\ TupsAt H' as' (xu (rs.take i) ws ++ xx r (ws.take j)) /\ Same H H' /\ σ = [some (.ref b), some (.ref l), some (.ref t), some (.ref p), some (.ref c), v4]
def wo (ns : List Int) (m : Nat) : List Int := (List.range m).map fun k => 1 + ((numB (yb ns (44 + k)) (10 ^ 59)).natAbs : Int)
def xq (ns : List Int) (m : Nat) : List Int := (List.range m).map fun k => numB (yb ns (47 + k)) (10 ^ 59)
theorem bc (ns : List Int) (m : Nat) : wo ns (m + 1) = wo ns m ++ [1 + ((numB (yb ns (44 + m)) (10 ^ 59)).natAbs : Int)] := by rw [wo, ZX, Zn]; rfl
theorem f7 (ns : List Int) (m : Nat) : xq ns (m + 1) = xq ns m ++ [numB (yb ns (47 + m)) (10 ^ 59)] := by rw [xq, ZX, Zn]; rfl
theorem jr (ns : List Int) (m : Nat) : (wo ns m).length = m := by rw [wo, Za, ZN]
theorem ll (ns : List Int) (m : Nat) : (xq ns m).length = m := by rw [xq, Za, ZN]
theorem bg (ns : List Int) (m : Nat) : ∀ i ∈ wo ns m, y4 i /\ 1 <= i := fun i hi => by
  obtain ⟨k, _, rfl⟩ := Zp.mp hi;have := j8 (yb ns (44 + k)) (show (10 : Int) ^ 18 <= 10 ^ 59 by decide);refine ⟨⟨?_, ?_⟩, ?_⟩
  . show -(10 ^ 60) < _; omega
  . show _ < (10 : Int) ^ 60; omega
  . omega
theorem ef (ns : List Int) (m : Nat) : ∀ i ∈ xq ns m, y4 i := fun i hi => by
  obtain ⟨k, _, rfl⟩ := Zp.mp hi;have := j8 (yb ns (47 + k)) (show (10 : Int) ^ 18 <= 10 ^ 59 by decide);refine ⟨?_, ?_⟩
  . show -(10 ^ 60) < _; omega
  . show _ < (10 : Int) ^ 60; omega
def p7 (K : Fg) (f : List Int -> Nat -> List Int) : Sp := fun vs H Q _ => ∃ (a : Addr) (ns : List Int) (m : Nat), vs = [.ref a, .int m] /\ SqL K H a (ns.map V.int) /\ m <= 8 /\ ∀ H' l, Same H H' -> H' l = some (.lst ((f ns m).map V.int)) -> Q (.ref l) H'
def PvWt (H : Hp) (f : Nat -> List Int) (i : Nat) (ys : List V) (H' : Hp) : Prop := H' = H /\ ys = (f i).map V.int
section
variable {P : Program} {w : World} {K : Fg} {mg : Str -> Option Value} {base : Heap} {a : Ad}
theorem qw (B : Bt mg) (yr : FnAt P w K mg base "_law_cell" 1 ["script", "k"] (o7 K)) (wj : FnAt P w K mg base "_law_number" 1 ["cell", "top"] fz) (D : zc K mg "_law_weights" u7 ["script", "many"]) : FnAt P w K mg base "_law_weights" 2 ["script", "many"] (p7 K wo) := by
  refine FnAt.of D di (fun vs H Q E h => ?_) (fun f cdv A outer s H vs Q E hr h => ?_)
  . obtain ⟨a, ns, m, rfl, _⟩ := h
    rfl
  . obtain ⟨a, ns, m, rfl, hS, h8, q⟩ := h
    refine ⟨_, (@zh _ _ _ (@zm _ _ _ _ (z7 ["k"] ["script", "many"] rfl (yn rfl B.range (za (pv 1) (@zb _))) (fun _ => (zl (i := 0) (show (["k", "script", "many"] : List Str).Nodup by decide +kernel) rfl (Or.inl rfl))) (fun _ => (@zt _)) (fun _ => (@zp _ _ _ _ _ _ _ _ xj (@zj _ _ _ _) (zq gf rfl B.abs ax (za (zg wj (hr.mono (by decide)) rfl (za (zg yr (hr.mono (by decide)) rfl (za (pv 1) (za (@zp _ _ _ _ _ _ _ _ xj (@zj _ _ _ _) (pv 0)) (@zb _)))) (za (@zp _ _ _ _ _ _ _ _ lq (@zj _ _ _ _) (@zj _ _ _ _)) (@zb _)))) (@zb _))))) rfl (by decide +kernel) rfl rfl))), ?_⟩;rw [show start ["script", "many"] [V.ref a, V.int m] = [some (V.ref a), some (V.int m)] from rfl];simp only [ze, zd, ↓reduceIte];refine ⟨by omega, by omega, fun d => ?_⟩;rw [Zw];refine xy (PvWt H (wo ns)) ⟨rfl, rfl⟩ ?_ ?_ ?_
    . rintro i ys H2 hi ⟨rfl, rfl⟩
      rw [Za, jr];exact Zd hi (Zd h8 (by decide))
    . rintro i ys H2 hi ⟨rfl, rfl⟩
      simp only [ze, zd, ↓reduceIte];refine ⟨a, ns, 44 + i, ?_, hS, ?_⟩
      . rw [show (44 : Int) + (i : Int) = ((44 + i : Nat) : Int) by omega]
      refine ⟨⟨by decide, by decide, by decide⟩, yb ns (44 + i), 10 ^ 59, rfl, by decide, by decide, _, rfl, rfl, ?_⟩;rw [bc, Zn]
      congr 3
      split <;> omega
    . rintro ys H2 ⟨rfl, rfl⟩ l hl
      exact q _ l (Same.upd (Same.refl _) hl) zf
theorem se (B : Bt mg) (yr : FnAt P w K mg base "_law_cell" 1 ["script", "k"] (o7 K)) (wj : FnAt P w K mg base "_law_number" 1 ["cell", "top"] fz) (D : zc K mg "_law_handicaps" vx ["script", "places"]) : FnAt P w K mg base "_law_handicaps" 2 ["script", "places"] (p7 K xq) := by
  refine FnAt.of D i8 (fun vs H Q E h => ?_) (fun f cdv A outer s H vs Q E hr h => ?_)
  . obtain ⟨a, ns, m, rfl, _⟩ := h
    rfl
  . obtain ⟨a, ns, m, rfl, hS, h8, q⟩ := h
    refine ⟨_, (@zh _ _ _ (@zm _ _ _ _ (z7 ["j"] ["script", "places"] rfl (yn rfl B.range (za (pv 1) (@zb _))) (fun _ => (zl (i := 0) (show (["j", "script", "places"] : List Str).Nodup by decide +kernel) rfl (Or.inl rfl))) (fun _ => (@zt _)) (fun _ => (zg wj (hr.mono (by decide)) rfl (za (zg yr (hr.mono (by decide)) rfl (za (pv 1) (za (@zp _ _ _ _ _ _ _ _ xj (@zj _ _ _ _) (pv 0)) (@zb _)))) (za (@zp _ _ _ _ _ _ _ _ lq (@zj _ _ _ _) (@zj _ _ _ _)) (@zb _))))) rfl (by decide +kernel) rfl rfl))), ?_⟩;rw [show start ["script", "places"] [V.ref a, V.int m] = [some (V.ref a), some (V.int m)] from rfl];simp only [ze, zd, ↓reduceIte];refine ⟨by omega, by omega, fun d => ?_⟩;rw [Zw];refine xy (PvWt H (xq ns)) ⟨rfl, rfl⟩ ?_ ?_ ?_
    . rintro i ys H2 hi ⟨rfl, rfl⟩
      rw [Za, ll];exact Zd hi (Zd h8 (by decide))
    . rintro i ys H2 hi ⟨rfl, rfl⟩
      simp only [ze, zd, ↓reduceIte];refine ⟨a, ns, 47 + i, ?_, hS, ?_⟩
      . rw [show (47 : Int) + (i : Int) = ((47 + i : Nat) : Int) by omega]
      refine ⟨⟨by decide, by decide, by decide⟩, yb ns (47 + i), 10 ^ 59, rfl, by decide, by decide, rfl, ?_⟩;rw [f7, Zn];rfl
    . rintro ys H2 ⟨rfl, rfl⟩ l hl
      exact q _ l (Same.upd (Same.refl _) hl) zf
theorem ka (D : zc K mg "_law_rows" ph ["hands"]) : FnAt P w K mg base "_law_rows" 1 ["hands"] zb8 := by
  refine FnAt.of D sc_law_rows (fun vs H Q E h => ?_) (fun f cdv A outer s H vs Q E hr h => ?_)
  . obtain ⟨b, xs, ds, rfl, _⟩ := h
    rfl
  . obtain ⟨b, xs, ds, rfl, hH, h4, h8, q⟩ := h
    refine ⟨_, (@zk _ _ _ _ _ (@z8 _ _ 1 _ _ _ _ sc_law_rows.nd rfl (Or.inl rfl) (@vm _ _ _ _ (@za _ _ _ _ _ (@xw _ _ _ _ _ (@zb _)) (@zb _) (yj nofun))) rfl (Or.inl rfl)) (@zk _ _ _ _ _ (xk PassesOwn.never rfl (@z9 _ _ _ _ (pv 0)) (zl (i := 2) sc_law_rows.nd rfl (Or.inl rfl)) (@zk _ _ _ _ _ (z8 (i := 3) sc_law_rows.nd rfl (Or.inl rfl) (@vm _ _ _ _ (@zb _))) (@zk _ _ _ _ _ (xk PassesOwn.never rfl (@z9 _ _ _ _ (pv 1)) (zl (i := 4) sc_law_rows.nd rfl (Or.inl rfl)) (@zh _ _ _ (xk PassesOwn.never rfl (@z9 _ _ _ _ (@zw _ _ _ _ _ _ _ yq (pv 2) (@zj _ _ _ _) (fun _ _ => rfl))) (zl (i := 5) sc_law_rows.nd rfl (Or.inl rfl)) (@zh _ _ _ (rf (kt PySem.F.plainAttrs_list PySem.F.slot_list_append PySem.F.type_list_append md (pv 3) (za (@zp _ _ _ _ _ _ _ _ tq (pv 4) (@xw _ _ _ _ _ (za (pv 5) (@zb _)))) (@zb _)))))))) (@zh _ _ _ (z8 (i := 1) sc_law_rows.nd rfl (Or.inl rfl) (pv 3)))))) (@zh _ _ _ (@zm _ _ _ _ (pv 1))))), ?_⟩;rw [show start ["hands", "rows", "hand", "longer_ones", "row", "word"] [V.ref b] = [some (V.ref b), none, none, none, none, none] from rfl];simp only [ze, zd, ↓reduceIte];refine ⟨by decide, fun c hc => ⟨by decide, fun p hp => ?_⟩⟩;have S1 : Same H (upd H c (.tup [])) := Same.upd (Same.refl _) hc;have h1 : upd H c (.tup []) c = some (.tup []) := zf;generalize upd H c (.tup []) = H1 at *;have S2 : Same H1 (upd H1 p (.lst [V.ref c])) := Same.upd (Same.refl _) hp;have h2 : upd H1 p (.lst [V.ref c]) p = some (.lst [V.ref c]) := zf;generalize upd H1 p (.lst [V.ref c]) = H2 at *;have S := S1.trans S2;refine ⟨⟨_, .of (S _ _ hH.at')⟩, ?_⟩;refine tf (xs := xs.map fun x => V.ref x.t) (PvRL b ds H) ⟨p, [c], _, _, _, _, S1.free hp, ⟨h2, TupsAt.one (S2 _ _ h1)⟩, S, rfl⟩ ?_ ?_ ?_
    . rintro i σ H' hi ⟨l, as, v1, v2, v3, v4, hl, hR, S', rfl⟩
      exact .of (S' _ _ hH.at')
    . rintro i x σ H' hx ⟨l, as, v1, v2, v3, v4, hl, hR, S', rfl⟩
      obtain ⟨t, ht, rfl⟩ := yd hx;have hi : i < ds.length := by have := (Zc.mp ht).1; have := hH.len; omega
      have ed : ds[i]? = some ds[i] := Zb hi;have hd := (hH.mono S').hand i t _ ht ed;have ew : (ds.map HD.words)[i]? = some ds[i].words := by rw [Ze, ed]; rfl
      have hw8 := h8 _ (Zl hi)
      have few := gb (wss := ds.map HD.words) (by rw [Za]; exact h4) (fun ws hws => by
        obtain ⟨d, hd, rfl⟩ := Zp.mp hws
        exact h8 d hd) i (by rw [Za]; omega)
      have hwid : ∀ r ∈ ym ((ds.map HD.words).take i), r.length <= 8 := fun r hr => by
        have := iq (ds.map HD.words) i (by rw [Za]; omega) r hr;omega
      simp only [ze, zd, ↓reduceIte];refine ⟨by decide, fun p2 hp2 => ?_⟩;have S3 : Same H' (upd H' p2 (.lst [])) := Same.upd (Same.refl _) hp2;have R3 := hR.mono S3;have hw3 := (hd.mono S3);generalize hrs : ym ((ds.map HD.words).take i) = rs at *;generalize hwds : ds[i].words = ws at *;have hpn : H p2 = none := S'.free hp2;refine ⟨⟨_, .of R3.lst⟩, ?_⟩;refine tf (xs := as.map V.ref) (PvRL2 b l t.t p2 rs ws H') ⟨[], _, _, zf, TupsAt.nil, S3, rfl⟩ ?_ ?_ ?_
      . rintro j σ H4 hj ⟨as', u3, u4, a1, a2, S4, rfl⟩
        exact .of (S4 _ _ hR.lst)
      . rintro j y σ H4 hy ⟨as', u3, u4, a1, a2, S4, rfl⟩
        obtain ⟨cc, hcc, rfl⟩ := yd hy;have hjl : j < rs.length := by have := (Zc.mp hcc).1; have := hR.tups.len; omega
        have er : rs[j]? = some rs[j] := Zb hjl;have hrow := hR.tups.at' j cc _ hcc er;have hr8 := hwid _ (Zl hjl);generalize rs[j] = rr at *;have hd4 := hd.mono S4;simp only [ze, zd, ↓reduceIte];refine ⟨_, .of hd4.tup, _, ya (j := 1) rfl, t.w, rfl, ⟨_, .of hd4.words⟩, ?_⟩;refine tf (xs := ws.map V.str) (PvRL3 b l t.t p2 cc rs rr ws H' j) ⟨as', _, a1, by rw [List.take_zero, xx, YB, Yb]; exact a2, S4, rfl⟩ ?_ ?_ ?_
        . rintro m σ H5 hm ⟨bs, u4, b1, b2, S5, rfl⟩
          have := (hd.mono S5).words;rw [hwds] at this;exact .of this
        . rintro m y σ H5 hy ⟨bs, u4, b1, b2, S5, rfl⟩
          obtain ⟨z, hz, rfl⟩ := yd hy;simp only [ze, zd, ↓reduceIte];refine ⟨.inl ⟨rfl, _, .of b1⟩, by decide, fun e he => ?_⟩;have S6 : Same H5 (upd H5 e (.tup [V.str z])) := Same.upd (Same.refl _) he;refine ⟨_, (S5.trans S6) _ _ hrow, _, zf, ?_, fun H7 e7 S7 h7 => ?_⟩
          . rw [Za]
            exact Zd (show _ <= 9 by simp; omega) (by decide)
          have S57 := S6.trans S7;refine ⟨_, S57 _ _ b1, ?_, bs ++ [e7], _, by rw [zf, Zn]; rfl, ?_, Same.upd (S5.trans S57) hp2, rfl⟩
          . rw [Za, b2.len, Zo, qe, nq, Zj, Zj]
            have : min j rs.length * ws.length <= 4096 * 8 := YI (by omega) hw8;exact YJ (show _ <= 4096 * 8 + 8 by omega) (by decide)
          . rw [Zq, hz]
            show TupsAt _ _ (_ ++ xx rr (ws.take m ++ [z]))
            rw [xx, Zn, <- List.append_assoc];exact ((b2.mono S57).append (TupsAt.one (by rw [h7]; simp))).past (S57 _ _ b1)
        . rintro σ H5 ⟨bs, u4, b1, b2, S5, rfl⟩
          refine ⟨bs, _, _, b1, ?_, S5, rfl⟩;rw [Za, Zt] at b2;rw [Zq, er]
          show TupsAt _ _ (xu (rs.take j ++ [rr]) ws)
          rw [fm];exact b2
      . rintro σ H4 ⟨as', u3, u4, a1, a2, S4, rfl⟩
        simp only [ze, zd, ↓reduceIte];rw [Za, hR.tups.len, Zt] at a2;refine ⟨p2, as', _, _, _, _, hpn, ⟨a1, ?_⟩, S'.trans S4, rfl⟩;rw [um ew, hrs];exact a2
    . rintro σ H' ⟨l, as, v1, v2, v3, v4, hl, hR, S', rfl⟩
      simp only [ze, zd, ↓reduceIte];rw [Za, hH.len, ZG (by rw [Za]; omega)] at hR;exact q H' l as S' hl hR
end
def xg (ts : List Int) : Nat := ts.idxOf (ts.max?.getD 0)
def vj (ts p : List Int) : List Int := List.zipWith (· - ·) ts p
def oh (ts p : List Int) : Int := (vj ts p).max?.getD 0 - (vj ts p).getD (xg ts) 0
theorem ze3 {ts : List Int} {m : Int} (h1 : m ∈ ts) (h2 : ∀ a ∈ ts, a <= m) : ts.max?.getD 0 = m := by
  have : ts.max? = some m := Yc.mpr ⟨h1, h2⟩;rw [this];rfl
theorem cf : ∀ {zs : List Int} {m : Nat} {z : Int}, zs[m]? = some z -> zs.idxOf z <= m
  | [], m, z, h => by simp at h
  | y :: zs, 0, z, h => by
    simp at h;subst h;simp
  | y :: zs, m + 1, z, h => by
    rw [List.idxOf_cons]
    cases y == z with
    | true => exact ZE _
    | false => exact Yx (cf (by simpa using h))
theorem zcl (y z : Int) : eqV (V.int y) (V.int z) = decide (y = z) := by
  show (y == z) = decide (y = z)
  by_cases h : y = z
  . subst h; simp
  . simp [h]
theorem zfb {zs : List Int} {z : Int} (h : z ∈ zs) : FirstAt (zs.map V.int) (V.int z) (zs.idxOf z) := by
  have hl := Zz.mpr h;refine ⟨rfl, ?_, ⟨V.int z, ?_, ?_⟩, fun m y hm e => ?_⟩
  . rw [ZQ]
    intro x hx;obtain ⟨y, _, rfl⟩ := Zp.mp hx;rfl
  . rw [Ze, Zb hl, Yq]
    rfl
  . rw [zcl]
    exact decide_eq_true rfl
  . rw [Ze] at e
    have hml : m < zs.length := by omega
    rw [Zb hml] at e;cases e;rw [zcl, decide_eq_false];intro ez;have hle : zs.idxOf z <= m := cf (by rw [Zb hml, ez]);omega
def zag (K : Fg) : Sp := fun vs H Q _ => ∃ (t : Addr) (ts : List Int), vs = [.ref t] /\ SqL K H t (ts.map V.int) /\ 0 < ts.length /\ Q (.int (xg ts)) H
def zcn (K : Fg) : Sp := fun vs H Q _ => ∃ (t l : Addr) (ts p : List Int), vs = [.ref t, .ref l] /\ H t = some (.lst (ts.map V.int)) /\ H l = some (.lst (p.map V.int)) /\ 0 < ts.length /\ ts.length = p.length /\ ts.length <= 8 /\ ∀ H', Same H H' -> Q (.int (oh ts p)) H'
def PvRest (H : Hp) (as bs : List Int) (i : Nat) (ys : List V) (H' : Hp) : Prop := Same H H' /\ ys = (List.zipWith (· - ·) (as.take i) (bs.take i)).map V.int
theorem zhs {as bs : List Int} {i : Nat} {x y : Int} (h1 : as[i]? = some x) (h2 : bs[i]? = some y) : List.zipWith (· - ·) (as.take (i + 1)) (bs.take (i + 1)) = List.zipWith (· - ·) (as.take i) (bs.take i) ++ [x - y] := by
  have hl1 := (Zc.mp h1).1;have hl2 := (Zc.mp h2).1;rw [Zq, Zq, h1, h2];exact List.zipWith_append (by rw [Zj, Zj]; omega)
def ag (K : Fg) : Sp := fun vs H Q _ => ∃ (p o h l m r : Addr) (hs : List Addr) (outs : List Str) (ds : List HD) (ws hc : List Int) (row : List Str), vs = [.ref p, .ref l, .ref m, .ref r] /\ HHouse H p o h hs outs ds /\ GoodHouse outs ds /\ H l = some (.lst (ws.map V.int)) /\ ws.length = ds.length /\ (∀ i ∈ ws, y4 i /\ 1 <= i) /\ H m = some (.lst (hc.map V.int)) /\ hc.length = outs.length /\ (∀ i ∈ hc, y4 i) /\ SqT K H r (row.map V.str) /\ nu ds row /\
  ∀ H' l', Same H H' -> H' l' = some (.lst (((yf ds ws row ds.length).map (oh (yu hc (yf ds ws row ds.length)))).map V.int)) -> Q (.ref l') H'
def PvPv (H : Hp) (ts : List Int) (ps : List (List Int)) (i : Nat) (ys : List V) (H' : Hp) : Prop := Same H H' /\ ys = ((ps.take i).map (oh ts)).map V.int
section
variable {P : Program} {w : World} {K : Fg} {mg : Str -> Option Value} {base : Heap} {a : Ad}
theorem v0 (B : Bt mg) (D : zc K mg "best_place" ra ["totals"]) : FnAt P w K mg base "best_place" 1 ["totals"] (zag K) := by
  refine FnAt.of D bf (fun vs H Q E h => ?_) (fun f cdv A outer s H vs Q E hr h => ?_)
  . obtain ⟨t, ts, rfl, _⟩ := h
    rfl
  . obtain ⟨t, ts, rfl, ht, h0, q⟩ := h
    refine ⟨_, (@zh _ _ _ (@zm _ _ _ _ (kt PySem.F.plainAttrs_list PySem.F.slot_list_index PySem.F.type_list_index cp (pv 0) (za (zq (d9 rfl) rfl B.max zdv (za (pv 0) (@zb _))) (@zb _))))), ?_⟩;rw [show start ["totals"] [V.ref t] = [some (V.ref t)] from rfl];simp only [ze, zd, ↓reduceIte];refine ⟨.inl ⟨rfl, _, ht⟩, _, ht, h0, fun m hm1 hm2 => ⟨_, ht, _, zfb hm1, ?_⟩⟩;rw [xg, ze3 hm1 hm2] at q;exact q
theorem dz (B : Bt mg) (v0 : FnAt P w K mg base "best_place" 1 ["totals"] (zag K)) (D : zc K mg "pivot" j5 ["totals", "part"]) : FnAt P w K mg base "pivot" 2 ["totals", "part"] (zcn K) := by
  refine FnAt.of D sc_pivot (fun vs H Q E h => ?_) (fun f cdv A outer s H vs Q E hr h => ?_)
  . obtain ⟨t, l, ts, p, rfl, _⟩ := h
    rfl
  . obtain ⟨t, l, ts, p, rfl, ht, hl, h0, hlen, h8, q⟩ := h
    refine ⟨_, (@zk _ _ _ _ _ (va (i := 2) ["total", "number"] ["totals", "part", "rest"] sc_pivot.nd rfl rfl rfl (a8 rfl B.zip (za (pv 0) (za (pv 1) (@zb _)))) (fun _ => (qo rfl (y6 (zl (i := 0) (show (["total", "number", "totals", "part", "rest"] : List Str).Nodup by decide +kernel) rfl (Or.inl rfl)) (y6 (zl (i := 1) (show (["total", "number", "totals", "part", "rest"] : List Str).Nodup by decide +kernel) rfl (Or.inl rfl)) (@t6 _))))) (fun _ => (@zt _)) (fun _ => (@zp _ _ _ _ _ _ _ _ ua (pv 0) (pv 1))) rfl (by decide +kernel) rfl rfl rfl) (@zh _ _ _ (@zm _ _ _ _ (@zp _ _ _ _ _ _ _ _ ua (zq (d9 rfl) rfl B.max zdv (za (pv 2) (@zb _))) (@zw _ _ _ _ _ _ _ z0 (pv 2) (zg v0 (hr.mono (by decide)) rfl (za (pv 0) (@zb _))) (fun _ _ => rfl)))))), ?_⟩;rw [show start ["totals", "part", "rest"] [V.ref t, V.ref l] = [some (V.ref t), some (V.ref l), none] from rfl];simp only [ze, zd, ↓reduceIte];refine ⟨⟨_, .of ht⟩, ⟨_, .of hl⟩, fun dd => ?_⟩;refine gz (xs := ts.map V.int) (zs := p.map V.int) (PvRest H ts p) ⟨Same.refl _, rfl⟩ ?_ ?_ ?_
    . rintro j ys H5 hj ⟨S5, rfl⟩
      refine ⟨?_, .of (S5 _ _ ht), .of (S5 _ _ hl)⟩;rw [Za, ZT, Zj, Zj];exact Zd (show _ <= 8 by omega) (by decide)
    . rintro j x z ys H5 T hx hz hT ⟨S5, rfl⟩
      rw [Ze] at hx hz
      obtain ⟨x', hx'⟩ : ∃ y, ts[j]? = some y := by
        cases e : ts[j]? with
        | none => rw [e] at hx; cases hx
        | some y => exact ⟨y, rfl⟩
      obtain ⟨z', hz'⟩ : ∃ y, p[j]? = some y := by
        cases e : p[j]? with
        | none => rw [e] at hz; cases hz
        | some y => exact ⟨y, rfl⟩
      rw [hx'] at hx;rw [hz'] at hz;cases hx;cases hz;have S6 : Same H5 (upd H5 T (.tup [V.int x', V.int z'])) := Same.upd (Same.refl _) hT;simp only [ze, zd, ↓reduceIte];refine ⟨_, .of zf, rfl, ?_⟩;generalize upd H5 T (.tup [V.int x', V.int z']) = H6 at *;simp only [ze, zd, ↓reduceIte];refine ⟨S5.trans S6, ?_⟩;rw [zhs hx' hz', Zn];rfl
    . rintro ys H5 ⟨S5, rfl⟩ c hc
      have e1 : ts.take ts.length = ts := Zt;have e2 : p.take ts.length = p := ZG (by omega);rw [Za, Za, <- hlen, YD, e1, e2];have S6 : Same H5 (upd H5 c (.lst ((List.zipWith (· - ·) ts p).map V.int))) := Same.upd (Same.refl _) hc;have h6 : upd H5 c (.lst ((List.zipWith (· - ·) ts p).map V.int)) c = some (.lst ((vj ts p).map V.int)) := zf;generalize upd H5 c (.lst ((List.zipWith (· - ·) ts p).map V.int)) = H6 at *;have lr : (vj ts p).length = ts.length := by rw [vj, ZT]; omega
      have S := S5.trans S6;refine ⟨_, .of h6, by omega, fun m hm1 hm2 => ?_⟩;refine ⟨t, ts, rfl, .of (S _ _ ht), h0, ?_⟩
      have hbl : xg ts < ts.length := by
        have : ts.max?.getD 0 ∈ ts := by
          cases e : ts.max? with
          | none => rw [Ym] at e; rw [e] at h0; cases h0
          | some x => exact (Yc.mp e).1
        exact Zz.mpr this
      obtain ⟨n, en⟩ : ∃ n, (vj ts p)[xg ts]? = some n := ⟨(vj ts p)[xg ts]'(by omega), by simp⟩;refine ⟨_, _, rfl, .of h6, _, ya (v := V.int n) (by rw [Ze, en]; rfl), _, rfl, ?_⟩;have := q H6 S
      rwa [oh, ze3 hm1 hm2, Zk, en] at this
theorem i9 (B : Bt mg) (C : Ct K mg a) (o9 : FnAtX P w K mg base "scores" 6 ["house", "weights", "handicaps", "row"] (ge K)) (dz : FnAt P w K mg base "pivot" 2 ["totals", "part"] (zcn K)) (t7 : FnAt P w K mg base "parts_of" 4 ["house", "weights", "row"] (jo K)) (D : zc K mg "pivots" km ["house", "weights", "handicaps", "row"]) : FnAtX P w K mg base "pivots" 7 ["house", "weights", "handicaps", "row"] (ag K) := by
  refine FnAtX.of D sc_pivots (fun vs H Q E h => ?_) (fun f cdv A outer s H vs Q E hr h => ?_)
  . obtain ⟨p, o, h, l, m, r, hs, outs, ds, ws, hc, row, rfl, _⟩ := h
    rfl
  . obtain ⟨p, o, h, l, m, r, hs, outs, ds, ws, hc, row, rfl, hH, G, hl, lw, gw, hm, lh, gh, hrow, R, q⟩ := h
    refine ⟨_, (@zk _ _ _ _ _ (z8 (i := 4) sc_pivots.nd rfl (Or.inr rfl) (gm o9 (hr.mono (by decide)) (k7 rfl) rfl (za (pv 0) (za (pv 1) (za (pv 2) (za (pv 3) (@zb _))))))) (@zh _ _ _ (PS.nox (@zm _ _ _ _ (z7 ["part"] ["house", "weights", "handicaps", "row", "totals"] rfl (@z9 _ _ _ _ (zg t7 (hr.mono (by decide)) rfl (za (pv 0) (za (pv 1) (za (pv 3) (@zb _)))))) (fun _ => (zl (i := 0) (show (["part", "house", "weights", "handicaps", "row", "totals"] : List Str).Nodup by decide +kernel) rfl (Or.inl rfl))) (fun _ => (@zt _)) (fun _ => (zg dz (hr.mono (by decide)) rfl (za (pv 5) (za (pv 0) (@zb _))))) rfl (by decide +kernel) rfl rfl))))), ?_⟩;rw [show start ["house", "weights", "handicaps", "row", "totals"] [V.ref p, V.ref l, V.ref m, V.ref r] = [some (V.ref p), some (V.ref l), some (V.ref m), some (V.ref r), none] from rfl];simp only [ze, zd, ↓reduceIte];refine ⟨p, o, h, l, m, r, hs, outs, ds, ws, hc, row, rfl, hH, G, hl, lw, gw, hm, lh, gh, hrow, R, fun H1 t S1 _ ht => ?_⟩;simp only [ze, zd, ↓reduceIte];refine ⟨p, o, h, l, r, hs, outs, ds, ws, row, rfl, hH.mono S1, G, S1 _ _ hl, lw, gw, S1.seqT hrow, R, fun H2 lp ls S2 hlp hI => ⟨lp, rfl, ⟨_, .of hlp⟩, fun dd => ?_⟩⟩;have pl : (yf ds ws row ds.length).length = ds.length := ky _ _ _ _
    have pw : ∀ q ∈ yf ds ws row ds.length, q.length = outs.length := fun q hq => by
      obtain ⟨i, hi, rfl⟩ := Zp.mp hq;exact sy G lw R (ZS.mp hi)
    have hsl : (yu hc (yf ds ws row ds.length)).length = outs.length := s9 _ _ lh pw;generalize yu hc (yf ds ws row ds.length) = ts at *;generalize yf ds ws row ds.length = ps at *;have ho := G.outs1;have h4 := G.hands.2;refine zz (xs := ls.map V.ref) (PvPv H2 ts ps) ⟨Same.refl _, rfl⟩ ?_ ?_ ?_
    . rintro i ys H3 hi ⟨S3, rfl⟩
      rw [Za] at hi;refine ⟨?_, .of (S3 _ _ hlp)⟩;rw [Za, Za, Zj];exact Zd (ZB _ _) (by rw [pl]; exact Zd h4 (by decide))
    . rintro i x ys H3 hx ⟨S3, rfl⟩
      obtain ⟨c, hcx, rfl⟩ := yd hx;have hi : i < ps.length := by have := (Zc.mp hcx).1; have := hI.len; omega
      have ep : ps[i]? = some ps[i] := Zb hi;have lp4 := pw _ (Zl hi);simp only [ze, zd, ↓reduceIte];refine ⟨t, c, ts, ps[i], rfl, S3 _ _ (S2 _ _ ht), S3 _ _ (hI.at' i c _ hcx ep), by omega, by omega, by omega, fun H4 S4 => ⟨S3.trans S4, ?_⟩⟩;rw [Zq, ep, Zn, Zn];rfl
    . rintro ys H3 ⟨S3, rfl⟩ l3 hl3
      rw [Za, hI.len, Zt];exact q _ l3 (S1.trans (S2.trans (S3.trans (Same.upd (Same.refl _) hl3)))) zf
end
def yp (outs : List Str) (ds : List HD) (ws hc : List Int) (row : List Str) : Str := outs.getD (xg (yu hc (yf ds ws row ds.length))) ⟨#[]⟩
def vc (r : List Str) : List Key := r.map Sum.inr
theorem jy (r : List Str) : (vc r).map kV = r.map V.str := by
  rw [vc, Yl];rfl
theorem fe {r q : List Str} (h : vc r = vc q) : r = q := by
  induction r generalizing q with
  | nil => cases q with
    | nil => rfl
    | cons _ _ => cases h
  | cons x xs ih => cases q with
    | nil => cases h
    | cons y ys =>
      rw [vc, vc, ZO, ZO] at h
      injection h with h1 h2
      injection h1 with h1
      rw [h1, ih h2]
def wn (f : List Str -> Str) (rs : List (List Str)) : List (List Key × V) := rs.map fun r => (vc r, V.str (f r))
theorem za4 (f : List Str -> Str) (rs : List (List Str)) : (wn f rs).map (·.1) = rs.map vc := by rw [wn, Yl]; rfl
theorem zff {f : List Str -> Str} {rs : List (List Str)} (h : rs.Nodup) : ((wn f rs).map (·.1)).Nodup := by
  rw [za4];exact YL.mpr (List.Pairwise.imp (fun {a b} hab e => hab (fe e)) h)
theorem g9 {f : List Str -> Str} {rs : List (List Str)} {r : List Str} (h : r ∈ rs) : valV (wn f rs) (vc r) = some (V.str (f r)) := by
  induction rs with
  | nil => cases h
  | cons q rs ih =>
    rw [wn, ZO]
    by_cases e : q = r
    . rw [ku (by rw [e]), e]
    . rw [kz (fun z => e (fe z))]
      exact ih ((ZK.mp h).resolve_left fun z => e z.symm)
theorem gr {ts : List Int} (h0 : 0 < ts.length) : xg ts < ts.length := by
  have : ts.max?.getD 0 ∈ ts := by
    cases e : ts.max? with
    | none => rw [Ym] at e; rw [e] at h0; cases h0
    | some x => exact (Yc.mp e).1
  exact Zz.mpr this
theorem iy {ds : List HD} {row : List Str} (h : row ∈ ym (ds.map HD.words)) : nu ds row := by
  have hpk := rowsP_iff.mp h;refine ⟨by rw [hpk.1, Za], fun k d z e1 e2 => ?_⟩;obtain ⟨u, h1, h2⟩ := hpk.2 k d.words (by rw [Ze, e1]; rfl);rw [e2] at h1;cases h1;exact h2
def ca (K : Fg) : Sp := fun vs H Q _ => ∃ (p o h l m r : Addr) (hs : List Addr) (outs : List Str) (ds : List HD) (ws hc : List Int) (row : List Str), vs = [.ref p, .ref l, .ref m, .ref r] /\ HHouse H p o h hs outs ds /\ GoodHouse outs ds /\ H l = some (.lst (ws.map V.int)) /\ ws.length = ds.length /\ (∀ i ∈ ws, y4 i /\ 1 <= i) /\ H m = some (.lst (hc.map V.int)) /\ hc.length = outs.length /\ (∀ i ∈ hc, y4 i) /\ SqT K H r (row.map V.str) /\ nu ds row /\
  ∀ H', Same H H' -> Q (.str (yp outs ds ws hc row)) H'
def ip (K : Fg) : Sp := fun vs H Q _ => ∃ (p o h l m : Addr) (hs : List Addr) (outs : List Str) (ds : List HD) (ws hc : List Int), vs = [.ref p, .ref l, .ref m] /\ HHouse H p o h hs outs ds /\ GoodHouse outs ds /\ H l = some (.lst (ws.map V.int)) /\ ws.length = ds.length /\ (∀ i ∈ ws, y4 i /\ 1 <= i) /\ H m = some (.lst (hc.map V.int)) /\ hc.length = outs.length /\ (∀ i ∈ hc, y4 i) /\
  ∀ H' t, Same H H' -> H' t = some (.dT (wn (yp outs ds ws hc) (ym (ds.map HD.words)))) -> Q (.ref t) H'
def PvBT (H : Hp) (f : List Str -> Str) (rs : List (List Str)) (i : Nat) (ys : List V) (H' : Hp) : Prop := Same H H' /\ ∃ Ts : List Addr, ys = Ts.map V.ref /\ sv H' Ts (wn f (rs.take i))
theorem ir {H H' : Hp} {Ts : List Addr} {kvs : List (List Key × V)} (S : Same H H') (h : sv H Ts kvs) : sv H' Ts kvs := ⟨h.len, fun i T kv e1 e2 => by
  obtain ⟨b, h1, h2⟩ := h.at' i T kv e1 e2
  exact ⟨b, S _ _ h1, S _ _ h2⟩⟩
theorem za9 {H : Hp} {Ts : List Addr} {kvs : List (List Key × V)} {T b : Addr} {kv : List Key × V} (h : sv H Ts kvs) (hT : H T = some (.tup [.ref b, kv.2])) (hb : H b = some (.tup (kv.1.map kV))) : sv H (Ts ++ [T]) (kvs ++ [kv]) := by
  refine ⟨by simp [h.len], fun i a q e1 e2 => ?_⟩
  by_cases hi : i < Ts.length
  . rw [Zg hi] at e1
    rw [Zg (by rw [<- h.len]; exact hi)] at e2;exact h.at' i a q e1 e2
  . rw [Zf (ZD.mp hi)] at e1
    rw [Zf (by rw [<- h.len]; exact ZD.mp hi)] at e2
    have h0 : i - Ts.length = 0 := by
      have := (Zc.mp e1).1;simp at this;omega
    rw [h0] at e1;rw [<- h.len, h0] at e2;simp at e1 e2;subst e1 e2;exact ⟨b, hT, hb⟩
section
variable {P : Program} {w : World} {K : Fg} {mg : Str -> Option Value} {base : Heap} {a : Ad}
theorem rj (B : Bt mg) (f_outcomes_of : FnAt P w K mg base "outcomes_of" 1 ["house"] (wz K 0)) (v0 : FnAt P w K mg base "best_place" 1 ["totals"] (zag K)) (o9 : FnAtX P w K mg base "scores" 6 ["house", "weights", "handicaps", "row"] (ge K)) (D : zc K mg "best_outcome" ug ["house", "weights", "handicaps", "row"]) : FnAt P w K mg base "best_outcome" 7 ["house", "weights", "handicaps", "row"] (ca K) := by
  refine FnAt.of D ft (fun vs H Q E h => ?_) (fun f cdv A outer s H vs Q E hr h => ?_)
  . obtain ⟨p, o, h, l, m, r, hs, outs, ds, ws, hc, row, rfl, _⟩ := h
    rfl
  . obtain ⟨p, o, h, l, m, r, hs, outs, ds, ws, hc, row, rfl, hH, G, hl, lw, gw, hm, lh, gh, hrow, R, q⟩ := h
    refine ⟨_, (@zh _ _ _ (@zm _ _ _ _ (@zw _ _ _ _ _ _ _ yq (zg f_outcomes_of (hr.mono (by decide)) rfl (za (pv 0) (@zb _))) (zg v0 (hr.mono (by decide)) rfl (za (ki o9 (hr.mono (by decide)) rfl (za (pv 0) (za (pv 1) (za (pv 2) (za (pv 3) (@zb _)))))) (@zb _))) (fun _ _ => rfl)))), ?_⟩;rw [show start ["house", "weights", "handicaps", "row"] [V.ref p, V.ref l, V.ref m, V.ref r] = [some (V.ref p), some (V.ref l), some (V.ref m), some (V.ref r)] from rfl];simp only [ze, zd, ↓reduceIte];refine ⟨p, _, _, rfl, .of hH.tup, rfl, ?_⟩;refine ⟨p, o, h, l, m, r, hs, outs, ds, ws, hc, row, rfl, hH, G, hl, lw, gw, hm, lh, gh, hrow, R, fun H1 t S1 _ ht => ?_⟩
    have pw : ∀ q ∈ yf ds ws row ds.length, q.length = outs.length := fun q hq => by
      obtain ⟨i, hi, rfl⟩ := Zp.mp hq;exact sy G lw R (ZS.mp hi)
    have hsl : (yu hc (yf ds ws row ds.length)).length = outs.length := s9 _ _ lh pw;have ho := G.outs1;have hbl : xg (yu hc (yf ds ws row ds.length)) < outs.length := by rw [<- hsl]; exact gr (by omega)
    have hq := q H1 S1;rw [yp, Zk, Zb hbl] at hq;exact ⟨t, _, rfl, .of ht, by omega, o, rfl, _, _, rfl, .of (S1 _ _ hH.outs), _, ya (v := V.str outs[xg (yu hc (yf ds ws row ds.length))]) (by rw [Ze, Zb hbl]; rfl), hq⟩
theorem oz (B : Bt mg) (jz : FnAt P w K mg base "rows_of" 3 ["house"] (b9 K)) (rj : FnAt P w K mg base "best_outcome" 7 ["house", "weights", "handicaps", "row"] (ca K)) (D : zc K mg "best_table" t9 ["house", "weights", "handicaps"]) : FnAt P w K mg base "best_table" 8 ["house", "weights", "handicaps"] (ip K) := by
  refine FnAt.of D bi (fun vs H Q E h => ?_) (fun f cdv A outer s H vs Q E hr h => ?_)
  . obtain ⟨p, o, h, l, m, hs, outs, ds, ws, hc, rfl, _⟩ := h
    rfl
  . obtain ⟨p, o, h, l, m, hs, outs, ds, ws, hc, rfl, hH, G, hl, lw, gw, hm, lh, gh, q⟩ := h
    refine ⟨_, (@zh _ _ _ (@zm _ _ _ _ (wy (zcv rfl (hu11 hr)) rfl B.dict zhk (za (z7 ["row"] ["house", "weights", "handicaps"] rfl (@z9 _ _ _ _ (zg jz (hr.mono (by decide)) rfl (za (pv 0) (@zb _)))) (fun _ => (zl (i := 0) (show (["row", "house", "weights", "handicaps"] : List Str).Nodup by decide +kernel) rfl (Or.inl rfl))) (fun _ => (@zt _)) (fun _ => (@xw _ _ _ _ _ (za (pv 0) (za (zg rj (hr.mono (by decide)) rfl (za (pv 1) (za (pv 2) (za (pv 3) (za (pv 0) (@zb _)))))) (@zb _))))) rfl (by decide +kernel) rfl rfl) (@zb _))))), ?_⟩;rw [show start ["house", "weights", "handicaps"] [V.ref p, V.ref l, V.ref m] = [some (V.ref p), some (V.ref l), some (V.ref m)] from rfl];simp only [ze, zd, ↓reduceIte];have h4 := G.hands.2;have h8 : ∀ d ∈ ds, d.words.length <= 8 := fun d hd => (G.words1 d hd).2
    refine ⟨p, o, h, hs, outs, ds, rfl, hH.k, h4, h8, fun H1 rl as S1 _ R1 => ⟨rl, rfl, ⟨_, .of R1.lst⟩, fun dd => ?_⟩⟩
    have few := gb (wss := ds.map HD.words) (by rw [Za]; exact h4) (fun ws hws => by
      obtain ⟨d, hd, rfl⟩ := Zp.mp hws
      exact h8 d hd) _ (Zm _)
    rw [Zt] at few
    have nd : (ym (ds.map HD.words)).Nodup := zbe fun vs hvs => by
      obtain ⟨d, hd, rfl⟩ := Zp.mp hvs;exact (G.hand hd).wordsD
    have hin : ∀ r ∈ ym (ds.map HD.words), nu ds r := fun r hr => iy hr
    generalize ym (ds.map HD.words) = rs at *;refine zz (xs := as.map V.ref) (PvBT H1 (yp outs ds ws hc) rs) ⟨Same.refl _, [], rfl, rfl, fun i T kv e => by simp at e⟩ ?_ ?_ ?_
    . rintro i ys H2 hi ⟨S2, Ts, rfl, hP⟩
      refine ⟨?_, .of (S2 _ _ R1.lst)⟩;rw [Za, hP.len, wn, Za, Zj];exact Zd (ZB _ _) (Zd few (by decide))
    . rintro i x ys H2 hx ⟨S2, Ts, rfl, hP⟩
      obtain ⟨c, hcx, rfl⟩ := yd hx;have hi : i < rs.length := by have := (Zc.mp hcx).1; have := R1.tups.len; omega
      have er : rs[i]? = some rs[i] := Zb hi;have hrow := S2 _ _ (R1.tups.at' i c _ hcx er);have hR := hin _ (Zl hi);have S12 := S1.trans S2;simp only [ze, zd, ↓reduceIte];refine ⟨p, o, h, l, m, c, hs, outs, ds, ws, hc, rs[i], rfl, hH.mono S12, G, S12 _ _ hl, lw, gw, S12 _ _ hm, lh, gh, .of hrow, hR, fun H3 S3 => ⟨by decide, fun T hT => ?_⟩⟩;have S4 : Same H3 (upd H3 T (.tup [V.ref c, V.str (yp outs ds ws hc rs[i])])) := Same.upd (Same.refl _) hT;refine ⟨S2.trans (S3.trans S4), Ts ++ [T], by simp, ?_⟩;rw [Zq, er]
      show sv _ _ (wn _ (rs.take i ++ [rs[i]]))
      rw [wn, Zn];exact za9 (ir (S3.trans S4) hP) (b := c) zf (by rw [jy]; exact (S3.trans S4) _ _ hrow)
    . rintro ys H2 ⟨S2, Ts, rfl, hP⟩ l2 hl2
      rw [Za, R1.tups.len, Zt] at hP;have S3 : Same H2 (upd H2 l2 (.lst (Ts.map V.ref))) := Same.upd (Same.refl _) hl2;refine ⟨Ts, zf, _, ir S3 hP, fun t ht => ?_⟩;rw [ze2 (zff nd)];exact q _ t (S1.trans (S2.trans (S3.trans (Same.upd (Same.refl _) ht)))) zf
end
def on (K : Fg) : Sp := fun vs H Q _ => ∃ (g : Addr) (as : List Addr) (rows : List (List Int)) (s t : Nat) (ns : List Int) (x y : Int), vs = [.ref g, .int s, .int t] /\ GridL K H g as rows /\ rows[t]? = some ns /\ ns[t]? = some x /\ ns[s]? = some y /\ Q (.int (x - y)) H
def gcA (rows : List (List Int)) (t s : Nat) : Int := (rows.getD t []).getD s 0
def mj (rows : List (List Int)) (ps : List Int) (t s : Nat) : Int := ps.getD t 0 - ps.getD s 0 - (gcA rows t t - gcA rows t s)
def bz (rows : List (List Int)) (n : Nat) : Prop := ∀ i : Nat, i < n -> ∃ ns : List Int, rows[i]? = some ns /\ ns.length = n
theorem oa {rows : List (List Int)} {t s : Nat} {ns : List Int} (h : rows[t]? = some ns) (hs : s < ns.length) : ns[s]? = some (gcA rows t s) := by
  unfold gcA;rw [Zk, Zk, h];simp [hs]
theorem oo {ps : List Int} {t : Nat} (h : t < ps.length) : ps[t]? = some (ps.getD t 0) := by
  rw [Zk]; simp [h]
def zb2 (K : Fg) : Sp := fun vs H Q _ => ∃ (g p : Addr) (as : List Addr) (rows : List (List Int)) (ps : List Int) (n s t : Nat), vs = [.ref g, .ref p, .int t, .int s] /\ GridL K H g as rows /\ SqL K H p (ps.map V.int) /\ ps.length = n /\ bz rows n /\ s < n /\ t < n /\ Q (.int (mj rows ps t s)) H
def First (rows : List (List Int)) (ps : List Int) (n : Nat) : Option (Nat × Nat) -> Prop
  | none => ∀ t s : Nat, t < n -> s < n -> mj rows ps t s <= 0
  | some (t, s) => t < n /\ s < n /\ 0 < mj rows ps t s /\ ∀ t' s' : Nat, t' < n -> s' < n -> (t' < t \/ (t' = t /\ s' < s)) -> mj rows ps t' s' <= 0
def spFG (K : Fg) : Sp := fun vs H Q _ => ∃ (g p : Addr) (as : List Addr) (rows : List (List Int)) (ps : List Int) (n : Nat), vs = [.ref g, .ref p] /\ GridL K H g as rows /\ as.length = n /\ SqL K H p (ps.map V.int) /\ ps.length = n /\ n <= 8 /\ bz rows n /\
  (First rows ps n none -> Q .non H) /\ ∀ t s : Nat, First rows ps n (some (t, s)) -> ∀ l, H l = none -> Q (.ref l) (upd H l (.tup [.int t, .int s, .int (mj rows ps t s)]))
def PvFG (g p : Addr) (rows : List (List Int)) (ps : List Int) (n : Nat) (k : Nat) (H : Hp) (i : Nat) (σ : L2.St) (H4 : Hp) : Prop := H4 = H /\ (∃ vs : List (Option V), vs.length = k /\ σ = some (.ref g) :: some (.ref p) :: vs) /\ ∀ t s : Nat, t < i -> s < n -> mj rows ps t s <= 0
def PvFG2 (g p : Addr) (rows : List (List Int)) (ps : List Int) (n : Nat) (k : Nat) (H : Hp) (t : Nat) (j : Nat) (σ : L2.St) (H4 : Hp) : Prop := H4 = H /\ (∃ vs : List (Option V), vs.length = k /\ σ = some (.ref g) :: some (.ref p) :: some (.int t) :: vs) /\ ∀ s : Nat, s < j -> mj rows ps t s <= 0
section
variable {P : Program} {w : World} {K : Fg} {mg : Str -> Option Value} {base : Heap}
theorem v8 (D : zc K mg "turn" fb ["grid", "s", "t"]) : FnAt P w K mg base "turn" 1 ["grid", "s", "t"] (on K) := by
  refine FnAt.of D zh0 (fun vs H Q E h => ?_) (fun f cdv A outer s H vs Q E hr h => ?_)
  . obtain ⟨g, as, rows, s, t, ns, x, y, rfl, _⟩ := h
    rfl
  . obtain ⟨g, as, rows, s, t, ns, x, y, rfl, G, h1, h2, h3, q⟩ := h
    refine ⟨_, (@zh _ _ _ (@zm _ _ _ _ (@zp _ _ _ _ _ _ _ _ ua (@zw _ _ _ _ _ _ _ z0 (@zw _ _ _ _ _ _ _ z0 (pv 0) (pv 2) (fun _ _ => rfl)) (pv 2) (fun _ _ => rfl)) (@zw _ _ _ _ _ _ _ z0 (@zw _ _ _ _ _ _ _ z0 (pv 0) (pv 2) (fun _ _ => rfl)) (pv 1) (fun _ _ => rfl))))), ?_⟩;rw [show start ["grid", "s", "t"] [V.ref g, V.int s, V.int t] = [some (V.ref g), some (V.int s), some (V.int t)] from rfl];simp only [ze, zd, ↓reduceIte];obtain ⟨r, e1, e2⟩ := zai G h1;exact ⟨_, G.1, _, e1, r, rfl, _, e2, _, x6 h2, _, G.1, _, e1, r, rfl, _, e2, _, x6 h3, _, rfl, _, rfl, q⟩
theorem ah (v8 : FnAt P w K mg base "turn" 1 ["grid", "s", "t"] (on K)) (D : zc K mg "gain" fi ["grid", "pays", "t", "s"]) : FnAt P w K mg base "gain" 2 ["grid", "pays", "t", "s"] (zb2 K) := by
  refine FnAt.of D zh2 (fun vs H Q E h => ?_) (fun f cdv A outer s H vs Q E hr h => ?_)
  . obtain ⟨g, p, as, rows, ps, n, s, t, rfl, _⟩ := h
    rfl
  . obtain ⟨g, p, as, rows, ps, n, s, t, rfl, G, hp, lp, hw, hs, ht, q⟩ := h
    refine ⟨_, (@zh _ _ _ (@zm _ _ _ _ (@zp _ _ _ _ _ _ _ _ ua (@zp _ _ _ _ _ _ _ _ ua (@zw _ _ _ _ _ _ _ z0 (pv 1) (pv 2) (fun _ _ => rfl)) (@zw _ _ _ _ _ _ _ z0 (pv 1) (pv 3) (fun _ _ => rfl))) (zg v8 (hr.mono (by decide)) rfl (za (pv 0) (za (pv 3) (za (pv 2) (@zb _)))))))), ?_⟩;rw [show start ["grid", "pays", "t", "s"] [V.ref g, V.ref p, V.int t, V.int s] = [some (V.ref g), some (V.ref p), some (V.int t), some (V.int s)] from rfl];simp only [ze, zd, ↓reduceIte];obtain ⟨ns, e1, l1⟩ := hw t ht;refine ⟨_, hp, _, x6 (oo (by omega)), _, hp, _, x6 (oo (by omega)), _, rfl, _, rfl, g, as, rows, s, t, ns, _, _, rfl, G, e1, oa e1 (by omega), oa e1 (by omega), ?_⟩;simp only [ze, zd, ↓reduceIte];exact q
theorem o8 (B : Bt mg) (ah : FnAt P w K mg base "gain" 2 ["grid", "pays", "t", "s"] (zb2 K)) (D : zc K mg "first_gain" sw ["grid", "pays"]) : FnAt P w K mg base "first_gain" 3 ["grid", "pays"] (spFG K) := by
  refine FnAt.of D sc_first_gain (fun vs H Q E h => ?_) (fun f cdv A outer s H vs Q E hr h => ?_)
  . obtain ⟨g, p, as, rows, ps, n, rfl, _⟩ := h
    rfl
  . obtain ⟨g, p, as, rows, ps, n, rfl, G, la, hp, lp, hn, hw, q0, q1⟩ := h
    refine ⟨_, (@zk _ _ _ _ _ (xk PassesOwn.never rfl (yn rfl B.range (za (zq zr rfl B.len yk (za (pv 0) (@zb _))) (@zb _))) (zl (i := 2) sc_first_gain.nd rfl (Or.inl rfl)) (@zh _ _ _ (xk PassesOwn.never rfl (yn rfl B.range (za (zq zr rfl B.len yk (za (pv 0) (@zb _))) (@zb _))) (zl (i := 3) sc_first_gain.nd rfl (Or.inl rfl)) (@zk _ _ _ _ _ (z8 (i := 4) sc_first_gain.nd rfl (Or.inl rfl) (zg ah (hr.mono (by decide)) rfl (za (pv 0) (za (pv 1) (za (pv 2) (za (pv 3) (@zb _))))))) (@zh _ _ _ (@xl _ _ _ _ _ _ _ _ (@y7 _ _ _ _ _ _ _ _ bv (pv 4) (@zj _ _ _ _) (yx _)) (@zh _ _ _ (@zm _ _ _ _ (@xw _ _ _ _ _ (za (pv 2) (za (pv 3) (za (pv 4) (@zb _))))))) (@yi _))))))) (@zh _ _ _ (@zm _ _ _ _ (@om _ _ _)))), ?_⟩;rw [show start ["grid", "pays", "t", "s", "more"] [V.ref g, V.ref p] = [some (V.ref g), some (V.ref p), none, none, none] from rfl];simp only [ze, zd, ↓reduceIte];refine ⟨_, .inl G.1, ?_⟩;rw [Za, la];refine ⟨by omega, by omega, ?_⟩;rw [Zw];refine xt (PvFG g p rows ps n 3 H) ⟨rfl, ⟨_, rfl, rfl⟩, fun t s h => by omega⟩ ?_ ?_
    . rintro i σ H4 hi ⟨rfl, ⟨vs, lv, rfl⟩, no⟩
      match vs, lv with
      | [v2, v3, v4], _ =>
      simp only [ze, zd, ↓reduceIte];refine ⟨_, .inl G.1, ?_⟩;rw [Za, la];refine ⟨by omega, by omega, ?_⟩;rw [Zw];refine xt (PvFG2 g p rows ps n 2 H4 i) ⟨rfl, ⟨_, rfl, rfl⟩, fun s h => by omega⟩ ?_ ?_
      . rintro j σ H5 hj ⟨rfl, ⟨vs, lv, rfl⟩, no2⟩
        match vs, lv with
        | [v3, v4], _ =>
        simp only [ze, zd, ↓reduceIte];refine ⟨g, p, as, rows, ps, n, j, i, rfl, G, hp, lp, hw, hj, hi, ?_⟩;simp only [ze, zd, ↓reduceIte];refine ite2 (fun h => ?_) fun h => ?_
        . refine ⟨by decide, q1 i j ⟨hi, hj, of_decide_eq_true h, fun t' s' h1 h2 h3 => ?_⟩⟩
          rcases h3 with z | ⟨rfl, z⟩
          . exact no t' s' z h2
          . exact no2 s' z
        . refine ⟨rfl, ⟨_, rfl, rfl⟩, fun s hs => ?_⟩
          by_cases e : s = j
          . subst e
            exact Int.not_lt.mp fun z => h (decide_eq_true z)
          . exact no2 s (by omega)
      . rintro σ H5 ⟨rfl, ⟨vs, lv, rfl⟩, no2⟩
        refine ⟨rfl, ⟨_, by simp [lv], rfl⟩, fun t s ht hs => ?_⟩
        by_cases e : t = i
        . subst e; exact no2 s hs
        . exact no t s (by omega) hs
    . rintro σ H4 ⟨rfl, ⟨vs, lv, rfl⟩, no⟩
      simp only [ze, zd, ↓reduceIte];exact q0 fun t s ht hs => no t s ht hs
end
def zy (rows : List (List Int)) (s t : Nat) : Int := gcA rows t t - gcA rows t s
theorem de (rows : List (List Int)) (t : Nat) : zy rows t t = 0 := by unfold zy; omega
def ic : Nat -> List Nat -> Nat
  | a, [] => a
  | _, w :: ws => ic w ws
abbrev nI (ws : List Nat) : List Int := ws.map fun w : Nat => ((w : Nat) : Int)
theorem zck : ∀ {ws : List Nat} {a : Nat}, ((nI (a :: ws)).map V.int) = ((nI (a :: ws)).map V.int).dropLast ++ [V.int (ic a ws)]
  | [], a => rfl
  | w :: ws, a => by
    have ih := @zck ws w
    show V.int a :: ((nI (w :: ws)).map V.int) = V.int a :: (((nI (w :: ws)).map V.int).dropLast ++ [V.int (ic w ws)])
    rw [<- ih]
theorem zco (a : Nat) (ws : List Nat) : atI ((nI (a :: ws)).map V.int) (-1) = some (V.int (ic a ws)) := by
  rw [zck]; exact zgn _ _
def wk (T : Nat -> Nat -> Int) : Nat -> List Nat -> Int
  | _, [] => 0
  | a, w :: ws => T a w + wk T w ws
def lst : Nat -> List Nat -> Nat
  | a, [] => a
  | _, w :: ws => lst w ws
theorem w6 : ∀ (ws : List Nat) (a x : Nat), lst a (ws ++ [x]) = x
  | [], _, _ => rfl
  | w :: ws, _, x => w6 ws w x
theorem d5 : ∀ (ps : List Nat) (a b : Nat) (ss : List Nat), lst a (ps ++ b :: ss) = lst b ss
  | [], _, _, _ => rfl
  | p :: ps, _, b, ss => d5 ps p b ss
theorem mz (T : Nat -> Nat -> Int) : ∀ (ps : List Nat) (a b : Nat) (ss : List Nat), wk T a (ps ++ b :: ss) = wk T a (ps ++ [b]) + wk T b ss
  | [], a, b, ss => by show T a b + wk T b ss = T a b + 0 + wk T b ss; omega
  | p :: ps, a, b, ss => by
    show T a p + wk T p (ps ++ b :: ss) = T a p + wk T p (ps ++ [b]) + wk T b ss
    rw [mz T ps p b ss]; omega
theorem uo (T : Nat -> Nat -> Int) : ∀ (ws : List Nat) (a x : Nat), wk T a (ws ++ [x]) = wk T a ws + T (lst a ws) x
  | [], a, x => by show T a x + 0 = 0 + T a x; omega
  | w :: ws, a, x => by
    show T a w + wk T w (ws ++ [x]) = T a w + wk T w ws + T (lst w ws) x
    rw [uo T ws w x]; omega
theorem zci : ∀ (ws : List Nat) (a : Nat), lst a ws ∈ a :: ws
  | [], a => by simp [lst]
  | w :: ws, a => Zv _ (zci ws w)
theorem uc : ∀ (ws : List Nat) (a : Nat), a :: ws = (a :: ws).dropLast ++ [lst a ws]
  | [], a => rfl
  | w :: ws, a => by
    have ih := uc ws w
    show a :: (w :: ws) = a :: ((w :: ws).dropLast ++ [lst w ws])
    rw [<- ih]
structure Wk (n k s t : Nat) (ws : List Nat) : Prop where
  len : ws.length = k
  lt : ∀ x ∈ ws, x < n
  to : lst s ws = t
structure Least (T : Nat -> Nat -> Int) (n k s t : Nat) (ws : List Nat) : Prop where
  w : Wk n k s t ws
  least : ∀ ws', Wk n k s t ws' -> wk T s ws <= wk T s ws'
theorem Least.one (T : Nat -> Nat -> Int) {n s t : Nat} (ht : t < n) : Least T n 1 s t [t] := by
  refine ⟨⟨rfl, fun x hx => by rw [ZC.mp hx]; exact ht, rfl⟩, fun ws' h => ?_⟩
  match ws', h.len, h.to with
  | [x], _, h2 =>
    have e : x = t := h2;subst e;exact Yt _
theorem Least.more {T : Nat -> Nat -> Int} {n k s t : Nat} (ht : t < n) (f : Nat -> List Nat) (hf : ∀ u, u < n -> Least T n k s u (f u)) (hk : 0 < k) {i : Nat} (hi : i < n) (hm : ∀ u, u < n -> wk T s (f i) + T i t <= wk T s (f u) + T u t) : Least T n (k + 1) s t (f i ++ [t]) := by
  have hi' := (hf i hi).w;refine ⟨⟨by rw [Zo, hi'.len]; rfl, fun x hx => ?_, w6 _ _ _⟩, fun ws' h => ?_⟩
  . rcases ZH.mp hx with z | z
    . exact hi'.lt x z
    . rw [ZC.mp z]; exact ht
  . have hne : ws' ≠ [] := by intro e; subst e; have := h.len; simp at this
    obtain ⟨w, r, rfl⟩ : ∃ w r, ws' = w :: r := by
      cases ws' with
      | nil => exact absurd rfl hne
      | cons w r => exact ⟨w, r, rfl⟩
    have e1 := uc r w;have e2 : lst w r = t := h.to;rw [e2] at e1;generalize hp : (w :: r).dropLast = p at e1;rw [e1] at h ⊢;rw [uo, uo];have hl : p.length = k := by have := h.len; rw [Zo] at this; simpa using this
    have hlt : ∀ x ∈ p, x < n := fun x hx => h.lt x (ZU _ hx)
    have hu : lst s p < n := by
      cases p with
      | nil => simp at hl; omega
      | cons y q => exact hlt _ (zci q y)
    have q := (hf (lst s p) hu).least p ⟨hl, hlt, rfl⟩;have q2 := hm (lst s p) hu;have q3 := hi'.to;rw [q3];omega
def NoNeg (T : Nat -> Nat -> Int) (n k : Nat) : Prop := ∀ s ws, s < n -> Wk n k s s ws -> 0 <= wk T s ws
theorem NoNeg.zero (T : Nat -> Nat -> Int) (n : Nat) : NoNeg T n 0 := fun s ws _ h => by
  have := h.len
  cases ws with
  | nil => exact Yt _
  | cons _ _ => simp at this
theorem NoNeg.one {T : Nat -> Nat -> Int} (h0 : ∀ t, T t t = 0) (n : Nat) : NoNeg T n 1 := fun s ws _ h => by
  match ws, h.len, h.to with
  | [x], _, h2 =>
    have e : x = s := h2;subst e
    show 0 <= T x x + 0
    rw [h0]; exact Yt _
theorem twice {l : List Nat} (h : ¬ l.Nodup) : ∃ x A B C, l = A ++ x :: (B ++ x :: C) := by
  induction l with
  | nil => exact absurd YH h
  | cons a r ih =>
    by_cases ha : a ∈ r
    . obtain ⟨B, C, e⟩ := List.append_of_mem ha
      exact ⟨a, [], B, C, by rw [e]; rfl⟩
    . have hr : ¬ r.Nodup := fun q => h (ZV.mpr ⟨ha, q⟩)
      obtain ⟨x, A, B, C, e⟩ := ih hr;exact ⟨x, a :: A, B, C, by rw [e]; rfl⟩
theorem parts {T : Nat -> Nat -> Int} {n k s : Nat} {ws : List Nat} (hs : s < n) (hk : 0 < k) (h : Wk n k s s ws) (hd : ¬ (s :: ws.dropLast).Nodup) (hno : ∀ j, j < k -> NoNeg T n j) : 0 <= wk T s ws := by
  obtain ⟨x, A, B, C, e⟩ := twice hd;have hne : ws ≠ [] := by intro q; subst q; have := h.len; simp at this; omega
  obtain ⟨w, r, rfl⟩ : ∃ w r, ws = w :: r := by
    cases ws with
    | nil => exact absurd rfl hne
    | cons w r => exact ⟨w, r, rfl⟩
  have e1 := uc r w;have e2 : lst w r = s := h.to;rw [e2] at e1;generalize hp : (w :: r).dropLast = p at e e1;rw [e1] at h ⊢;have hlen : p.length + 1 = k := by have := h.len; rw [Zo] at this; simpa using this
  have hlt := h.lt
  cases A with
  | nil =>
    injection e with ea eb
    subst ea;rw [eb] at hlen hlt ⊢;have l1 : B.length + 1 + C.length + 1 = k := by rw [Zo, ZL] at hlen; omega
    rw [List.append_assoc, List.cons_append, mz]
    have q1 := hno (B.length + 1) (by omega) s (B ++ [s]) hs ⟨by simp, fun y hy => hlt y (by
      simp only [ZH, ZK, ZC] at hy ⊢
      rcases hy with z | z
      . exact .inl (.inl z)
      . exact .inr (by simpa using z)), w6 _ _ _⟩
    have q2 := hno (C.length + 1) (by omega) s (C ++ [s]) hs ⟨by simp, fun y hy => hlt y (by
      simp only [ZH, ZK, ZC] at hy ⊢
      rcases hy with z | z
      . exact .inl (.inr (.inr z))
      . exact .inr (by simpa using z)), w6 _ _ _⟩
    omega
  | cons a A =>
    obtain ⟨ea, eb⟩ : s = a /\ p = A ++ x :: (B ++ x :: C) := by
      injection e with ea eb
      exact ⟨ea, eb⟩
    subst ea;rw [eb] at hlen hlt ⊢
    have l1 : A.length + 1 + B.length + 1 + C.length + 1 = k := by
      simp only [Zo, ZL] at hlen; omega
    have hx : x < n := hlt x (by simp);have e3 : (A ++ x :: (B ++ x :: C)) ++ [s] = A ++ x :: (B ++ x :: (C ++ [s])) := by simp
    rw [e3, mz, mz T B]
    have q1 := hno (B.length + 1) (by omega) x (B ++ [x]) hx ⟨by simp, fun y hy => hlt y (by
      simp only [ZH, ZK, ZC] at hy ⊢
      rcases hy with z | z
      . exact .inl (.inr (.inr (.inl z)))
      . exact .inl (.inr (.inl (by simpa using z)))), w6 _ _ _⟩
    have q2 := hno (A.length + 1 + (C.length + 1)) (by omega) s (A ++ x :: (C ++ [s])) hs ⟨by simp; omega, fun y hy => hlt y (by
      simp only [ZH, ZK, ZC] at hy ⊢
      rcases hy with z | z | z | z
      . exact .inl (.inl z)
      . exact .inl (.inr (.inl z))
      . exact .inl (.inr (.inr (.inr (.inr z))))
      . exact .inr (by simpa using z)), by rw [d5, w6]⟩
    rw [mz] at q2;omega
theorem few {n : Nat} : ∀ {l : List Nat}, l.Nodup -> (∀ x ∈ l, x < n) -> l.length <= n := by
  induction n with
  | zero =>
    intro l _ h
    cases l with
    | nil => exact Zm _
    | cons a r => exact absurd (h a ZA) (YR _)
  | succ n ih =>
    intro l hd h
    have q := ih (l := l.erase n) (hd.erase n) fun x hx => by
      have h1 := (List.Nodup.mem_erase_iff hd).mp hx;have h2 := h x h1.2;have h3 := h1.1;omega
    have z := List.length_erase (a := n) (l := l)
    split at z <;> omega
theorem NoNeg.all {T : Nat -> Nat -> Int} {n : Nat} (h : ∀ j, j <= n -> NoNeg T n j) : ∀ k, NoNeg T n k := by
  intro k
  induction k using Nat.strongRecOn with
  | ind k ih =>
    by_cases hk : k <= n
    . exact h k hk
    . intro s ws hs hw
      refine parts hs (by omega) hw (fun hd => ?_) ih;have hl : (s :: ws.dropLast).length = k := by rw [ZL, List.length_dropLast, hw.len]; omega
      have := few hd (fun x hx => by
        rcases ZK.mp hx with z | z
        . rw [z]; exact hs
        . exact hw.lt x (List.dropLast_subset _ z))
      omega
def rnd (T : Nat -> Nat -> Int) : List Nat -> Int
  | [] => 0
  | a :: ws => wk T a (ws ++ [a])
structure RingA (T : Nat -> Nat -> Int) (n : Nat) (c : List Nat) : Prop where
  two : 2 <= c.length
  nd : c.Nodup
  lt : ∀ x ∈ c, x < n
  neg : rnd T c < 0
  few : ∀ j, j < c.length -> NoNeg T n j
theorem RingA.of {T : Nat -> Nat -> Int} {n k s : Nat} {ws : List Nat} (h0 : ∀ t, T t t = 0) (hs : s < n) (h : Wk n k s s ws) (hneg : wk T s ws < 0) (hno : ∀ j, j < k -> NoNeg T n j) : RingA T n ((s :: ws).dropLast) := by
  have hk : 2 <= k := by
    rcases Nat.lt_or_ge k 2 with z | z
    . exfalso
      have : k = 0 \/ k = 1 := by omega
      rcases this with rfl | rfl
      . have := NoNeg.zero T n s ws hs h; omega
      . have := NoNeg.one h0 n s ws hs h; omega
    . exact z
  obtain ⟨w, r, rfl⟩ : ∃ w r, ws = w :: r := by
    cases ws with
    | nil => have := h.len; simp at this; omega
    | cons w r => exact ⟨w, r, rfl⟩
  have e0 : (s :: w :: r).dropLast = s :: (w :: r).dropLast := rfl;have e1 := uc r w;have e2 : lst w r = s := h.to;rw [e2] at e1;rw [e0];have hl : (s :: (w :: r).dropLast).length = k := by rw [ZL, List.length_dropLast, h.len]; omega
  refine ⟨by rw [hl]; exact hk, Classical.byContradiction fun hd => ?_, fun x hx => ?_, ?_, fun j hj => hno j (by rw [hl] at hj; exact hj)⟩
  . have := parts hs (by omega) h hd hno
    omega
  . rcases ZK.mp hx with z | z
    . rw [z]; exact hs
    . exact h.lt x (List.dropLast_subset _ z)
  . show wk T s ((w :: r).dropLast ++ [s]) < 0
    rw [<- e1]; exact hneg
theorem zdt : ∀ (ws : List Nat) (a : Nat), lst a ws = ic a ws
  | [], _ => rfl
  | w :: ws, _ => zdt ws w
def WalkAt (H : Hp) (v : V) (T : Nat -> Nat -> Int) (s : Nat) (ws : List Nat) : Prop := ∃ p l, v = .ref p /\ H p = some (.tup [.int (wk T s ws), .ref l]) /\ H l = some (.lst ((nI (s :: ws)).map V.int))
def RowAt (H : Hp) (v : V) (T : Nat -> Nat -> Int) (n k s : Nat) : Prop := ∃ r xs, v = .ref r /\ H r = some (.lst xs) /\ xs.length = n /\ ∀ t, t < n -> ∃ x ws, xs[t]? = some x /\ WalkAt H x T s ws /\ Least T n k s t ws
def RowsAt (H : Hp) (v : V) (T : Nat -> Nat -> Int) (n k : Nat) : Prop := ∃ r xs, v = .ref r /\ H r = some (.lst xs) /\ xs.length = n /\ ∀ s, s < n -> ∃ x, xs[s]? = some x /\ RowAt H x T n k s
theorem WalkAt.mono {H H' : Hp} {v : V} {T : Nat -> Nat -> Int} {s : Nat} {ws : List Nat} (S : Same H H') (h : WalkAt H v T s ws) : WalkAt H' v T s ws := by
  obtain ⟨p, l, e, h1, h2⟩ := h;exact ⟨p, l, e, S _ _ h1, S _ _ h2⟩
theorem RowAt.mono {H H' : Hp} {v : V} {T : Nat -> Nat -> Int} {n k s : Nat} (S : Same H H') (h : RowAt H v T n k s) : RowAt H' v T n k s := by
  obtain ⟨r, xs, e, h1, h2, h3⟩ := h
  exact ⟨r, xs, e, S _ _ h1, h2, fun t ht => by
    obtain ⟨x, ws, e1, e2, e3⟩ := h3 t ht
    exact ⟨x, ws, e1, e2.mono S, e3⟩⟩
theorem RowsAt.mono {H H' : Hp} {v : V} {T : Nat -> Nat -> Int} {n k : Nat} (S : Same H H') (h : RowsAt H v T n k) : RowsAt H' v T n k := by
  obtain ⟨r, xs, e, h1, h2, h3⟩ := h
  exact ⟨r, xs, e, S _ _ h1, h2, fun s hs => by
    obtain ⟨x, e1, e2⟩ := h3 s hs
    exact ⟨x, e1, e2.mono S⟩⟩
def RowPre (H0 : Hp) (T : Nat -> Nat -> Int) (n k s : Nat) (i : Nat) (ys : List V) (H2 : Hp) : Prop := Same H0 H2 /\ ys.length = i /\ ∀ t, t < i -> ∃ x ws, ys[t]? = some x /\ WalkAt H2 x T s ws /\ Least T n k s t ws
theorem RowPre.snoc {H0 H2 H3 : Hp} {T : Nat -> Nat -> Int} {n k s i : Nat} {ys : List V} {x : V} {ws : List Nat} (h : RowPre H0 T n k s i ys H2) (S : Same H2 H3) (hx : WalkAt H3 x T s ws) (hl : Least T n k s i ws) : RowPre H0 T n k s (i + 1) (ys ++ [x]) H3 := by
  obtain ⟨h1, h2, h3⟩ := h;refine ⟨h1.trans S, by rw [Zo, h2]; rfl, fun t ht => ?_⟩
  by_cases e : t < i
  . obtain ⟨y, us, e1, e2, e3⟩ := h3 t e
    exact ⟨y, us, by rw [Zg (by omega)]; exact e1, e2.mono S, e3⟩
  . have : t = i := by omega
    subst this;exact ⟨x, ws, by rw [Zf (by omega), h2]; simp, hx, hl⟩
theorem RowPre.done {H0 H2 : Hp} {T : Nat -> Nat -> Int} {n k s : Nat} {ys : List V} {l : Addr} (h : RowPre H0 T n k s n ys H2) (hl : H2 l = none) : Same H0 (upd H2 l (.lst ys)) /\ RowAt (upd H2 l (.lst ys)) (.ref l) T n k s := by
  obtain ⟨h1, h2, h3⟩ := h;have S : Same H2 (upd H2 l (.lst ys)) := Same.upd (Same.refl _) hl;refine ⟨h1.trans S, l, ys, rfl, zf, h2, fun t ht => ?_⟩;obtain ⟨y, us, e1, e2, e3⟩ := h3 t ht;exact ⟨y, us, e1, e2.mono S, e3⟩
def RowsPre (H0 : Hp) (T : Nat -> Nat -> Int) (n k : Nat) (i : Nat) (ys : List V) (H2 : Hp) : Prop := Same H0 H2 /\ ys.length = i /\ ∀ t, t < i -> ∃ x, ys[t]? = some x /\ RowAt H2 x T n k t
theorem RowsPre.snoc {H0 H2 H3 : Hp} {T : Nat -> Nat -> Int} {n k i : Nat} {ys : List V} {x : V} (h : RowsPre H0 T n k i ys H2) (S : Same H2 H3) (hx : RowAt H3 x T n k i) : RowsPre H0 T n k (i + 1) (ys ++ [x]) H3 := by
  obtain ⟨h1, h2, h3⟩ := h;refine ⟨h1.trans S, by rw [Zo, h2]; rfl, fun t ht => ?_⟩
  by_cases e : t < i
  . obtain ⟨y, e1, e2⟩ := h3 t e
    exact ⟨y, by rw [Zg (by omega)]; exact e1, e2.mono S⟩
  . have : t = i := by omega
    subst this;exact ⟨x, by rw [Zf (by omega), h2]; simp, hx⟩
theorem RowsPre.done {H0 H2 : Hp} {T : Nat -> Nat -> Int} {n k : Nat} {ys : List V} {l : Addr} (h : RowsPre H0 T n k n ys H2) (hl : H2 l = none) : Same H0 (upd H2 l (.lst ys)) /\ RowsAt (upd H2 l (.lst ys)) (.ref l) T n k := by
  obtain ⟨h1, h2, h3⟩ := h;have S : Same H2 (upd H2 l (.lst ys)) := Same.upd (Same.refl _) hl;refine ⟨h1.trans S, l, ys, rfl, zf, h2, fun t ht => ?_⟩;obtain ⟨y, e1, e2⟩ := h3 t ht;exact ⟨y, e1, e2.mono S⟩
structure Gd (K : Fg) (H : Hp) (g : Addr) (rows : List (List Int)) (n : Nat) : Prop where
  ex : ∃ as, GridL K H g as rows /\ as.length = n
  sq : bz rows n
  n8 : n <= 8
theorem Gd.mono {K : Fg} {H H' : Hp} {g : Addr} {rows : List (List Int)} {n : Nat} (S : Same H H') (G : Gd K H g rows n) : Gd K H' g rows n := by
  obtain ⟨as, h1, h2⟩ := G.ex;exact ⟨⟨as, GridL.mono S h1, h2⟩, G.sq, G.n8⟩
theorem nw {K : Fg} {H : Hp} {g : Addr} {rows : List (List Int)} {n s t : Nat} {Q : VK} {E : XK} (G : Gd K H g rows n) (hs : s < n) (ht : t < n) (q : Q (.int (zy rows s t)) H) : on K [.ref g, .int s, .int t] H Q E := by
  obtain ⟨as, h1, h2⟩ := G.ex;obtain ⟨ns, e1, l1⟩ := G.sq t ht;exact ⟨g, as, rows, s, t, ns, _, _, rfl, h1, e1, oa e1 (by omega), oa e1 (by omega), q⟩
def og : Sp := fun vs H Q _ => ∃ (p : Addr) (i : Int) (l : V), vs = [.ref p] /\ H p = some (.tup [.int i, l]) /\ Q (.int i) H
def jm : Sp := fun vs H Q _ => ∃ (p : Addr) (i : Int) (l : V), vs = [.ref p] /\ H p = some (.tup [.int i, l]) /\ Q l H
def spOne (K : Fg) : Sp := fun vs H Q _ => ∃ (g : Addr) (rows : List (List Int)) (n s : Nat), vs = [.ref g, .int s] /\ Gd K H g rows n /\ s < n /\ ∀ H' v, Same H H' -> RowAt H' v (zy rows) n 1 s -> Q v H'
def zb3 (K : Fg) : Sp := fun vs H Q _ => ∃ (g : Addr) (rows : List (List Int)) (v : V) (n k s t : Nat), vs = [.ref g, v, .int t] /\ Gd K H g rows n /\ RowAt H v (zy rows) n k s /\ t < n /\ s < n /\ 0 < k /\ k <= 100 /\
  ∀ H' x ws, Same H H' -> WalkAt H' x (zy rows) s ws -> Least (zy rows) n (k + 1) s t ws -> Q x H'
def zej (K : Fg) : Sp := fun vs H Q _ => ∃ (g : Addr) (rows : List (List Int)) (v : V) (n k s : Nat), vs = [.ref g, v] /\ Gd K H g rows n /\ RowAt H v (zy rows) n k s /\ s < n /\ 0 < k /\ k <= 100 /\
  ∀ H' v', Same H H' -> RowAt H' v' (zy rows) n (k + 1) s -> Q v' H'
def zan : Sp := fun vs H Q _ => ∃ (T : Nat -> Nat -> Int) (v : V) (n k : Nat), vs = [v] /\ RowsAt H v T n k /\ 0 < k /\ n <= 8 /\ (∀ H', Same H H' -> NoNeg T n k -> Q .non H') /\
  ∀ H' s ws l, Same H H' -> H' l = some (.lst ((nI ((s :: ws).dropLast)).map V.int)) -> s < n -> Wk n k s s ws -> wk T s ws < 0 -> Q (.ref l) H'
def zdz (K : Fg) : Sp := fun vs H Q _ => ∃ (g : Addr) (rows : List (List Int)) (n : Nat), vs = [.ref g] /\ Gd K H g rows n /\ 0 < n /\ (∀ H', Same H H' -> (∀ j, j <= n -> NoNeg (zy rows) n j) -> Q .non H') /\
  ∀ H' l c, Same H H' -> H' l = some (.lst ((nI c).map V.int)) -> RingA (zy rows) n c -> Q (.ref l) H'
section
variable {P : Program} {w : World} {K : Fg} {mg : Str -> Option Value} {base : Heap}
theorem xm (D : zc K mg "total_of" pc ["walk"]) : FnAt P w K mg base "total_of" 1 ["walk"] og := by
  refine FnAt.of D zbk (fun vs H Q E h => ?_) (fun f cdv A outer s H vs Q E hr h => ?_)
  . obtain ⟨p, i, l, rfl, _⟩ := h
    rfl
  . obtain ⟨p, i, l, rfl, hp, q⟩ := h
    refine ⟨_, (@zh _ _ _ (@zm _ _ _ _ (@zw _ _ _ _ _ _ _ yq (pv 0) (@zj _ _ _ _) (fun _ _ => rfl)))), ?_⟩;rw [show start ["walk"] [V.ref p] = [some (V.ref p)] from rfl];simp only [ze, zd, ↓reduceIte];exact ⟨_, .of hp, _, ya (j := 0) rfl, q⟩
theorem t8 (D : zc K mg "words_of" p6 ["walk"]) : FnAt P w K mg base "words_of" 1 ["walk"] jm := by
  refine FnAt.of D zbl (fun vs H Q E h => ?_) (fun f cdv A outer s H vs Q E hr h => ?_)
  . obtain ⟨p, i, l, rfl, _⟩ := h
    rfl
  . obtain ⟨p, i, l, rfl, hp, q⟩ := h
    refine ⟨_, (@zh _ _ _ (@zm _ _ _ _ (@zw _ _ _ _ _ _ _ yq (pv 0) (@zj _ _ _ _) (fun _ _ => rfl)))), ?_⟩;rw [show start ["walk"] [V.ref p] = [some (V.ref p)] from rfl];simp only [ze, zd, ↓reduceIte];exact ⟨_, .of hp, _, ya (j := 1) rfl, q⟩
theorem vq (B : Bt mg) (v8 : FnAt P w K mg base "turn" 1 ["grid", "s", "t"] (on K)) (D : zc K mg "walks_of_one_turn" wp ["grid", "s"]) : FnAt P w K mg base "walks_of_one_turn" 2 ["grid", "s"] (spOne K) := by
  refine FnAt.of D l8 (fun vs H Q E h => ?_) (fun f cdv A outer s H vs Q E hr h => ?_)
  . obtain ⟨g, rows, n, s, rfl, _⟩ := h
    rfl
  . obtain ⟨g, rows, n, s, rfl, G, hs, q⟩ := h
    have n8 := G.n8;refine ⟨_, (@zh _ _ _ (@zm _ _ _ _ (z7 ["t"] ["grid", "s"] rfl (yn rfl B.range (za (zq zr rfl B.len yk (za (pv 0) (@zb _))) (@zb _))) (fun _ => (zl (i := 0) (show (["t", "grid", "s"] : List Str).Nodup by decide +kernel) rfl (Or.inl rfl))) (fun _ => (@zt _)) (fun _ => (@xw _ _ _ _ _ (@za _ _ _ _ _ (zg v8 (hr.mono (by decide)) rfl (@za _ _ _ _ _ (pv 1) (@za _ _ _ _ _ (pv 2) (@za _ _ _ _ _ (pv 0) (@zb _) (yj nofun)) (yj nofun)) (yj nofun))) (@za _ _ _ _ _ (@vm _ _ _ _ (@za _ _ _ _ _ (pv 2) (@za _ _ _ _ _ (pv 0) (@zb _) (yj nofun)) (yj nofun))) (@zb _) (yj nofun)) (yj nofun)))) rfl (by decide +kernel) rfl rfl))), ?_⟩;rw [show start ["grid", "s"] [V.ref g, V.int s] = [some (V.ref g), some (V.int s)] from rfl];simp only [ze, zd, ↓reduceIte];obtain ⟨as, h1, h2⟩ := G.ex;refine ⟨_, .inl h1.1, ?_⟩;rw [Za, h2];refine ⟨by omega, by omega, fun d => ?_⟩;rw [Zw];refine xy (RowPre H (zy rows) n 1 s) ⟨Same.refl _, rfl, fun t ht => by omega⟩ ?_ ?_ ?_
    . rintro i ys H' hi h
      rw [h.2.1];exact Zd hi (Zd n8 (by decide))
    . rintro i ys H' hi h
      simp only [ze, zd, ↓reduceIte];refine nw (G.mono h.1) hs hi ?_;refine ⟨by show 2 <= sizeLine; decide, fun l hl => ⟨by show 2 <= sizeLine; decide, fun p hp => ?_⟩⟩;have S1 : Same H' (upd H' l (.lst [V.int s, V.int i])) := Same.upd (Same.refl _) hl;have S2 : Same (upd H' l (.lst [V.int s, V.int i])) (upd (upd H' l (.lst [V.int s, V.int i])) p (.tup [V.int (zy rows s i), V.ref l])) := Same.upd (Same.refl _) hp;refine h.snoc (ws := [i]) (S1.trans S2) ⟨p, l, rfl, ?_, S2 _ _ zf⟩ (Least.one _ hi);rw [zf]
      show _ = some (HO.tup [V.int (zy rows s i + 0), V.ref l])
      rw [Int.add_zero]
    . rintro ys H' h l hl
      obtain ⟨S, R⟩ := h.done hl;exact q _ _ S R
end
theorem zb0 (ws : List Nat) (t : Nat) : (nI ws).map V.int ++ [V.int t] = (nI (ws ++ [t])).map V.int := by simp [nI]
theorem zgo (xs : List V) : cutV xs none (some (-1)) = xs.dropLast := by
  unfold cutV;rw [HT.sIx_none, List.drop_zero, Nat.sub_zero, YA]
  congr 1
  unfold HT.sIx;simp;omega
theorem zbn (ws : List Nat) : ((nI ws).map V.int).dropLast = (nI ws.dropLast).map V.int := by
  rw [YA, YA, nI, nI, <- List.map_take, <- List.map_take];simp
theorem zdf {H : Hp} {T : Nat -> Nat -> Int} {n k s : Nat} {xs : List V} (h : ∀ t, t < n -> ∃ x ws, xs[t]? = some x /\ WalkAt H x T s ws /\ Least T n k s t ws) :
    ∃ f : Nat -> List Nat, ∀ t, t < n -> Least T n k s t (f t) /\ ∀ x, xs[t]? = some x -> WalkAt H x T s (f t) := by
  refine ⟨fun t => if ht : t < n then Classical.choose (Classical.choose_spec (h t ht)) else [], fun t ht => ?_⟩;have z := Classical.choose_spec (Classical.choose_spec (h t ht));simp only [ht, dif_pos];refine ⟨z.2.2, fun x hx => ?_⟩;rw [z.1] at hx;cases hx;exact z.2.1
def zcc (K : Fg) : Sp := fun vs H Q _ => ∃ (g l : Addr) (rows : List (List Int)) (ts : List Int) (n t : Nat), vs = [.ref g, .ref l, .int t] /\ Gd K H g rows n /\ 0 < n /\ SqL K H l (ts.map V.int) /\ ts.length = n /\ t < n /\ ∀ H' m, Same H H' -> Q (.int m) H'
def zc6 (H : Hp) (i : Nat) (ys : List V) (H' : Hp) : Prop := Same H H' /\ ∃ ns : List Int, ns.length = i /\ ys = ns.map V.int
def HonA (rows : List (List Int)) (ps : List Int) (n : Nat) : Prop := ∀ t s : Nat, t < n -> s < n -> gcA rows t s - gcA rows t t <= ps.getD s 0 - ps.getD t 0
def spHas (K : Fg) : Sp := fun vs H Q _ => ∃ (g : Addr) (rows : List (List Int)) (n : Nat), vs = [.ref g] /\ Gd K H g rows n /\ 0 < n /\ ∀ H' (b : Bool), Same H H' -> (b = true -> ∃ ps : List Int, HonA rows ps n) -> Q (.bl b) H'
def PvTotH (H : Hp) (g : Addr) (n : Nat) (i : Nat) (σ : L2.St) (H' : Hp) : Prop := Same H H' /\ ∃ (l : Addr) (ts : List Int) (v : Option V), H' l = some (.lst (ts.map V.int)) /\ ts.length = n /\ σ = [some (.ref g), some (.ref l), v]
theorem zcf {rows : List (List Int)} {ps : List Int} {n : Nat} (h : HonA rows ps n) : ∀ (ws : List Nat) (s : Nat), s < n -> (∀ x ∈ ws, x < n) -> ps.getD (lst s ws) 0 - ps.getD s 0 <= wk (zy rows) s ws
  | [], s, _, _ => by show ps.getD s 0 - ps.getD s 0 <= 0; omega
  | w :: ws, s, hs, hw => by
    have hw' := hw w ZA;have h1 := zcf h ws w hw' fun x hx => hw x (Zv _ hx)
    have h2 := h w s hw' hs
    show ps.getD (lst w ws) 0 - ps.getD s 0 <= zy rows s w + wk (zy rows) w ws
    unfold zy;unfold zy at h1;omega
theorem HonA.no {rows : List (List Int)} {ps : List Int} {n : Nat} (h : HonA rows ps n) (j : Nat) : NoNeg (zy rows) n j := fun s ws hs W => by
  have := zcf h ws s hs W.lt;rw [W.to] at this;omega
section
variable {P : Program} {w : World} {K : Fg} {mg : Str -> Option Value} {base : Heap}
theorem su (B : Bt mg) (v8 : FnAt P w K mg base "turn" 1 ["grid", "s", "t"] (on K)) (xm : FnAt P w K mg base "total_of" 1 ["walk"] og) (D : zc K mg "least_to" sf ["grid", "walks", "t"]) : FnAt P w K mg base "least_to" 3 ["grid", "walks", "t"] (zb3 K) := by
  refine FnAt.of D sc_least_to (fun vs H Q E h => ?_) (fun f cdv A outer s H vs Q E hr h => ?_)
  . obtain ⟨g, rows, v, n, k, s, t, rfl, _⟩ := h
    rfl
  . obtain ⟨g, rows, v, n, k, s, t, rfl, G, R, ht, hs, hk, hk2, q⟩ := h
    have n8 := G.n8;obtain ⟨r, xs, rfl, hr1, hlen, hall⟩ := R;obtain ⟨fw, hfw⟩ := zdf hall;refine ⟨_, (@zk _ _ _ _ _ (va (i := 3) ["total", "words"] ["grid", "walks", "t", "longer"] sc_least_to.nd rfl rfl rfl (@z9 _ _ _ _ (pv 1)) (fun _ => (qo rfl (y6 (zl (i := 0) (show (["total", "words", "grid", "walks", "t", "longer"] : List Str).Nodup by decide +kernel) rfl (Or.inl rfl)) (y6 (zl (i := 1) (show (["total", "words", "grid", "walks", "t", "longer"] : List Str).Nodup by decide +kernel) rfl (Or.inl rfl)) (@t6 _))))) (fun _ => (@zt _)) (fun _ => (@xw _ _ _ _ _ (za (@zp _ _ _ _ _ _ _ _ xj (pv 0) (zg v8 (hr.mono (by decide)) rfl (za (pv 2) (za (@zw _ _ _ _ _ _ _ z0 (pv 1) (@zdc _ _ _ _ _ _ bx (@zj _ _ _ _)) (fun _ _ => rfl)) (za (pv 4) (@zb _)))))) (za (@zp _ _ _ _ _ _ _ _ b7 (pv 1) (@vm _ _ _ _ (za (pv 4) (@zb _)))) (@zb _))))) rfl (by decide +kernel) rfl rfl rfl) (@zh _ _ _ (@zm _ _ _ _ (zcq xm (hr.mono (by decide)) rfl rfl B.min rfl (za (pv 3) (@zb _)))))), ?_⟩;rw [show start ["grid", "walks", "t", "longer"] [V.ref g, V.ref r, V.int t] = [some (V.ref g), some (V.ref r), some (V.int t), none] from rfl];simp only [ze, zd, ↓reduceIte];refine ⟨⟨_, .of hr1⟩, fun d => ?_⟩;refine zz (xs := xs) (fun i ys H2 => Same H H2 /\ ys.length = i /\ ∀ u, u < i -> ∃ x, ys[u]? = some x /\ WalkAt H2 x (zy rows) s (fw u ++ [t])) ⟨Same.refl _, rfl, fun u hu => by omega⟩ ?_ ?_ ?_
    . rintro i ys H2 hi ⟨S, hl, _⟩
      exact ⟨by rw [hl]; rw [hlen] at hi; exact Zd hi (Zd n8 (by decide)), S.seq (.of hr1)⟩
    . rintro i x ys H2 hx ⟨S, hl, hy⟩
      have hi : i < n := by rw [<- hlen]; exact (Zc.mp hx).1
      obtain ⟨hL, hW⟩ := hfw i hi;obtain ⟨p, l, rfl, hp, hl1⟩ := hW x hx;have hp2 := S _ _ hp;have hl2 := S _ _ hl1;have hto := hL.w.to;rw [zdt] at hto;simp only [ze, zd, ↓reduceIte];refine ⟨_, .of hp2, rfl, ?_⟩;simp only [ze, zd, ↓reduceIte];refine ⟨_, .of hl2, _, zco s (fw i), ?_⟩;rw [hto];refine nw (G.mono S) hi ht ?_;simp only [ze, zd, ↓reduceIte];refine ⟨by show 1 <= sizeLine; decide, fun b hb => ?_⟩;have S1 : Same H2 (upd H2 b (.lst [V.int t])) := Same.upd (Same.refl _) hb;refine ⟨_, S1 _ _ hl2, _, zf, ?_, fun c hc => ⟨by show 2 <= sizeLine; decide, fun e he => ?_⟩⟩
      . have := hL.w.len
        simp only [nI, Za, ZL, ZW, this];exact Zd (show k + 1 + 1 <= 102 by omega) (by decide)
      . have S2 : Same (upd H2 b (.lst [V.int t])) (upd (upd H2 b (.lst [V.int t])) c (.lst ((nI (s :: fw i)).map V.int ++ [V.int t]))) := Same.upd (Same.refl _) hc
        have S3 := Same.upd (o := .tup [V.int (wk (zy rows) s (fw i) + zy rows i t), V.ref c]) (Same.refl (upd (upd H2 b (.lst [V.int t])) c (.lst ((nI (s :: fw i)).map V.int ++ [V.int t])))) he;refine ⟨S.trans (S1.trans (S2.trans S3)), by simp [hl], fun u hu => ?_⟩
        by_cases eu : u < i
        . obtain ⟨x, e1, e2⟩ := hy u eu
          exact ⟨x, by rw [Zg (by omega)]; exact e1, e2.mono (S1.trans (S2.trans S3))⟩
        . have : u = i := by omega
          subst this;refine ⟨.ref e, by rw [Zf (by omega), hl]; simp, e, c, rfl, ?_, ?_⟩
          . rw [zf, uo, hL.w.to]
          . exact S3 _ _ (by rw [zf, zb0]; rfl)
    . rintro ys H2 ⟨S, hl, hy⟩ lo hlo
      rw [hlen] at hl hy;have S1 : Same H2 (upd H2 lo (.lst ys)) := Same.upd (Same.refl _) hlo;refine ⟨ys, .of zf, by omega, fun u => wk (zy rows) s (fw u ++ [t]), fun i x hx => ?_, fun i x hx hm => ?_⟩
      . have hi : i < n := by rw [<- hl]; exact (Zc.mp hx).1
        obtain ⟨x', e1, p, l, e2, hp, hl1⟩ := hy i hi;rw [hx] at e1;cases e1;subst e2;exact ⟨p, _, _, rfl, S1 _ _ hp, rfl, rfl⟩
      . have hi : i < n := by rw [<- hl]; exact (Zc.mp hx).1
        obtain ⟨x', e1, hw⟩ := hy i hi;rw [hx] at e1;cases e1;refine q _ _ _ (S.trans S1) (hw.mono S1) (Least.more ht fw (fun u hu => (hfw u hu).1) hk hi fun u hu => ?_);have z : wk (zy rows) s (fw i ++ [t]) <= wk (zy rows) s (fw u ++ [t]) := (hm u (by omega)).1;rw [uo, uo, (hfw i hi).1.w.to, (hfw u hu).1.w.to] at z;exact z
theorem ub (B : Bt mg) (su : FnAt P w K mg base "least_to" 3 ["grid", "walks", "t"] (zb3 K)) (D : zc K mg "lengthened" v7 ["grid", "walks"]) : FnAt P w K mg base "lengthened" 4 ["grid", "walks"] (zej K) := by
  refine FnAt.of D jc (fun vs H Q E h => ?_) (fun f cdv A outer s H vs Q E hr h => ?_)
  . obtain ⟨g, rows, v, n, k, s, rfl, _⟩ := h
    rfl
  . obtain ⟨g, rows, v, n, k, s, rfl, G, R, hs, hk, hk2, q⟩ := h
    have n8 := G.n8;refine ⟨_, (@zh _ _ _ (@zm _ _ _ _ (z7 ["t"] ["grid", "walks"] rfl (yn rfl B.range (za (zq zr rfl B.len yk (za (pv 0) (@zb _))) (@zb _))) (fun _ => (zl (i := 0) (show (["t", "grid", "walks"] : List Str).Nodup by decide +kernel) rfl (Or.inl rfl))) (fun _ => (@zt _)) (fun _ => (zg su (hr.mono (by decide)) rfl (za (pv 1) (za (pv 2) (za (pv 0) (@zb _)))))) rfl (by decide +kernel) rfl rfl))), ?_⟩;rw [show start ["grid", "walks"] [V.ref g, v] = [some (V.ref g), some v] from rfl];simp only [ze, zd, ↓reduceIte];obtain ⟨as, h1, h2⟩ := G.ex;refine ⟨_, .inl h1.1, ?_⟩;rw [Za, h2];refine ⟨by omega, by omega, fun d => ?_⟩;rw [Zw];refine xy (RowPre H (zy rows) n (k + 1) s) ⟨Same.refl _, rfl, fun t ht => by omega⟩ ?_ ?_ ?_
    . rintro i ys H' hi h
      rw [h.2.1];exact Zd hi (Zd n8 (by decide))
    . rintro i ys H' hi h
      simp only [ze, zd, ↓reduceIte];exact ⟨g, rows, v, n, k, s, i, rfl, G.mono h.1, R.mono h.1, hi, hs, hk, hk2, fun H2 x ws S1 hw hl => h.snoc S1 hw hl⟩
    . rintro ys H' h l hl
      obtain ⟨S, R⟩ := h.done hl;exact q _ _ S R
theorem vt (B : Bt mg) (xm : FnAt P w K mg base "total_of" 1 ["walk"] og) (t8 : FnAt P w K mg base "words_of" 1 ["walk"] jm) (D : zc K mg "closed_below_zero" wq ["rows"]) : FnAt P w K mg base "closed_below_zero" 2 ["rows"] zan := by
  refine FnAt.of D sc_closed_below_zero (fun vs H Q E h => ?_) (fun f cdv A outer s H vs Q E hr h => ?_)
  . obtain ⟨T, v, n, k, rfl, _⟩ := h
    rfl
  . obtain ⟨T, v, n, k, rfl, ⟨r, xs, rfl, hr1, hlen, hall⟩, hk, n8, q0, q1⟩ := h
    refine ⟨_, (@zk _ _ _ _ _ (xk PassesOwn.never rfl (jx rfl B.enumerate (za (pv 0) (@zb _))) (qo rfl (y6 (zl (i := 1) sc_closed_below_zero.nd rfl (Or.inl rfl)) (y6 (zl (i := 2) sc_closed_below_zero.nd rfl (Or.inl rfl)) (@t6 _)))) (@zh _ _ _ (@xl _ _ _ _ _ _ _ _ (@y7 _ _ _ _ _ _ _ _ fj (zg xm (hr.mono (by decide)) rfl (za (@zw _ _ _ _ _ _ _ z0 (pv 2) (pv 1) (fun _ _ => rfl)) (@zb _))) (@zj _ _ _ _) (yx _)) (@zh _ _ _ (@zm _ _ _ _ (@vg _ _ _ _ _ _ _ _ _ _ dn (zg t8 (hr.mono (by decide)) rfl (za (@zw _ _ _ _ _ _ _ z0 (pv 2) (pv 1) (fun _ _ => rfl)) (@zb _))) (@uk _) (@uf _ _ _ (@zdc _ _ _ _ _ _ bx (@zj _ _ _ _)))))) (@yi _)))) (@zh _ _ _ (@zm _ _ _ _ (@om _ _ _)))), ?_⟩;rw [show start ["rows", "s", "walks"] [V.ref r] = [some (V.ref r), none, none] from rfl];simp only [ze, zd, ↓reduceIte];refine ⟨⟨_, .of hr1⟩, ?_⟩;refine zf1 (xs := xs) (fun i σ H2 => Same H H2 /\ (∃ v1 v2, σ = [some (.ref r), v1, v2]) /\ ∀ s, s < i -> ∀ ws, Wk n k s s ws -> 0 <= wk T s ws) ⟨Same.refl _, ⟨_, _, rfl⟩, fun s hs => by omega⟩ ?_ ?_ ?_
    . rintro i σ H2 hi ⟨S, _, _⟩
      exact S.seq (.of hr1)
    . rintro i x σ H2 U hx hU ⟨S, ⟨v1, v2, rfl⟩, no⟩
      have hi : i < n := by rw [<- hlen]; exact (Zc.mp hx).1
      obtain ⟨x', e1, R⟩ := hall i hi;rw [hx] at e1;cases e1;obtain ⟨r2, zs, rfl, hr2, hl2, hz⟩ := R;obtain ⟨y, ws, e2, hw, hL⟩ := hz i hi;obtain ⟨p, l, rfl, hp, hl1⟩ := hw;have SU : Same H (upd H2 U (.tup [V.int i, V.ref r2])) := Same.upd S (S.free hU);simp only [ze, zd, ↓reduceIte];refine ⟨_, .of zf, rfl, ?_⟩;simp only [ze, zd, ↓reduceIte];refine ⟨_, .of (SU _ _ hr2), _, ya e2, p, _, _, rfl, SU _ _ hp, ?_⟩;simp only [ze, zd, ↓reduceIte];refine ite2 (fun h => ?_) (fun h => ?_)
      . refine ⟨_, .of (SU _ _ hr2), _, ya e2, p, _, _, rfl, SU _ _ hp, ?_⟩
        simp only [ze, zd, ↓reduceIte];refine ⟨_, .of (SU _ _ hl1), fun b hb => ?_⟩;refine q1 _ i ws b (Same.upd SU (SU.free hb)) ?_ hi hL.w (of_decide_eq_true h);rw [zf, show (-1 : Int) = -1 from rfl, zgo, zbn]
      . refine ⟨SU, fun s hs us hu => ?_⟩
        by_cases e : s < i
        . exact no s e us hu
        . have : s = i := by omega
          subst this;have z := hL.least us hu;have : ¬ wk T s ws < 0 := fun y => h (decide_eq_true y)
          omega
    . rintro σ H2 ⟨S, ⟨v1, v2, rfl⟩, no⟩
      simp only [ze, zd, ↓reduceIte];exact q0 _ S fun s ws hs hw => no s (by omega) ws hw
theorem rh (B : Bt mg) (v8 : FnAt P w K mg base "turn" 1 ["grid", "s", "t"] (on K)) (D : zc K mg "after_a_turn" ui ["grid", "totals", "t"]) : FnAt P w K mg base "after_a_turn" 2 ["grid", "totals", "t"] (zcc K) := by
  refine FnAt.of D eg (fun vs H Q E h => ?_) (fun f cdv A outer s H vs Q E hr h => ?_)
  . obtain ⟨g, l, rows, ts, n, t, rfl, _⟩ := h
    rfl
  . obtain ⟨g, l, rows, ts, n, t, rfl, G, hn, hl, lt, ht, q⟩ := h
    have n8 := G.n8;refine ⟨_, (@zh _ _ _ (@zm _ _ _ _ (zq (ml rfl) rfl B.min jh (za (z7 ["s", "total"] ["grid", "totals", "t"] rfl (jx rfl B.enumerate (za (pv 1) (@zb _))) (fun _ => (qo rfl (y6 (zl (i := 0) (show (["s", "total", "grid", "totals", "t"] : List Str).Nodup by decide +kernel) rfl (Or.inl rfl)) (y6 (zl (i := 1) (show (["s", "total", "grid", "totals", "t"] : List Str).Nodup by decide +kernel) rfl (Or.inl rfl)) (@t6 _))))) (fun _ => (@zt _)) (fun _ => (@zp _ _ _ _ _ _ _ _ xj (pv 1) (zg v8 (hr.mono (by decide)) rfl (za (pv 2) (za (pv 0) (za (pv 4) (@zb _))))))) rfl (by decide +kernel) rfl rfl) (@zb _))))), ?_⟩;rw [show start ["grid", "totals", "t"] [V.ref g, V.ref l, V.int t] = [some (V.ref g), some (V.ref l), some (V.int t)] from rfl];simp only [ze, zd, ↓reduceIte];refine ⟨⟨_, hl⟩, fun d => ?_⟩;refine zev (xs := ts.map V.int) (zc6 H) ⟨Same.refl _, [], rfl, rfl⟩ ?_ ?_ ?_
    . rintro i ys H2 hi ⟨S, ns, ln, rfl⟩
      rw [Za] at hi;exact ⟨by rw [Za, ln]; exact Zd hi (Zd (show ts.length <= 8 by omega) (by decide)), S.seq hl⟩
    . rintro i x ys H2 T hx hT ⟨S, ns, ln, rfl⟩
      obtain ⟨y, hy, rfl⟩ := yd hx;have hi : i < n := by have := (Zc.mp hy).1; omega
      have S1 : Same H2 (upd H2 T (.tup [V.int i, V.int y])) := Same.upd (Same.refl _) hT;simp only [ze, zd, ↓reduceIte];refine ⟨_, .of zf, rfl, ?_⟩;generalize upd H2 T (.tup [V.int i, V.int y]) = H3 at *;simp only [ze, zd, ↓reduceIte];refine nw (G.mono (S.trans S1)) hi ht ?_;simp only [ze, zd, ↓reduceIte];exact ⟨S.trans S1, ns ++ [y + zy rows i t], by simp [ln], by simp⟩
    . rintro ys H2 ⟨S, ns, ln, rfl⟩ p hp
      rw [Za, lt] at ln;exact ⟨_, .of zf, by omega, fun m _ _ => q _ m (S.trans (Same.upd (Same.refl _) hp))⟩
theorem oj (B : Bt mg) (rh : FnAt P w K mg base "after_a_turn" 2 ["grid", "totals", "t"] (zcc K)) (o8 : FnAt P w K mg base "first_gain" 3 ["grid", "pays"] (spFG K)) (D : zc K mg "has_honest" sd ["grid"]) : FnAt P w K mg base "has_honest" 4 ["grid"] (spHas K) := by
  refine FnAt.of D sc_has_honest (fun vs H Q E h => ?_) (fun f cdv A outer s H vs Q E hr h => ?_)
  . obtain ⟨g, rows, n, rfl, _⟩ := h
    rfl
  . obtain ⟨g, rows, n, rfl, G, hn, q⟩ := h
    have n8 := G.n8;refine ⟨_, (@zk _ _ _ _ _ (z8 (i := 1) sc_has_honest.nd rfl (Or.inr rfl) (z7 ["row"] ["grid", "totals", "size"] rfl (@z9 _ _ _ _ (pv 0)) (fun _ => (zl (i := 0) (show (["row", "grid", "totals", "size"] : List Str).Nodup by decide +kernel) rfl (Or.inl rfl))) (fun _ => (@zt _)) (fun _ => (@zj _ _ _ _)) rfl (by decide +kernel) rfl rfl)) (@zk _ _ _ _ _ (xk PassesOwn.never rfl (je rfl B.range (za (@zj _ _ _ _) (za (@zp _ _ _ _ _ _ _ _ xj (zq zr rfl B.len yk (za (pv 0) (@zb _))) (@zj _ _ _ _)) (@zb _)))) (zl (i := 2) sc_has_honest.nd rfl (Or.inl rfl)) (@zh _ _ _ (z8 (i := 1) sc_has_honest.nd rfl (Or.inr rfl) (z7 ["t"] ["grid", "totals", "size"] rfl (yn rfl B.range (za (zq zr rfl B.len yk (za (pv 0) (@zb _))) (@zb _))) (fun _ => (zl (i := 0) (show (["t", "grid", "totals", "size"] : List Str).Nodup by decide +kernel) rfl (Or.inl rfl))) (fun _ => (@zt _)) (fun _ => (zg rh (hr.mono (by decide)) rfl (za (pv 1) (za (pv 2) (za (pv 0) (@zb _)))))) rfl (by decide +kernel) rfl rfl)))) (@zh _ _ _ (@zm _ _ _ _ (@lc _ _ _ _ _ _ _ _ op_isN (zg o8 (hr.mono (by decide)) rfl (za (pv 0) (za (pv 1) (@zb _)))) (@om _ _ _) (yx _)))))), ?_⟩;rw [show start ["grid", "totals", "size"] [V.ref g] = [some (V.ref g), none, none] from rfl];simp only [ze, zd, ↓reduceIte];obtain ⟨as, h1, h2⟩ := G.ex;refine ⟨⟨_, h1.1⟩, fun d => ?_⟩;refine zz (xs := as.map V.ref) (zc6 H) ⟨Same.refl _, [], rfl, rfl⟩ ?_ ?_ ?_
    . rintro i ys H2 hi ⟨S, ns, ln, rfl⟩
      rw [Za, h2] at hi;exact ⟨by rw [Za, ln]; exact Zd hi (Zd n8 (by decide)), S.seq h1.1⟩
    . rintro i x ys H2 hx ⟨S, ns, ln, rfl⟩
      simp only [ze, zd, ↓reduceIte];exact ⟨S, ns ++ [0], by simp [ln], by simp⟩
    . rintro ys H2 ⟨S, ns, ln, rfl⟩ p hp
      rw [Za, h2] at ln;have S1 : Same H (upd H2 p (.lst (ns.map V.int))) := S.trans (Same.upd (Same.refl _) hp);have p1 : upd H2 p (.lst (ns.map V.int)) p = some (.lst (ns.map V.int)) := zf;generalize upd H2 p (.lst (ns.map V.int)) = H3 at *;refine ⟨_, .inl (S1.seq h1.1), ?_⟩;rw [Za, h2];refine ⟨by omega, by omega, by omega, by omega, ?_⟩;rw [show ((n : Int) + 1 - 2).toNat = n - 1 by omega];refine xt (PvTotH H g n) ⟨S1, p, ns, _, p1, ln, rfl⟩ ?_ ?_
      . rintro i σ H4 hi ⟨S4, p4, ts, v, hp4, lt, rfl⟩
        simp only [ze, zd, ↓reduceIte];refine ⟨_, .inl (S4.seq h1.1), ?_⟩;rw [Za, h2];refine ⟨by omega, by omega, fun d2 => ?_⟩;rw [Zw];refine xy (zc6 H4) ⟨Same.refl _, [], rfl, rfl⟩ ?_ ?_ ?_
        . rintro j ys H5 hj ⟨S5, ms, lm, rfl⟩
          rw [Za, lm];exact Zd hj (Zd n8 (by decide))
        . rintro j ys H5 hj ⟨S5, ms, lm, rfl⟩
          simp only [ze, zd, ↓reduceIte];exact ⟨g, p4, rows, ts, n, j, rfl, G.mono (S4.trans S5), hn, .of (S5 _ _ hp4), lt, hj, fun H6 m S6 => ⟨S5.trans S6, ms ++ [m], by simp [lm], by simp⟩⟩
        . rintro ys H5 ⟨S5, ms, lm, rfl⟩ p5 hp5
          exact ⟨S4.trans (S5.trans (Same.upd (Same.refl _) hp5)), p5, ms, _, zf, lm, rfl⟩
      . rintro σ H4 ⟨S4, p4, ts, v, hp4, lt, rfl⟩
        simp only [ze, zd, ↓reduceIte];refine ⟨g, p4, as, rows, ts, n, rfl, (GridL.mono S4 h1), h2, .of hp4, lt, n8, G.sq, fun h => ?_, fun t s h l hl => ?_⟩
        . exact q H4 true S4 fun _ => ⟨ts, fun t s ht hs => by
            have := h t s ht hs;unfold mj at this
            omega⟩
        . exact q _ false (S4.trans (Same.upd (Same.refl _) hl)) fun z => by cases z
theorem zau (B : Bt mg) (oj : FnAt P w K mg base "has_honest" 4 ["grid"] (spHas K)) (vq : FnAt P w K mg base "walks_of_one_turn" 2 ["grid", "s"] (spOne K)) (ub : FnAt P w K mg base "lengthened" 4 ["grid", "walks"] (zej K)) (vt : FnAt P w K mg base "closed_below_zero" 2 ["rows"] zan)
    (D : zc K mg "ring" g0 ["grid"]) : FnAt P w K mg base "ring" 5 ["grid"] (zdz K) := by
  refine FnAt.of D sc_ring (fun vs H Q E h => ?_) (fun f cdv A outer s H vs Q E hr h => ?_)
  . obtain ⟨g, rows, n, rfl, _⟩ := h
    rfl
  . obtain ⟨g, rows, n, rfl, G0, hn, q00, q10⟩ := h
    have n8 := G0.n8;refine ⟨_, (@zk _ _ _ _ _ (@xl _ _ _ _ _ _ _ _ (w4 (zg oj (hr.mono (by decide)) rfl (za (pv 0) (@zb _)))) (@zh _ _ _ (@zm _ _ _ _ (@om _ _ _))) (@yi _)) (@zk _ _ _ _ _ (va (i := 1) ["s"] ["grid", "rows", "size", "found"] sc_ring.nd rfl rfl rfl (yn rfl B.range (za (zq zr rfl B.len yk (za (pv 0) (@zb _))) (@zb _))) (fun _ => (zl (i := 0) (show (["s", "grid", "rows", "size", "found"] : List Str).Nodup by decide +kernel) rfl (Or.inl rfl))) (fun _ => (@zt _)) (fun _ => (zg vq (hr.mono (by decide)) rfl (za (pv 1) (za (pv 0) (@zb _))))) rfl (by decide +kernel) rfl rfl rfl) (@zk _ _ _ _ _ (xk PassesOwn.never rfl (je rfl B.range (za (@zj _ _ _ _) (za (@zp _ _ _ _ _ _ _ _ xj (zq zr rfl B.len yk (za (pv 0) (@zb _))) (@zj _ _ _ _)) (@zb _)))) (zl (i := 2) sc_ring.nd rfl (Or.inl rfl)) (@zk _ _ _ _ _ (va (i := 1) ["walks"] ["grid", "rows", "size", "found"] sc_ring.nd rfl rfl rfl (@z9 _ _ _ _ (pv 1)) (fun _ => (zl (i := 0) (show (["walks", "grid", "rows", "size", "found"] : List Str).Nodup by decide +kernel) rfl (Or.inl rfl))) (fun _ => (@zt _)) (fun _ => (zg ub (hr.mono (by decide)) rfl (za (pv 1) (za (pv 0) (@zb _))))) rfl (by decide +kernel) rfl rfl rfl) (@zk _ _ _ _ _ (z8 (i := 3) sc_ring.nd rfl (Or.inl rfl) (zg vt (hr.mono (by decide)) rfl (za (pv 1) (@zb _)))) (@zh _ _ _ (@xl _ _ _ _ _ _ _ _ (@y7 _ _ _ _ _ _ _ _ zb9 (pv 3) (@om _ _ _) (yx _)) (@zh _ _ _ (@zm _ _ _ _ (pv 3))) (@yi _)))))) (@zh _ _ _ (@zm _ _ _ _ (@om _ _ _)))))), ?_⟩;rw [show start ["grid", "rows", "size", "found"] [V.ref g] = [some (V.ref g), none, none, none] from rfl];simp only [ze, zd, ↓reduceIte];refine ⟨g, rows, n, rfl, G0, hn, fun H0 hb S0 hHon => ?_⟩;refine ⟨hb, rfl, ite2 (fun hy => ?_) fun _ => ?_⟩
    . obtain ⟨ps, hps⟩ := hHon hy
      exact q00 H0 S0 fun j _ => hps.no j
    have G := G0.mono S0;have q0 : ∀ H', Same H0 H' -> (∀ j, j <= n -> NoNeg (zy rows) n j) -> Q .non H' := fun H' S' h => q00 H' (S0.trans S') h
    have q1 : ∀ H' l c, Same H0 H' -> H' l = some (.lst ((nI c).map V.int)) -> RingA (zy rows) n c -> Q (.ref l) H' := fun H' l c S' h1 h2 => q10 H' l c (S0.trans S') h1 h2
    obtain ⟨as, h1, h2⟩ := G.ex;refine ⟨_, .inl h1.1, ?_⟩;rw [Za, h2];refine ⟨by omega, by omega, fun d => ?_⟩;rw [Zw];refine xy (RowsPre H0 (zy rows) n 1) ⟨Same.refl _, rfl, fun t ht => by omega⟩ ?_ ?_ ?_
    . rintro i ys H' hi h
      rw [h.2.1];exact Zd hi (Zd n8 (by decide))
    . rintro i ys H' hi h
      simp only [ze, zd, ↓reduceIte];exact ⟨g, rows, n, i, rfl, G.mono h.1, hi, fun H2 x S1 hR => h.snoc S1 hR⟩
    . rintro ys H' h l hl
      obtain ⟨S, R⟩ := h.done hl;generalize upd H' l (.lst ys) = H1 at *;refine ⟨_, .inl (S.seq h1.1), ?_⟩;rw [Za, h2];refine ⟨by omega, by omega, by omega, by omega, ?_⟩;rw [show ((n : Int) + 1 - 2).toNat = n - 1 by omega];refine xt (fun i σ H2 => Same H0 H2 /\ (∃ v v2 v3, σ = [some (.ref g), some v, v2, v3] /\ RowsAt H2 v (zy rows) n (i + 1)) /\ ∀ j, j <= i + 1 -> NoNeg (zy rows) n j) ⟨S, ⟨_, _, _, rfl, R⟩, fun j hj => ?_⟩ ?_ ?_
      . have : j = 0 \/ j = 1 := by omega
        rcases this with rfl | rfl
        . exact NoNeg.zero _ _
        . exact NoNeg.one (de rows) _
      . rintro i σ H2 hi ⟨S2, ⟨v, v2, v3, rfl, ⟨r, xs, rfl, hr1, hlen, hall⟩⟩, no⟩
        simp only [ze, zd, ↓reduceIte];refine ⟨⟨_, .of hr1⟩, fun d2 => ?_⟩;refine zz (xs := xs) (RowsPre H2 (zy rows) n (i + 1 + 1)) ⟨Same.refl _, rfl, fun t ht => by omega⟩ ?_ ?_ ?_
        . rintro j ys H' hj h
          rw [h.2.1];exact ⟨Zd hj (Zd (by omega) (show 8 <= sizeLine by decide)), h.1.seq (.of hr1)⟩
        . rintro j x ys H' hx h
          have hj : j < n := by rw [<- hlen]; exact (Zc.mp hx).1
          obtain ⟨x', e1, R⟩ := hall j hj;rw [hx] at e1;cases e1;simp only [ze, zd, ↓reduceIte];exact ⟨g, rows, x, n, i + 1, j, rfl, G.mono (S2.trans h.1), R.mono h.1, hj, by omega, by omega, fun H3 v' S3 hR => h.snoc S3 hR⟩
        . rintro ys H' h l hl
          rw [hlen] at h;obtain ⟨S3, R3⟩ := h.done hl;generalize upd H' l (.lst ys) = H3 at *;refine ⟨zy rows, .ref l, n, i + 2, rfl, R3, by omega, n8, fun H4 S4 hno => ?_, fun H4 s ws b S4 hb hs hw hneg => ?_⟩
          . simp only [ze, zd, ↓reduceIte]
            refine ⟨S2.trans (S3.trans S4), R3.mono S4, fun j hj => ?_⟩
            by_cases e : j <= i + 1
            . exact no j e
            . have : j = i + 2 := by omega
              subst this;exact hno
          . simp only [ze, zd, ↓reduceIte]
            refine q1 H4 b _ (S2.trans (S3.trans S4)) hb (RingA.of (de rows) hs hw hneg fun j hj => no j (by omega))
      . rintro σ H2 ⟨S2, ⟨v, v2, v3, rfl, _⟩, no⟩
        simp only [ze, zd, ↓reduceIte];exact q0 H2 S2 fun j hj => no j (by omega)
end
structure Rd (T : Nat -> Nat -> Int) (b : Nat -> Int) (S : Nat -> Prop) (n k t : Nat) (e : Int × List Nat) : Prop where
  ex : ∃ s ws, e.2 = s :: ws /\ S s /\ s < n /\ lst s ws = t /\ (∀ x ∈ ws, x < n) /\ e.1 = b s + wk T s ws /\ (s :: ws).Nodup /\ ws.length <= k
def Low (T : Nat -> Nat -> Int) (b : Nat -> Int) (S : Nat -> Prop) (n k t : Nat) (i : Int) : Prop := ∀ s ws, S s -> s < n -> lst s ws = t -> (∀ x ∈ ws, x < n) -> ws.length <= k -> i <= b s + wk T s ws
structure Rds (T : Nat -> Nat -> Int) (b : Nat -> Int) (S : Nat -> Prop) (n k : Nat) (f : Nat -> Int × List Nat) : Prop where
  rd : ∀ t, t < n -> Rd T b S n k t (f t)
  low : ∀ t, t < n -> Low T b S n k t (f t).1
theorem zcs {n : Nat} : ∀ (ws : List Nat) (s : Nat), s < n -> (∀ x ∈ ws, x < n) -> lst s ws < n
  | [], _, h, _ => h
  | w :: ws, _, _, h => zcs ws w (h w ZA) fun x hx => h x (Zv _ hx)
theorem lst_lt {n : Nat} {ws : List Nat} {s : Nat} (hs : s < n) (h : ∀ x ∈ ws, x < n) : lst s ws < n := zcs ws s hs h
theorem back {T : Nat -> Nat -> Int} {b : Nat -> Int} {S : Nat -> Prop} {n k i t s : Nat} {ws : List Nat} {m : Int} (no : ∀ k, NoNeg T n k) (ht : t < n) (hS : S s) (hs : s < n) (hto : lst s ws = i) (hlt : ∀ x ∈ ws, x < n) (hk : ws.length <= k) (hl : Low T b S n k t m) (hm : t ∈ s :: ws) : m <= b s + wk T s ws + T i t := by
  have closed : ∀ C : List Nat, (∀ x ∈ C, x < n) -> lst t C = i -> 0 <= wk T t C + T i t := fun C hC hi => by
    have := no (C.length + 1) t (C ++ [t]) ht ⟨by simp, fun x hx => by
      rcases ZH.mp hx with z | z
      . exact hC x z
      . rw [ZC.mp z]; exact ht, w6 _ _ _⟩
    rw [uo, hi] at this;exact this
  rcases ZK.mp hm with z | z
  . subst z
    have h1 := hl t [] hS hs rfl (fun x hx => nomatch hx) (ZE _);have h2 := closed ws hlt hto;have h3 : wk T t [] = 0 := rfl;omega
  . obtain ⟨A, C, rfl⟩ := List.append_of_mem z
    have hA : ∀ x ∈ A ++ [t], x < n := fun x hx => hlt x (by
      rcases ZH.mp hx with z | z
      . exact ZU _ z
      . rw [ZC.mp z]; simp)
    have h1 := hl s (A ++ [t]) hS hs (w6 _ _ _) hA (by simp at hk ⊢; omega);rw [d5] at hto;have h2 := closed C (fun x hx => hlt x (Zu _ (Zv _ hx))) hto;rw [mz];omega
theorem Rds.step {T : Nat -> Nat -> Int} {b : Nat -> Int} {S : Nat -> Prop} {n k : Nat} {f f' : Nat -> Int × List Nat} (no : ∀ k, NoNeg T n k) (R : Rds T b S n k f)
    (h : ∀ t, t < n -> ∃ i, i < n /\ (∀ u, u < n -> (f i).1 + T i t <= (f u).1 + T u t) /\ (((f i).1 + T i t < (f t).1 /\ f' t = ((f i).1 + T i t, (f i).2 ++ [t])) \/ ((f t).1 <= (f i).1 + T i t /\ f' t = f t))) : Rds T b S n (k + 1) f' := by
  refine ⟨fun t ht => ?_, fun t ht => ?_⟩
  . obtain ⟨i, hi, hm, hc⟩ := h t ht
    rcases hc with ⟨hlt, e⟩ | ⟨_, e⟩
    . obtain ⟨s, ws, e1, hS, hs, hto, hw, hv, hd, hk⟩ := (R.rd i hi).ex
      have hn : t ∉ s :: ws := fun z => by
        have := back no ht hS hs hto hw hk (R.low t ht) z;omega
      rw [e];refine ⟨s, ws ++ [t], by rw [e1]; rfl, hS, hs, w6 _ _ _, fun x hx => ?_, ?_, ?_, by simp; exact hk⟩
      . rcases ZH.mp hx with z | z
        . exact hw x z
        . rw [ZC.mp z]; exact ht
      . show (f i).1 + T i t = _
        rw [uo, hto, hv]; omega
      . show ((s :: ws) ++ [t]).Nodup
        refine Yj.mpr ⟨hd, by simp, fun x hx y hy => ?_⟩;rw [ZC.mp hy]
        rintro rfl
        exact hn hx
    . obtain ⟨s, ws, e1, hS, hs, hto, hw, hv, hd, hk⟩ := (R.rd t ht).ex
      rw [e];exact ⟨s, ws, e1, hS, hs, hto, hw, hv, hd, by omega⟩
  . obtain ⟨i, hi, hm, hc⟩ := h t ht
    have h1 : (f' t).1 <= (f t).1 /\ (f' t).1 <= (f i).1 + T i t := by
      rcases hc with ⟨hlt, e⟩ | ⟨hlt, e⟩ <;> rw [e]
      . exact ⟨by show (f i).1 + T i t <= _; omega, Yt _⟩
      . exact ⟨Yt _, hlt⟩
    intro s ws hS hs hto hw hk
    by_cases hk' : ws.length <= k
    . have := R.low t ht s ws hS hs hto hw hk'
      omega
    . obtain ⟨w, r, rfl⟩ : ∃ w r, ws = w :: r := by
        cases ws with
        | nil => simp at hk'
        | cons w r => exact ⟨w, r, rfl⟩
      have e1 := uc r w;have e2 : lst w r = t := hto;rw [e2] at e1;generalize hp : (w :: r).dropLast = p at e1;rw [e1] at hw hk ⊢;have hwp : ∀ x ∈ p, x < n := fun x hx => hw x (ZU _ hx)
      have hu := lst_lt hs hwp;have q1 := R.low (lst s p) hu s p hS hs rfl hwp (by simp at hk; exact hk);have q2 := hm (lst s p) hu;rw [uo];omega
theorem Rds.one {T : Nat -> Nat -> Int} {b : Nat -> Int} {n : Nat} {f : Nat -> Int × List Nat} (h : ∀ t, t < n -> f t = (b t, [t])) : Rds T b (fun _ => True) n 0 f := by
  refine ⟨fun t ht => ⟨t, [], by rw [h t ht], trivial, ht, rfl, (fun x hx => nomatch hx), by rw [h t ht]; show b t = b t + 0; omega, by simp, Zm _⟩, fun t ht s ws _ hs hto hw hk => ?_⟩
  cases ws with
  | nil =>
    have e : s = t := hto;subst e;rw [h s ht]
    show b s <= b s + 0
    omega
  | cons _ _ => simp at hk
structure WsL (H : Hp) (xs : List V) (fs : List (Int × List Nat × Addr)) : Prop where
  len : xs.length = fs.length
  at' : ∀ (t : Nat) e, fs[t]? = some e -> ∃ p, xs[t]? = some (V.ref p) /\ H p = some (.tup [.int e.1, .ref e.2.2]) /\ H e.2.2 = some (.lst ((nI e.2.1).map V.int))
theorem WsL.mono {H H' : Hp} {xs : List V} {fs : List (Int × List Nat × Addr)} (S : Same H H') (h : WsL H xs fs) : WsL H' xs fs := ⟨h.len, fun t e he => by
  obtain ⟨p, a1, a2, a3⟩ := h.at' t e he
  exact ⟨p, a1, S _ _ a2, S _ _ a3⟩⟩
theorem WsL.nil {H : Hp} : WsL H [] [] := ⟨rfl, fun t e he => by simp at he⟩
theorem v9 {α : Type} {xs : List α} {x y : α} {t : Nat} (h : (xs ++ [x])[t]? = some y) : xs[t]? = some y \/ (t = xs.length /\ y = x) := by
  by_cases ht : t < xs.length
  . rw [Zg ht] at h
    exact .inl h
  . have ht' : xs.length <= t := ZD.mp ht
    rw [Zf ht'] at h
    have h0 : t - xs.length = 0 := by
      have := (Zc.mp h).1;simp at this; omega
    rw [h0] at h;simp at h;exact .inr ⟨by omega, h.symm⟩
theorem vk {α : Type} {xs : List α} {y : α} {t : Nat} (h : xs[t]? = some y) : t < xs.length := (Zc.mp h).1
theorem j4 {α : Type} {xs : List α} {x d : α} {t : Nat} (h : xs[t]? = some x) : xs.getD t d = x := by rw [Zk, h]; rfl
theorem vn {α : Type} {xs : List α} {t : Nat} (h : t < xs.length) : ∃ y, xs[t]? = some y := ⟨xs[t], by simp [h]⟩
theorem WsL.snoc {H H' : Hp} {xs : List V} {fs : List (Int × List Nat × Addr)} {p l : Addr} {i : Int} {ws : List Nat} (h : WsL H xs fs) (S : Same H H') (hp : H' p = some (.tup [.int i, .ref l])) (hl : H' l = some (.lst ((nI ws).map V.int))) : WsL H' (xs ++ [.ref p]) (fs ++ [(i, ws, l)]) := by
  refine ⟨by simp [h.len], fun t e he => ?_⟩
  rcases v9 he with z | ⟨z, rfl⟩
  . obtain ⟨q, a1, a2, a3⟩ := h.at' t e z
    exact ⟨q, by rw [Zg (vk a1)]; exact a1, S _ _ a2, S _ _ a3⟩
  . refine ⟨p, ?_, hp, hl⟩
    rw [z, Zf (by rw [h.len]; exact Zm _), h.len];simp
def Dis (fs : List (Int × List Nat × Addr)) : Prop := ∀ (t u : Nat) e d, fs[t]? = some e -> fs[u]? = some d -> e.2.2 = d.2.2 -> t = u
theorem Dis.nil : Dis [] := fun t u e d he => by simp at he
theorem Dis.snoc {H : Hp} {xs : List V} {fs : List (Int × List Nat × Addr)} {l : Addr} {i : Int} {ws : List Nat} (h : Dis fs) (w : WsL H xs fs) (hl : H l = none) : Dis (fs ++ [(i, ws, l)]) := by
  have old : ∀ (t : Nat) e, fs[t]? = some e -> e.2.2 ≠ l := fun t e he z => by
    obtain ⟨p, _, _, a3⟩ := w.at' t e he;rw [z, hl] at a3;cases a3
  intro t u e d he hd ee
  rcases v9 he with z | ⟨z, rfl⟩ <;> rcases v9 hd with z' | ⟨z', rfl⟩
  . exact h t u e d z z' ee
  . exact absurd ee (old t e z)
  . exact absurd ee.symm (old u d z')
  . rw [z, z']
def zdl (fs : List (Int × List Nat × Addr)) : Prop := ∀ (t : Nat) e, fs[t]? = some e -> ∃ a ws, e.2.1 = a :: ws /\ ic a ws = t /\ ws.length <= 100
structure ze6 (T : Nat -> Nat -> Int) (H : Hp) (fs gs : List (Int × List Nat × Addr)) (n : Nat) : Prop where
  len : gs.length = n
  dis : Dis gs
  new : ∀ (t : Nat) e, gs[t]? = some e -> H e.2.2 = none
  min : ∀ (t : Nat) e', gs[t]? = some e' -> ∃ i e, fs[i]? = some e /\ (∀ u d, fs[u]? = some d -> e.1 + T i t <= d.1 + T u t) /\ e'.1 = e.1 + T i t /\ e'.2.1 = e.2.1 ++ [t]
def ai (K : Fg) : Sp := fun vs H Q _ => ∃ (g r : Addr) (rows : List (List Int)) (xs : List V) (fs : List (Int × List Nat × Addr)) (n t : Nat), vs = [.ref g, .ref r, .int t] /\ Gd K H g rows n /\ H r = some (.lst xs) /\ WsL H xs fs /\ fs.length = n /\ zdl fs /\ t < n /\
  ∀ H' p l i e, Same H H' -> H l = none -> fs[i]? = some e -> (∀ u d, fs[u]? = some d -> e.1 + zy rows i t <= d.1 + zy rows u t) -> H' p = some (.tup [.int (e.1 + zy rows i t), .ref l]) -> H' l = some (.lst ((nI (e.2.1 ++ [t])).map V.int)) -> Q (.ref p) H'
def zb6 (K : Fg) : Sp := fun vs H Q _ => ∃ (g r : Addr) (rows : List (List Int)) (xs : List V) (fs : List (Int × List Nat × Addr)) (n : Nat), vs = [.ref g, .ref r] /\ Gd K H g rows n /\ H r = some (.lst xs) /\ WsL H xs fs /\ fs.length = n /\ zdl fs /\
  ∀ H' r' ys gs, Same H H' -> H' r' = some (.lst ys) -> WsL H' ys gs -> ze6 (zy rows) H fs gs n -> Q (.ref r') H'
def aw : Sp := fun vs H Q _ => ∃ (p q : Addr) (i j : Int) (l m : V), vs = [.ref p, .ref q] /\ H p = some (.tup [.int i, l]) /\ H q = some (.tup [.int j, m]) /\ (j < i -> Q (.ref q) H) /\ (i <= j -> Q (.ref p) H)
section
variable {P : Program} {w : World} {K : Fg} {mg : Str -> Option Value} {base : Heap}
theorem zcz (B : Bt mg) (v8 : FnAt P w K mg base "turn" 1 ["grid", "s", "t"] (on K)) (xm : FnAt P w K mg base "total_of" 1 ["walk"] og) (D : zc K mg "least_to" sf ["grid", "walks", "t"]) : FnAt P w K mg base "least_to" 3 ["grid", "walks", "t"] (ai K) := by
  refine FnAt.of D sc_least_to (fun vs H Q E h => ?_) (fun f cdv A outer s H vs Q E hr h => ?_)
  . obtain ⟨g, r, rows, xs, fs, n, t, rfl, _⟩ := h
    rfl
  . obtain ⟨g, r, rows, xs, fs, n, t, rfl, G, hr1, W, hlen, hend, ht, q⟩ := h
    have n8 := G.n8;have hxl := W.len;refine ⟨_, (@zk _ _ _ _ _ (va (i := 3) ["total", "words"] ["grid", "walks", "t", "longer"] sc_least_to.nd rfl rfl rfl (@z9 _ _ _ _ (pv 1)) (fun _ => (qo rfl (y6 (zl (i := 0) (show (["total", "words", "grid", "walks", "t", "longer"] : List Str).Nodup by decide +kernel) rfl (Or.inl rfl)) (y6 (zl (i := 1) (show (["total", "words", "grid", "walks", "t", "longer"] : List Str).Nodup by decide +kernel) rfl (Or.inl rfl)) (@t6 _))))) (fun _ => (@zt _)) (fun _ => (@xw _ _ _ _ _ (za (@zp _ _ _ _ _ _ _ _ xj (pv 0) (zg v8 (hr.mono (by decide)) rfl (za (pv 2) (za (@zw _ _ _ _ _ _ _ z0 (pv 1) (@zdc _ _ _ _ _ _ bx (@zj _ _ _ _)) (fun _ _ => rfl)) (za (pv 4) (@zb _)))))) (za (@zp _ _ _ _ _ _ _ _ b7 (pv 1) (@vm _ _ _ _ (za (pv 4) (@zb _)))) (@zb _))))) rfl (by decide +kernel) rfl rfl rfl) (@zh _ _ _ (@zm _ _ _ _ (zcq xm (hr.mono (by decide)) rfl rfl B.min rfl (za (pv 3) (@zb _)))))), ?_⟩;rw [show start ["grid", "walks", "t", "longer"] [V.ref g, V.ref r, V.int t] = [some (V.ref g), some (V.ref r), some (V.int t), none] from rfl];simp only [ze, zd, ↓reduceIte];refine ⟨⟨_, .of hr1⟩, fun d => ?_⟩;refine zz (xs := xs) (fun i ys H2 => Same H H2 /\ ∃ gs, WsL H2 ys gs /\ gs.length = i /\ ∀ (u : Nat) e', gs[u]? = some e' -> H e'.2.2 = none /\ ∃ e, fs[u]? = some e /\ e'.1 = e.1 + zy rows u t /\ e'.2.1 = e.2.1 ++ [t]) ⟨Same.refl _, [], WsL.nil, rfl, fun u e he => by simp at he⟩ ?_ ?_ ?_
    . rintro i ys H2 hi ⟨S, gs, W2, hl, _⟩
      exact ⟨by rw [W2.len, hl]; exact Zd hi (Zd (show xs.length <= 8 by omega) (by decide)), S.seq (.of hr1)⟩
    . rintro i x ys H2 hx ⟨S, gs, W2, hl, hy⟩
      have hi : i < n := by have := vk hx; omega
      obtain ⟨e, he⟩ := vn (xs := fs) (t := i) (by omega);obtain ⟨p, a1, a2, a3⟩ := W.at' i e he;rw [hx] at a1;cases a1;obtain ⟨s0, ws, e1, e2, e3⟩ := hend i e he;rw [e1] at a3;have hp2 := S _ _ a2;have hl2 := S _ _ a3;simp only [ze, zd, ↓reduceIte];refine ⟨_, .of hp2, rfl, ?_⟩;simp only [ze, zd, ↓reduceIte];refine ⟨_, .of hl2, _, zco s0 ws, ?_⟩;rw [e2];refine nw (G.mono S) hi ht ?_;simp only [ze, zd, ↓reduceIte];refine ⟨by show 1 <= sizeLine; decide, fun b hb => ?_⟩;have S1 : Same H2 (upd H2 b (.lst [V.int t])) := Same.upd (Same.refl _) hb;refine ⟨_, S1 _ _ hl2, _, zf, ?_, fun c hc => ⟨by show 2 <= sizeLine; decide, fun z hz => ?_⟩⟩
      . simp only [nI, Za, ZL, ZW]
        exact Zd (show ws.length + 1 + 1 <= 102 by omega) (by decide)
      . have S2 : Same (upd H2 b (.lst [V.int t])) (upd (upd H2 b (.lst [V.int t])) c (.lst ((nI (s0 :: ws)).map V.int ++ [V.int t]))) := Same.upd (Same.refl _) hc
        have hc2 : upd (upd H2 b (.lst [V.int t])) c (.lst ((nI (s0 :: ws)).map V.int ++ [V.int t])) c = some (.lst ((nI (e.2.1 ++ [t])).map V.int)) := by rw [zf, zb0, e1]
        have hcH : H c = none := (S.trans S1).free hc;have S3 := Same.upd (o := .tup [V.int (e.1 + zy rows i t), V.ref c]) (Same.refl (upd (upd H2 b (.lst [V.int t])) c (.lst ((nI (s0 :: ws)).map V.int ++ [V.int t])))) hz;have SS := S1.trans (S2.trans S3);refine ⟨S.trans SS, gs ++ [(e.1 + zy rows i t, e.2.1 ++ [t], c)], W2.snoc SS zf (S3 _ _ hc2), by simp [hl], fun u e' hu => ?_⟩
        rcases v9 hu with y | ⟨y, rfl⟩
        . exact hy u e' y
        . rw [y, hl]
          exact ⟨hcH, e, he, rfl, rfl⟩
    . rintro ys H2 ⟨S, gs, W2, hl, hy⟩ lo hlo
      have S1 : Same H2 (upd H2 lo (.lst ys)) := Same.upd (Same.refl _) hlo;have hyl := W2.len;refine ⟨ys, .of zf, by omega, fun u => (gs.getD u (0, [], 0)).1, fun i x hx => ?_, fun i x hx hm => ?_⟩
      . obtain ⟨e', he'⟩ := vn (xs := gs) (t := i) (by have := vk hx; omega)
        obtain ⟨p, a1, a2, a3⟩ := W2.at' i e' he';rw [hx] at a1;cases a1;refine ⟨p, _, _, rfl, S1 _ _ a2, ?_, rfl⟩
        show V.int e'.1 = V.int (gs.getD i (0, [], 0)).1
        rw [j4 he']
      . obtain ⟨e', he'⟩ := vn (xs := gs) (t := i) (by have := vk hx; omega)
        obtain ⟨p, a1, a2, a3⟩ := W2.at' i e' he';rw [hx] at a1;cases a1;obtain ⟨h0, e, b1, b2, b3⟩ := hy i e' he';rw [b2] at a2;rw [b3] at a3;refine q _ p e'.2.2 i e (S.trans S1) h0 b1 (fun u d hu => ?_) (S1 _ _ a2) (S1 _ _ a3);obtain ⟨d', hd'⟩ := vn (xs := gs) (t := u) (by have := vk hu; omega);obtain ⟨_, d2, c1, c2, c3⟩ := hy u d' hd';rw [hu] at c1;cases c1;have z := (hm u (by have := vk hu; omega)).1;have z' : (gs.getD i (0, [], 0)).1 <= (gs.getD u (0, [], 0)).1 := z;rw [j4 he', j4 hd'] at z';omega
theorem zas (B : Bt mg) (su : FnAt P w K mg base "least_to" 3 ["grid", "walks", "t"] (ai K)) (D : zc K mg "lengthened" v7 ["grid", "walks"]) : FnAt P w K mg base "lengthened" 4 ["grid", "walks"] (zb6 K) := by
  refine FnAt.of D jc (fun vs H Q E h => ?_) (fun f cdv A outer s H vs Q E hr h => ?_)
  . obtain ⟨g, r, rows, xs, fs, n, rfl, _⟩ := h
    rfl
  . obtain ⟨g, r, rows, xs, fs, n, rfl, G, hr1, W, hlen, hend, q⟩ := h
    have n8 := G.n8;refine ⟨_, (@zh _ _ _ (@zm _ _ _ _ (z7 ["t"] ["grid", "walks"] rfl (yn rfl B.range (za (zq zr rfl B.len yk (za (pv 0) (@zb _))) (@zb _))) (fun _ => (zl (i := 0) (show (["t", "grid", "walks"] : List Str).Nodup by decide +kernel) rfl (Or.inl rfl))) (fun _ => (@zt _)) (fun _ => (zg su (hr.mono (by decide)) rfl (za (pv 1) (za (pv 2) (za (pv 0) (@zb _)))))) rfl (by decide +kernel) rfl rfl))), ?_⟩;rw [show start ["grid", "walks"] [V.ref g, V.ref r] = [some (V.ref g), some (V.ref r)] from rfl];simp only [ze, zd, ↓reduceIte];obtain ⟨as, h1, h2⟩ := G.ex;refine ⟨_, .inl h1.1, ?_⟩;rw [Za, h2];refine ⟨by omega, by omega, fun d => ?_⟩;rw [Zw];refine xy (fun i ys H2 => Same H H2 /\ ∃ gs, WsL H2 ys gs /\ ze6 (zy rows) H fs gs i) ⟨Same.refl _, [], WsL.nil, rfl, Dis.nil, fun t e he => by simp at he, fun t e he => by simp at he⟩ ?_ ?_ ?_
    . rintro i ys H' hi ⟨S, gs, W2, L⟩
      rw [W2.len, L.len];exact Zd hi (Zd n8 (by decide))
    . rintro i ys H' hi ⟨S, gs, W2, L⟩
      simp only [ze, zd, ↓reduceIte];refine ⟨g, r, rows, xs, fs, n, i, rfl, G.mono S, S _ _ hr1, W.mono S, hlen, hend, hi, fun H2 p l j e S2 hl hj hm hp hl2 => ?_⟩;refine ⟨S.trans S2, gs ++ [(e.1 + zy rows j i, e.2.1 ++ [i], l)], W2.snoc S2 hp hl2, by simp [L.len], L.dis.snoc W2 hl, fun t e' he' => ?_, fun t e' he' => ?_⟩
      . rcases v9 he' with y | ⟨y, rfl⟩
        . exact L.new t e' y
        . exact S.free hl
      . rcases v9 he' with y | ⟨y, rfl⟩
        . exact L.min t e' y
        . rw [y, L.len]
          exact ⟨j, e, hj, hm, rfl, rfl⟩
    . rintro ys H' ⟨S, gs, W2, L⟩ l hl
      have S1 : Same H' (upd H' l (.lst ys)) := Same.upd (Same.refl _) hl;exact q _ l ys gs (S.trans S1) zf (W2.mono S1) L
theorem gk (xm : FnAt P w K mg base "total_of" 1 ["walk"] og) (D : zc K mg "lesser" k8 ["walk", "longer"]) : FnAt P w K mg base "lesser" 2 ["walk", "longer"] aw := by
  refine FnAt.of D zet (fun vs H Q E h => ?_) (fun f cdv A outer s H vs Q E hr h => ?_)
  . obtain ⟨p, q, i, j, l, m, rfl, _⟩ := h
    rfl
  . obtain ⟨p, q, i, j, l, m, rfl, hp, hq, q1, q2⟩ := h
    refine ⟨_, (@zh _ _ _ (@zm _ _ _ _ (@zgc _ _ _ _ _ _ _ _ (@y7 _ _ _ _ _ _ _ _ fj (zg xm (hr.mono (by decide)) rfl (za (pv 1) (@zb _))) (zg xm (hr.mono (by decide)) rfl (za (pv 0) (@zb _))) (yx _)) (pv 1) (pv 0)))), ?_⟩;rw [show start ["walk", "longer"] [V.ref p, V.ref q] = [some (V.ref p), some (V.ref q)] from rfl];simp only [ze, zd, ↓reduceIte];refine ⟨q, j, m, rfl, hq, ?_⟩;simp only [ze, zd, ↓reduceIte];refine ⟨p, i, l, rfl, hp, ?_⟩;simp only [ze, zd, ↓reduceIte];exact ite2 (fun h => q1 (of_decide_eq_true h)) fun h => q2 (Int.not_lt.mp fun z => h (decide_eq_true z))
end
def fOf (fs : List (Int × List Nat × Addr)) (t : Nat) : Int × List Nat := ((fs.getD t (0, [], 0)).1, (fs.getD t (0, [], 0)).2.1)
theorem uv {fs : List (Int × List Nat × Addr)} {t : Nat} {e : Int × List Nat × Addr} (h : fs[t]? = some e) : fOf fs t = (e.1, e.2.1) := by unfold fOf; rw [j4 h]
theorem Rds.endOk {T : Nat -> Nat -> Int} {b : Nat -> Int} {S : Nat -> Prop} {n k : Nat} {fs : List (Int × List Nat × Addr)} (R : Rds T b S n k (fOf fs)) (hl : fs.length = n) (hk : k <= 100) : zdl fs := fun t e he => by
  obtain ⟨s, ws, e1, hS, hs, hto, hw, hv, hd, hk2⟩ := (R.rd t (by have := vk he; omega)).ex;rw [uv he] at e1;exact ⟨s, ws, e1, by rw [<- zdt]; exact hto, by omega⟩
structure Told (T : Nat -> Nat -> Int) (b : Nat -> Int) (S : Nat -> Prop) (n k : Nat) (fs gs : List (Int × List Nat × Addr)) : Prop where
  len : gs.length = n
  dis : Dis gs
  rds : Rds T b S n k (fOf gs)
  le : ∀ t, t < n -> (fOf gs t).1 <= (fOf fs t).1
def zcm (K : Fg) : Sp := fun vs H Q _ => ∃ (g r : Addr) (rows : List (List Int)) (xs : List V) (fs : List (Int × List Nat × Addr)) (n k : Nat) (b : Nat -> Int) (S : Nat -> Prop), vs = [.ref g, .ref r] /\ Gd K H g rows n /\ 0 < n /\ (∀ k, NoNeg (zy rows) n k) /\ H r = some (.lst xs) /\ WsL H xs fs /\
  fs.length = n /\ Dis fs /\ Rds (zy rows) b S n k (fOf fs) /\ k <= 1 /\ ∀ H' r' ys gs, Same H H' -> H' r' = some (.lst ys) -> WsL H' ys gs -> Told (zy rows) b S n (k + (n - 1)) fs gs -> Q (.ref r') H'
def PvMix (H3 : Hp) (gs hs : List (Int × List Nat × Addr)) (i : Nat) (vs : List V) (H4 : Hp) : Prop := Same H3 H4 /\ ∃ ks, WsL H4 vs ks /\ ks.length = i /\ ∀ (t : Nat) e, ks[t]? = some e -> ∃ d e', gs[t]? = some d /\ hs[t]? = some e' /\ ((e'.1 < d.1 /\ e = e') \/ (d.1 <= e'.1 /\ e = d))
def zgy (H : Hp) (g : Addr) (T : Nat -> Nat -> Int) (b : Nat -> Int) (S : Nat -> Prop) (n k : Nat) (fs : List (Int × List Nat × Addr)) (i : Nat) (σ : L2.St) (H2 : Hp) : Prop := Same H H2 /\ ∃ r' ys gs v2, σ = [some (.ref g), some (.ref r'), v2] /\ H2 r' = some (.lst ys) /\ WsL H2 ys gs /\ Told T b S n (k + i) fs gs
section
variable {P : Program} {w : World} {K : Fg} {mg : Str -> Option Value} {base : Heap}
theorem qv (B : Bt mg) (ub : FnAt P w K mg base "lengthened" 4 ["grid", "walks"] (zb6 K)) (gk : FnAt P w K mg base "lesser" 2 ["walk", "longer"] aw) (D : zc K mg "least_roads" u8 ["grid", "walks"]) : FnAt P w K mg base "least_roads" 5 ["grid", "walks"] (zcm K) := by
  refine FnAt.of D sc_least_roads (fun vs H Q E h => ?_) (fun f cdv A outer s H vs Q E hr h => ?_)
  . obtain ⟨g, r, rows, xs, fs, n, k, b, S, rfl, _⟩ := h
    rfl
  . obtain ⟨g, r, rows, xs, fs, n, k, b, Sd, rfl, G, hn, no, hr1, W, hlen, hdis, R, hk, q⟩ := h
    have n8 := G.n8;refine ⟨_, (@zk _ _ _ _ _ (xk PassesOwn.never rfl (je rfl B.range (za (@zj _ _ _ _) (za (@zp _ _ _ _ _ _ _ _ xj (zq zr rfl B.len yk (za (pv 0) (@zb _))) (@zj _ _ _ _)) (@zb _)))) (zl (i := 2) sc_least_roads.nd rfl (Or.inl rfl)) (@zh _ _ _ (va (i := 1) ["walk", "longer"] ["grid", "walks", "size"] sc_least_roads.nd rfl rfl rfl (a8 rfl B.zip (za (pv 1) (za (zg ub (hr.mono (by decide)) rfl (za (pv 0) (za (pv 1) (@zb _)))) (@zb _)))) (fun _ => (qo rfl (y6 (zl (i := 0) (show (["walk", "longer", "grid", "walks", "size"] : List Str).Nodup by decide +kernel) rfl (Or.inl rfl)) (y6 (zl (i := 1) (show (["walk", "longer", "grid", "walks", "size"] : List Str).Nodup by decide +kernel) rfl (Or.inl rfl)) (@t6 _))))) (fun _ => (@zt _)) (fun _ => (zg gk (hr.mono (by decide)) rfl (za (pv 0) (za (pv 1) (@zb _))))) rfl (by decide +kernel) rfl rfl rfl))) (@zh _ _ _ (@zm _ _ _ _ (pv 1)))), ?_⟩;rw [show start ["grid", "walks", "size"] [V.ref g, V.ref r] = [some (V.ref g), some (V.ref r), none] from rfl];simp only [ze, zd, ↓reduceIte];obtain ⟨as, h1, h2⟩ := G.ex;refine ⟨_, .inl h1.1, ?_⟩;rw [Za, h2];refine ⟨by omega, by omega, by omega, by omega, ?_⟩;rw [show ((n : Int) + 1 - 2).toNat = n - 1 by omega];refine xt (zgy H g (zy rows) b Sd n k fs) ⟨Same.refl _, r, xs, fs, _, rfl, hr1, W, hlen, hdis, R, fun t ht => Yt _⟩ ?_ ?_
    . rintro i σ H2 hi ⟨S2, r', ys, gs, v2, rfl, hr2, W2, Td⟩
      have lg := Td.len;have ly := W2.len;have le := Td.le;simp only [ze, zd, ↓reduceIte];refine ⟨g, r', rows, ys, gs, n, rfl, G.mono S2, hr2, W2, lg, Td.rds.endOk lg (by omega), fun H3 r3 zs hs S3 hr3 W3 L => ?_⟩;have lh := L.len;have lz := W3.len;simp only [ze, zd, ↓reduceIte];refine ⟨⟨_, .of (S3 _ _ hr2)⟩, ⟨_, .of hr3⟩, fun d => ?_⟩;refine gz (xs := ys) (zs := zs) (PvMix H3 gs hs) ⟨Same.refl _, [], WsL.nil, rfl, fun t e he => by simp at he⟩ ?_ ?_ ?_
      . rintro j vs H4 hj ⟨S4, ks, W4, lk, _⟩
        refine ⟨?_, (S3.trans S4).seq (.of hr2), S4.seq (.of hr3)⟩;rw [W4.len, lk];exact Zd hj (Zd (Nat.min_le_left _ _) (Zd (show ys.length <= 8 by omega) (by decide)))
      . rintro j x z vs H4 U hx hz hU ⟨S4, ks, W4, lk, hks⟩
        obtain ⟨d1, hd1⟩ := vn (xs := gs) (t := j) (by have := vk hx; omega);obtain ⟨e1, he1⟩ := vn (xs := hs) (t := j) (by have := vk hz; omega);obtain ⟨p, a1, a2, a3⟩ := W2.at' j d1 hd1;obtain ⟨p', b1, b2, b3⟩ := W3.at' j e1 he1;rw [hx] at a1;cases a1;rw [hz] at b1;cases b1;have SU : Same H4 (upd H4 U (.tup [V.ref p, V.ref p'])) := Same.upd (Same.refl _) hU;simp only [ze, zd, ↓reduceIte];refine ⟨_, .of zf, rfl, ?_⟩;simp only [ze, zd, ↓reduceIte];generalize upd H4 U (.tup [V.ref p, V.ref p']) = H5 at *;have S35 := S4.trans SU;have S25 := S3.trans S35;refine ⟨p, p', _, _, _, _, rfl, S25 _ _ a2, S35 _ _ b2, fun hlt => ?_, fun hle => ?_⟩
        . refine ⟨S35, ks ++ [e1], W4.snoc SU (S35 _ _ b2) (S35 _ _ b3), by simp [lk], fun t e he => ?_⟩
          rcases v9 he with y | ⟨y, rfl⟩
          . exact hks t e y
          . rw [y, lk]
            exact ⟨d1, _, hd1, he1, .inl ⟨hlt, rfl⟩⟩
        . refine ⟨S35, ks ++ [d1], W4.snoc SU (S25 _ _ a2) (S25 _ _ a3), by simp [lk], fun t e he => ?_⟩
          rcases v9 he with y | ⟨y, rfl⟩
          . exact hks t e y
          . rw [y, lk]
            exact ⟨_, e1, hd1, he1, .inr ⟨hle, rfl⟩⟩
      . rintro vs H4 ⟨S4, ks, W4, lk, hks⟩ l hl
        have lk' : ks.length = n := by rw [lk]; omega
        have S5 : Same H4 (upd H4 l (.lst vs)) := Same.upd (Same.refl _) hl;refine ⟨S2.trans (S3.trans (S4.trans S5)), l, vs, ks, _, rfl, zf, W4.mono S5, lk', ?_, ?_, fun t ht => ?_⟩
        . intro t u e d he hd ee
          obtain ⟨d1, e1, c1, c2, c3⟩ := hks t e he;obtain ⟨d2, e2, c4, c5, c6⟩ := hks u d hd
          rcases c3 with ⟨_, rfl⟩ | ⟨_, rfl⟩ <;> rcases c6 with ⟨_, rfl⟩ | ⟨_, rfl⟩
          . exact L.dis t u _ _ c2 c5 ee
          . obtain ⟨_, _, _, x3⟩ := W2.at' u _ c4
            rw [<- ee, L.new t _ c2] at x3;cases x3
          . obtain ⟨_, _, _, x3⟩ := W2.at' t _ c1
            rw [ee, L.new u _ c5] at x3;cases x3
          . exact Td.dis t u _ _ c1 c4 ee
        . refine Td.rds.step no fun t ht => ?_
          obtain ⟨e, he⟩ := vn (xs := ks) (t := t) (by omega);obtain ⟨d1, e1, c1, c2, c3⟩ := hks t e he;obtain ⟨i2, e2, x1, x2, x3, x4⟩ := L.min t e1 c2;refine ⟨i2, by have := vk x1; omega, fun u hu => ?_, ?_⟩
          . obtain ⟨d, hd⟩ := vn (xs := gs) (t := u) (by omega)
            rw [uv x1, uv hd];exact x2 u d hd
          . rw [uv x1, uv c1, uv he]
            rcases c3 with ⟨y, rfl⟩ | ⟨y, rfl⟩
            . left
              rw [x3] at y;exact ⟨y, by rw [x3, x4]⟩
            . right
              rw [x3] at y;exact ⟨y, rfl⟩
        . obtain ⟨e, he⟩ := vn (xs := ks) (t := t) (by omega)
          obtain ⟨d1, e1, c1, c2, c3⟩ := hks t e he;have z := le t ht;rw [uv c1] at z;rw [uv he];have z' : d1.1 <= (fOf fs t).1 := z
          show e.1 <= _
          rcases c3 with ⟨y, rfl⟩ | ⟨y, rfl⟩
          . omega
          . exact z'
    . rintro σ H2 ⟨S2, r', ys, gs, v2, rfl, hr2, W2, Td⟩
      simp only [ze, zd, ↓reduceIte];exact q H2 r' ys gs S2 hr2 W2 Td
end
structure ToldAt (H : Hp) (v : V) (gs : List (Int × List Nat × Addr)) : Prop where
  ex : ∃ tp pl rl, v = V.ref tp /\ H tp = some (.tup [.ref pl, .ref rl]) /\ H pl = some (.lst ((gs.map fun e => e.1).map V.int)) /\ H rl = some (.lst (gs.map fun e => V.ref e.2.2))
  road : ∀ e ∈ gs, H e.2.2 = some (.lst ((nI e.2.1).map V.int))
def zao (a : Ad) (K : Fg) : Sp := fun vs H Q E => ∃ (g : Addr) (rows : List (List Int)) (n : Nat), vs = [.ref g] /\ Gd K H g rows n /\ 0 < n /\ (∀ H', Same H H' -> (∀ j, j <= n -> NoNeg (zy rows) n j) -> Q .non H') /\
  ∀ H' c, Same H H' -> RingA (zy rows) n c -> E (.ref a.NoPays) none H'
def PvTot (H3 : Hp) (gs : List (Int × List Nat × Addr)) (i : Nat) (ys : List V) (H4 : Hp) : Prop := H4 = H3 /\ ys = ((gs.take i).map fun e => e.1).map V.int
def PvWds (H3 : Hp) (gs : List (Int × List Nat × Addr)) (i : Nat) (ys : List V) (H4 : Hp) : Prop := H4 = H3 /\ ys = (gs.take i).map fun e => V.ref e.2.2
def PvOne (H : Hp) (b : Nat -> Int) (i : Nat) (ys : List V) (H4 : Hp) : Prop := Same H H4 /\ ∃ gs, WsL H4 ys gs /\ gs.length = i /\ Dis gs /\ ∀ t, t < i -> fOf gs t = (b t, [t])
section
variable {P : Program} {w : World} {K : Fg} {mg : Str -> Option Value} {base : Heap} {a : Ad}
theorem qz (B : Bt mg) (C : Ct K mg a) (zau : FnAt P w K mg base "ring" 5 ["grid"] (zdz K)) (D : zc K mg "refuse_ring" uz ["grid"]) : FnAtX P w K mg base "refuse_ring" 6 ["grid"] (zao a K) := by
  refine FnAtX.of D dm (fun vs H Q E h => ?_) (fun f cdv A outer s H vs Q E hr h => ?_)
  . obtain ⟨g, rows, n, rfl, _⟩ := h
    rfl
  . obtain ⟨g, rows, n, rfl, G, hn, q0, q1⟩ := h
    refine ⟨_, (@zh _ _ _ (@xl _ _ _ _ _ _ _ _ (@y7 _ _ _ _ _ _ _ _ zb9 (zg zau (hr.mono (by decide)) rfl (za (pv 0) (@zb _))) (@om _ _ _) (yx _)) (@zh _ _ _ (kj rfl C.q_NoPays.toErr rfl C.m_NoPays (qc rfl) (za (@oq _ _ _ _) (@zb _)))) (@yi _))), ?_⟩;rw [show start ["grid"] [V.ref g] = [some (V.ref g)] from rfl];simp only [ze, zd, ↓reduceIte];refine ⟨g, rows, n, rfl, G, hn, fun H1 S1 no => ?_, fun H1 l c S1 hl R => ?_⟩
    . simp only [ze, zd, ↓reduceIte]
      exact ite2 (fun z => absurd z (by simp)) fun _ => q0 H1 S1 no
    . simp only [ze, zd, ↓reduceIte]
      exact ite2 (fun _ => ⟨by decide, q1 H1 c S1 R⟩) fun z => (z (by simp)).elim
end
structure Great (rows : List (List Int)) (n : Nat) (gs : List (Int × List Nat × Addr)) : Prop where
  len : gs.length = n
  dis : Dis gs
  no : ∀ k, NoNeg (zy rows) n k
  rds : Rds (zy rows) (fun t => gcA rows t t) (fun _ => True) n (n - 1) (fOf gs)
  le : ∀ t, t < n -> (fOf gs t).1 <= gcA rows t t
def zbx (a : Ad) (K : Fg) : Sp := fun vs H Q E => ∃ (g : Addr) (rows : List (List Int)) (n : Nat), vs = [.ref g] /\ Gd K H g rows n /\ 0 < n /\ (∀ H' v gs, Same H H' -> ToldAt H' v gs -> Great rows n gs -> Q v H') /\
  ∀ H' c, Same H H' -> RingA (zy rows) n c -> E (.ref a.NoPays) none H'
section
variable {P : Program} {w : World} {K : Fg} {mg : Str -> Option Value} {base : Heap} {a : Ad}
theorem kq (B : Bt mg) (C : Ct K mg a) (qz : FnAtX P w K mg base "refuse_ring" 6 ["grid"] (zao a K)) (qv : FnAt P w K mg base "least_roads" 5 ["grid", "walks"] (zcm K)) (xm : FnAt P w K mg base "total_of" 1 ["walk"] og) (t8 : FnAt P w K mg base "words_of" 1 ["walk"] jm)
    (D : zc K mg "greatest" pz ["grid"]) : FnAtX P w K mg base "greatest" 7 ["grid"] (zbx a K) := by
  refine FnAtX.of D sc_greatest (fun vs H Q E h => ?_) (fun f cdv A outer s H vs Q E hr h => ?_)
  . obtain ⟨g, rows, n, rfl, _⟩ := h
    rfl
  . obtain ⟨g, rows, n, rfl, G, hn, q0, q1⟩ := h
    have n8 := G.n8;refine ⟨_, (@zk _ _ _ _ _ (rf (gm qz (hr.mono (by decide)) (k7 rfl) rfl (za (pv 0) (@zb _)))) (@zk _ _ _ _ _ (PS.nox (z8 (i := 1) sc_greatest.nd rfl (Or.inl rfl) (zg qv (hr.mono (by decide)) rfl (za (pv 0) (za (z7 ["t"] ["grid", "walks"] rfl (yn rfl B.range (za (zq zr rfl B.len yk (za (pv 0) (@zb _))) (@zb _))) (fun _ => (zl (i := 0) (show (["t", "grid", "walks"] : List Str).Nodup by decide +kernel) rfl (Or.inl rfl))) (fun _ => (@zt _)) (fun _ => (@xw _ _ _ _ _ (@za _ _ _ _ _ (@zw _ _ _ _ _ _ _ z0 (@zw _ _ _ _ _ _ _ z0 (pv 1) (pv 0) (fun _ _ => rfl)) (pv 0) (fun _ _ => rfl)) (@za _ _ _ _ _ (@vm _ _ _ _ (@za _ _ _ _ _ (pv 0) (@zb _) (yj nofun))) (@zb _) (yj nofun)) (yj nofun)))) rfl (by decide +kernel) rfl rfl) (@zb _)))))) (@zh _ _ _ (PS.nox (@zm _ _ _ _ (@xw _ _ _ _ _ (za (z7 ["walk"] ["grid", "walks"] rfl (@z9 _ _ _ _ (pv 1)) (fun _ => (zl (i := 0) (show (["walk", "grid", "walks"] : List Str).Nodup by decide +kernel) rfl (Or.inl rfl))) (fun _ => (@zt _)) (fun _ => (zg xm (hr.mono (by decide)) rfl (za (pv 0) (@zb _)))) rfl (by decide +kernel) rfl rfl) (za (z7 ["walk"] ["grid", "walks"] rfl (@z9 _ _ _ _ (pv 1)) (fun _ => (zl (i := 0) (show (["walk", "grid", "walks"] : List Str).Nodup by decide +kernel) rfl (Or.inl rfl))) (fun _ => (@zt _)) (fun _ => (zg t8 (hr.mono (by decide)) rfl (za (pv 0) (@zb _)))) rfl (by decide +kernel) rfl rfl) (@zb _))))))))), ?_⟩;rw [show start ["grid", "walks"] [V.ref g] = [some (V.ref g), none] from rfl];simp only [ze, zd, ↓reduceIte];refine ⟨g, rows, n, rfl, G, hn, fun H1 S1 no => ?_, fun H1 c S1 R => q1 H1 c S1 R⟩;have no' := NoNeg.all no;simp only [ze, zd, ↓reduceIte];obtain ⟨as, h1, h2⟩ := (G.mono S1).ex;refine ⟨_, .inl h1.1, ?_⟩;rw [Za, h2];refine ⟨by omega, by omega, fun d => ?_⟩;rw [Zw];refine xy (PvOne H1 fun t => gcA rows t t) ⟨Same.refl _, [], WsL.nil, rfl, Dis.nil, fun t ht => by omega⟩ ?_ ?_ ?_
    . rintro i ys H2 hi ⟨S2, gs, W2, lg, _⟩
      rw [W2.len, lg];exact Zd hi (Zd n8 (by decide))
    . rintro i ys H2 hi ⟨S2, gs, W2, lg, hd, hf⟩
      obtain ⟨ns', e1, l1⟩ := G.sq i hi;have G2 := GridL.mono S2 h1;obtain ⟨r, k1, k2⟩ := zai G2 e1;simp only [ze, zd, ↓reduceIte];refine ⟨_, G2.1, _, k1, r, rfl, _, k2, _, x6 (oa e1 (by omega)), by show 1 <= sizeLine; decide, fun l hl => ⟨by show 2 <= sizeLine; decide, fun p hp => ?_⟩⟩;have S3 : Same H2 (upd H2 l (.lst [V.int i])) := Same.upd (Same.refl _) hl;have hl3 : upd H2 l (.lst [V.int i]) l = some (.lst ((nI [i]).map V.int)) := zf;generalize upd H2 l (.lst [V.int i]) = H3 at *;have S4 : Same H3 (upd H3 p (.tup [V.int (gcA rows i i), V.ref l])) := Same.upd (Same.refl _) hp;have hp4 : upd H3 p (.tup [V.int (gcA rows i i), V.ref l]) p = some (.tup [V.int (gcA rows i i), V.ref l]) := zf;generalize upd H3 p (.tup [V.int (gcA rows i i), V.ref l]) = H4 at *;refine ⟨S2.trans (S3.trans S4), gs ++ [(gcA rows i i, [i], l)], W2.snoc (S3.trans S4) hp4 (S4 _ _ hl3), by simp [lg], hd.snoc W2 hl, fun t ht => ?_⟩
      by_cases e : t < i
      . rw [<- hf t e]
        unfold fOf;rw [Zk, Zg (by omega), <- Zk]
      . have : t = i := by omega
        subst this;rw [uv (e := (gcA rows t t, [t], l)) (by rw [Zf (by omega), lg]; simp)]
    . rintro ys H2 ⟨S2, gs, W2, lg, hd, hf⟩ l hl
      have S3 : Same H2 (upd H2 l (.lst ys)) := Same.upd (Same.refl _) hl;have hl3 : upd H2 l (.lst ys) l = some (.lst ys) := zf;generalize upd H2 l (.lst ys) = H3 at *;have S13 := S1.trans (S2.trans S3);refine ⟨g, l, rows, ys, gs, n, 0, _, _, rfl, G.mono S13, hn, no', hl3, W2.mono S3, lg, hd, Rds.one hf, by omega, fun H4 r4 zs hs S4 hr4 W4 Td => ?_⟩;have lz := W4.len;have lh := Td.len;simp only [ze, zd, ↓reduceIte];refine ⟨⟨_, .of hr4⟩, fun d2 => ?_⟩;refine zz (xs := zs) (PvTot H4 hs) ⟨rfl, rfl⟩ ?_ ?_ ?_
      . rintro i ys5 H5 hi ⟨rfl, rfl⟩
        refine ⟨?_, .of hr4⟩;rw [Za, Za, Zj];exact Zd (ZB _ _) (Zd (show hs.length <= 8 by omega) (by decide))
      . rintro i x ys5 H5 hx ⟨rfl, rfl⟩
        obtain ⟨e, he⟩ := vn (xs := hs) (t := i) (by have := vk hx; omega);obtain ⟨p, a1, a2, a3⟩ := W4.at' i e he;rw [hx] at a1;cases a1;simp only [ze, zd, ↓reduceIte];refine ⟨p, _, _, rfl, a2, rfl, ?_⟩;rw [Zq, he];simp
      . rintro ys5 H5 ⟨rfl, rfl⟩ pl hpl
        rw [lz, Zt];have S6 : Same H5 (upd H5 pl (.lst ((hs.map fun e => e.1).map V.int))) := Same.upd (Same.refl _) hpl;have hp6 : upd H5 pl (.lst ((hs.map fun e => e.1).map V.int)) pl = some (.lst ((hs.map fun e => e.1).map V.int)) := zf;generalize upd H5 pl (.lst ((hs.map fun e => e.1).map V.int)) = H6 at *;refine ⟨⟨_, S6.seq (.of hr4)⟩, fun d3 => ?_⟩;refine zz (xs := zs) (PvWds H6 hs) ⟨rfl, rfl⟩ ?_ ?_ ?_
        . rintro i ys5 H5 hi ⟨rfl, rfl⟩
          refine ⟨?_, S6.seq (.of hr4)⟩;rw [Za, Zj];exact Zd (ZB _ _) (Zd (show hs.length <= 8 by omega) (by decide))
        . rintro i x ys5 H5 hx ⟨rfl, rfl⟩
          obtain ⟨e, he⟩ := vn (xs := hs) (t := i) (by have := vk hx; omega);obtain ⟨p, a1, a2, a3⟩ := W4.at' i e he;rw [hx] at a1;cases a1;simp only [ze, zd, ↓reduceIte];refine ⟨p, _, _, rfl, S6 _ _ a2, rfl, ?_⟩;rw [Zq, he];simp
        . rintro ys7 H7 ⟨rfl, rfl⟩ rl hrl
          rw [lz, Zt];have S7 : Same H7 (upd H7 rl (.lst (hs.map fun e => V.ref e.2.2))) := Same.upd (Same.refl _) hrl;have hr7 : upd H7 rl (.lst (hs.map fun e => V.ref e.2.2)) rl = some (.lst (hs.map fun e => V.ref e.2.2)) := zf;generalize upd H7 rl (.lst (hs.map fun e => V.ref e.2.2)) = H8 at *;refine ⟨by show 2 <= sizeLine; decide, fun tp htp => ?_⟩;have S9 : Same H8 (upd H8 tp (.tup [V.ref pl, V.ref rl])) := Same.upd (Same.refl _) htp;have ht9 : upd H8 tp (.tup [V.ref pl, V.ref rl]) tp = some (.tup [V.ref pl, V.ref rl]) := zf;generalize upd H8 tp (.tup [V.ref pl, V.ref rl]) = H9 at *;have S79 := S7.trans S9;refine q0 H9 _ hs (S13.trans (S4.trans (S6.trans S79))) ⟨⟨tp, pl, rl, rfl, ht9, S79 _ _ hp6, S9 _ _ hr7⟩, fun e he => ?_⟩ ⟨lh, Td.dis, no', by have := Td.rds; rw [Nat.zero_add] at this; exact this, fun t ht => ?_⟩
          . obtain ⟨t, ht, rfl⟩ := Zy he
            obtain ⟨p, a1, a2, a3⟩ := W4.at' t hs[t] (by simp [ht]);exact (S6.trans S79) _ _ a3
          . have := Td.le t ht
            rw [hf t ht] at this;exact this
end
theorem zh3 {gs : List (Int × List Nat × Addr)} {t : Nat} (h : t < gs.length) : (gs.map fun e => e.1).getD t 0 = (fOf gs t).1 := by
  obtain ⟨e, he⟩ := vn h;rw [uv he, Zk, Ze, he];rfl
def cj : Sp := fun vs H Q _ => ∃ (c : Addr) (r : List Str) (k : Nat) (z : Str), vs = [.ref c, .int k, .str z] /\ H c = some (.tup (r.map V.str)) /\ k <= r.length /\ r.length <= 8 /\ ∀ H' p, Same H H' -> H' p = some (.tup ((insP r k z).map V.str)) -> Q (.ref p) H'
section
variable {P : Program} {w : World} {K : Fg} {mg : Str -> Option Value} {base : Heap} {a : Ad}
theorem kr (B : Bt mg) (D : zc K mg "row_with" pq ["others", "k", "word"]) : FnAt P w K mg base "row_with" 1 ["others", "k", "word"] cj := by
  refine FnAt.of D za1 (fun vs H Q E h => ?_) (fun f cdv A outer s H vs Q E hr h => ?_)
  . obtain ⟨c, r, k, z, rfl, _⟩ := h
    rfl
  . obtain ⟨c, r, k, z, rfl, hc, hk, h8, q⟩ := h
    refine ⟨_, (@zh _ _ _ (@zm _ _ _ _ (@zp _ _ _ _ _ _ _ _ tq (@zp _ _ _ _ _ _ _ _ tq (@vg _ _ _ _ _ _ _ _ _ _ p9 (pv 0) (@uk _) (@uf _ _ _ (pv 1))) (@xw _ _ _ _ _ (za (pv 2) (@zb _)))) (@vg _ _ _ _ _ _ _ _ _ _ p9 (pv 0) (@uf _ _ _ (pv 1)) (@uk _))))), ?_⟩;rw [show start ["others", "k", "word"] [V.ref c, V.int k, V.str z] = [some (V.ref c), some (V.int k), some (V.str z)] from rfl];simp only [ze, zd, ↓reduceIte];refine ⟨_, hc, fun H1 p1 S1 h1 => ⟨by decide, fun p2 hp2 => ?_⟩⟩;rw [j1 (by rw [Za]; exact hk)] at h1;have S2 : Same H1 (upd H1 p2 (.tup [V.str z])) := Same.upd (Same.refl _) hp2;refine ⟨_, S2 _ _ h1, _, zf, ?_, fun H3 p3 S3 h3 => ?_⟩
    . rw [Zj, Za]
      exact Zd (show _ <= 9 by simp; omega) (by decide)
    refine ⟨_, (S1.trans (S2.trans S3)) _ _ hc, fun H4 p4 S4 h4 => ?_⟩;rw [nh (by rw [Za]; exact hk)] at h4;refine ⟨_, S4 _ _ h3, _, h4, ?_, fun H5 p5 S5 h5 => ?_⟩
    . simp only [Zo, Zj, ZP, Za, ZL, ZW]
      exact Zd (show _ <= 17 by omega) (by decide)
    . refine q H5 p5 (S1.trans (S2.trans (S3.trans (S4.trans S5)))) ?_
      rw [h5, insP];simp
end
def putP (f : List Str -> Str) (outs o : List Str) (k : Nat) (us : List Str) : List Nat := us.map fun u => outs.idxOf (f (insP o k u))
def colP (d : HD) (ps : List Nat) : List (List Int) := d.worths.map fun r => ps.map fun p => r.getD p 0
def bw (f : List Str -> Str) (rs : List (List Str)) (outs o : List Str) (k : Nat) (d : HD) : Prop := k <= o.length /\ o.length <= 8 /\ ∀ u ∈ d.words, insP o k u ∈ rs /\ f (insP o k u) ∈ outs
def zb5 : Sp := fun vs H Q _ => ∃ (p o h t c : Addr) (hs : List Addr) (outs : List Str) (ds : List HD) (f : List Str -> Str) (rs : List (List Str)) (ot : List Str) (k : Nat) (d : HD), vs = [.ref p, .ref t, .int k, .ref c] /\ HHouse H p o h hs outs ds /\ GoodHouse outs ds /\ H t = some (.dT (wn f rs)) /\ ds[k]? = some d /\ H c = some (.tup (ot.map V.str)) /\ bw f rs outs ot k d /\
  ∀ H' l, Same H H' -> H' l = some (.lst ((nI (putP f outs ot k d.words)).map V.int)) -> Q (.ref l) H'
def fk : Sp := fun vs H Q _ => ∃ (t l : Addr) (ns : List Int) (ps : List Nat), vs = [.ref t, .ref l] /\ H t = some (.tup (ns.map V.int)) /\ H l = some (.lst ((nI ps).map V.int)) /\ (∀ p ∈ ps, p < ns.length) /\ ps.length <= 8 /\ ∀ H' l', Same H H' -> H' l' = some (.lst ((ps.map fun p => ns.getD p 0).map V.int)) -> Q (.ref l') H'
def am : Sp := fun vs H Q _ => ∃ (p o h t c : Addr) (hs : List Addr) (outs : List Str) (ds : List HD) (f : List Str -> Str) (rs : List (List Str)) (ot : List Str) (k : Nat) (d : HD), vs = [.ref p, .ref t, .int k, .ref c] /\ HHouse H p o h hs outs ds /\ GoodHouse outs ds /\ H t = some (.dT (wn f rs)) /\ ds[k]? = some d /\ H c = some (.tup (ot.map V.str)) /\ bw f rs outs ot k d /\
  ∀ H' l ls, Same H H' -> H' l = some (.lst (ls.map V.ref)) -> IntsAt H' ls (colP d (putP f outs ot k d.words)) -> Q (.ref l) H'
def PvTu (H : Hp) (o : List Str) (k : Nat) (us : List Str) (i : Nat) (ys : List V) (H' : Hp) : Prop := Same H H' /\ ∃ as : List Addr, ys = as.map V.ref /\ TupsAt H' as ((us.take i).map (insP o k))
def PvPp (H : Hp) (f : List Str -> Str) (outs o : List Str) (k : Nat) (us : List Str) (i : Nat) (ys : List V) (H' : Hp) : Prop := H' = H /\ ys = (nI (putP f outs o k (us.take i))).map V.int
def PvWa (H : Hp) (ns : List Int) (ps : List Nat) (i : Nat) (ys : List V) (H' : Hp) : Prop := H' = H /\ ys = ((ps.take i).map fun p => ns.getD p 0).map V.int
def PvCl (H : Hp) (d : HD) (ps : List Nat) (i : Nat) (ys : List V) (H' : Hp) : Prop := Same H H' /\ ∃ ls : List Addr, ys = ls.map V.ref /\ IntsAt H' ls ((colP d ps).take i)
section
variable {P : Program} {w : World} {K : Fg} {mg : Str -> Option Value} {base : Heap} {a : Ad}
theorem rn (B : Bt mg) (kr : FnAt P w K mg base "row_with" 1 ["others", "k", "word"] cj) (yl : FnAt P w K mg base "words_of_hand" 1 ["hand"] (wz K 1)) (f_hands_of : FnAt P w K mg base "hands_of" 1 ["house"] (wz K 1)) (f_outcomes_of : FnAt P w K mg base "outcomes_of" 1 ["house"] (wz K 0)) (D : zc K mg "dealt_places" uh ["house", "table", "k", "others"]) : FnAt P w K mg base "dealt_places" 2 ["house", "table", "k", "others"] zb5 := by
  refine FnAt.of D sc_dealt_places (fun vs H Q E h => ?_) (fun f cdv A outer s H vs Q E hr h => ?_)
  . obtain ⟨p, o, h, t, c, hs, outs, ds, f, rs, ot, k, d, rfl, _⟩ := h
    rfl
  . obtain ⟨p, o, h, t, c, hs, outs, ds, f, rs, ot, k, d, rfl, hH, G, ht, hd, hc, ⟨hk, h8, hD⟩, q⟩ := h
    refine ⟨_, (@zk _ _ _ _ _ (va (i := 4) ["word"] ["house", "table", "k", "others", "rows"] sc_dealt_places.nd rfl rfl rfl (@ju _ _ _ _ (zg yl (hr.mono (by decide)) rfl (za (@zw _ _ _ _ _ _ _ yq (zg f_hands_of (hr.mono (by decide)) rfl (za (pv 0) (@zb _))) (pv 2) (fun _ _ => rfl)) (@zb _)))) (fun _ => (zl (i := 0) (show (["word", "house", "table", "k", "others", "rows"] : List Str).Nodup by decide +kernel) rfl (Or.inl rfl))) (fun _ => (@zt _)) (fun _ => (zg kr (hr.mono (by decide)) rfl (za (pv 4) (za (pv 3) (za (pv 0) (@zb _)))))) rfl (by decide +kernel) rfl rfl rfl) (@zh _ _ _ (@zm _ _ _ _ (z7 ["row"] ["house", "table", "k", "others", "rows"] rfl (@z9 _ _ _ _ (pv 4)) (fun _ => (zl (i := 0) (show (["row", "house", "table", "k", "others", "rows"] : List Str).Nodup by decide +kernel) rfl (Or.inl rfl))) (fun _ => (@zt _)) (fun _ => (zeg PySem.F.plainAttrs_tuple PySem.F.slot_tuple_index PySem.F.type_tuple_index cm (zg f_outcomes_of (hr.mono (by decide)) rfl (za (pv 1) (@zb _))) (za (@zbt _ _ _ _ _ _ (hu10 hr) (pv 2) (pv 0) (fun _ _ => rfl)) (@zb _)))) rfl (by decide +kernel) rfl rfl)))), ?_⟩;rw [show start ["house", "table", "k", "others", "rows"] [V.ref p, V.ref t, V.int k, V.ref c] = [some (V.ref p), some (V.ref t), some (V.int k), some (V.ref c), none] from rfl];simp only [ze, zd, ↓reduceIte];have hkl : k < ds.length := (Zc.mp hd).1;obtain ⟨x, hx⟩ : ∃ x, hs[k]? = some x := ⟨hs[k]'(by rw [hH.hand.1]; exact hkl), by simp⟩;obtain ⟨wd, g, gs, hA⟩ := hH.hand.2 k x d hx hd;refine ⟨p, _, _, rfl, .of hH.tup, rfl, h, rfl, _, .of hH.hands, _, ya (v := V.ref x) (by rw [Ze, hx]; rfl), ?_⟩;refine ⟨x, _, _, rfl, .of hA.tup, rfl, wd, rfl, ⟨_, .of hA.words⟩, fun dd => ?_⟩;have w8 := (G.words1 d (Zi hd)).2;refine kc (xs := d.words.map V.str) (PvTu H ot k d.words) ⟨Same.refl _, [], rfl, rfl, fun i a r e => by simp at e⟩ ?_ ?_ ?_
    . rintro i ys H2 hi ⟨S2, as, rfl, T2⟩
      refine ⟨?_, .of (S2 _ _ hA.words)⟩;rw [Za, T2.len, Za, Zj];exact Zd (ZB _ _) (Zd w8 (by decide))
    . rintro i y ys H2 hy ⟨S2, as, rfl, T2⟩
      obtain ⟨u, hu, rfl⟩ := yd hy;simp only [ze, zd, ↓reduceIte];refine ⟨c, ot, k, u, rfl, S2 _ _ hc, hk, h8, fun H3 p3 S3 h3 => ?_⟩;refine ⟨S2.trans S3, as ++ [p3], by simp, ?_⟩;rw [Zq, hu, Zn];exact (T2.mono S3).append (TupsAt.one h3)
    . rintro ys H2 ⟨S2, as, rfl, T2⟩ l hl
      rw [Za, Zt] at T2;have S3 : Same H2 (upd H2 l (.lst (as.map V.ref))) := Same.upd (Same.refl _) hl;have h3 : upd H2 l (.lst (as.map V.ref)) l = some (.lst (as.map V.ref)) := zf;generalize upd H2 l (.lst (as.map V.ref)) = H3 at *;have T3 := T2.mono S3;have S13 := S2.trans S3;refine ⟨⟨_, .of h3⟩, fun dd => ?_⟩;refine zz (xs := as.map V.ref) (PvPp H3 f outs ot k d.words) ⟨rfl, rfl⟩ ?_ ?_ ?_
      . rintro i ys H4 hi ⟨rfl, rfl⟩
        refine ⟨?_, .of h3⟩;rw [Za, nI, Za, putP, Za, Zj];exact Zd (ZB _ _) (Zd w8 (by decide))
      . rintro i y ys H4 hy ⟨rfl, rfl⟩
        obtain ⟨b, hb, rfl⟩ := tm hy;have hi : i < d.words.length := by have := (Zc.mp hb).1; have := T3.len; rw [Za] at this; omega
        have hu : d.words[i]? = some d.words[i] := Zb hi;have hrow := T3.at' i b _ hb (by rw [Ze, hu]; rfl);obtain ⟨z1, z2⟩ := hD _ (Zl hi);generalize d.words[i] = u at *;have hval : valV (wn f rs) (vc (insP ot k u)) = some (V.str (f (insP ot k u))) := g9 z1
        have gt : DGet H4 t (.ref b) (some (V.str (f (insP ot k u)))) := by
          have := DGet.t (k := vc (insP ot k u)) (S13 _ _ ht) (b := b) (by rw [jy]; exact hrow)
          rwa [hval] at this
        simp only [ze, zd, ↓reduceIte];have hH4 := hH.mono S13;refine ⟨p, _, _, rfl, .of hH4.tup, rfl, ⟨o, rfl, _, .of hH4.outs⟩, _, gt, o, rfl, _, .of hH4.outs, _, jn z2, rfl, ?_⟩;rw [Zq, hu];simp [putP, nI]
      . rintro ys H4 ⟨rfl, rfl⟩ l2 hl2
        rw [Za, T3.len, Za, Zt];exact q _ l2 (S13.trans (Same.upd (Same.refl _) hl2)) zf
theorem mx (D : zc K mg "worths_at" r9 ["worths", "places"]) : FnAt P w K mg base "worths_at" 1 ["worths", "places"] fk := by
  refine FnAt.of D zab (fun vs H Q E h => ?_) (fun f cdv A outer s H vs Q E hr h => ?_)
  . obtain ⟨t, l, ns, ps, rfl, _⟩ := h
    rfl
  . obtain ⟨t, l, ns, ps, rfl, ht, hl, hp, h8, q⟩ := h
    refine ⟨_, (@zh _ _ _ (@zm _ _ _ _ (z7 ["place"] ["worths", "places"] rfl (@z9 _ _ _ _ (pv 1)) (fun _ => (zl (i := 0) (show (["place", "worths", "places"] : List Str).Nodup by decide +kernel) rfl (Or.inl rfl))) (fun _ => (@zt _)) (fun _ => (@zw _ _ _ _ _ _ _ yq (pv 1) (pv 0) (fun _ _ => rfl))) rfl (by decide +kernel) rfl rfl))), ?_⟩;rw [show start ["worths", "places"] [V.ref t, V.ref l] = [some (V.ref t), some (V.ref l)] from rfl];simp only [ze, zd, ↓reduceIte];refine ⟨⟨_, .of hl⟩, fun dd => ?_⟩;refine zz (xs := (nI ps).map V.int) (PvWa H ns ps) ⟨rfl, rfl⟩ ?_ ?_ ?_
    . rintro i ys H4 hi ⟨rfl, rfl⟩
      refine ⟨?_, .of hl⟩;rw [Za, Za, Zj];exact Zd (ZB _ _) (Zd h8 (by decide))
    . rintro i y ys H4 hy ⟨rfl, rfl⟩
      obtain ⟨z, hz, rfl⟩ := gx hy;rw [nI, Ze] at hz
      obtain ⟨pl, hpl⟩ : ∃ y, ps[i]? = some y := by
        cases e : ps[i]? with
        | none => rw [e] at hz; cases hz
        | some y => exact ⟨y, rfl⟩
      rw [hpl] at hz;cases hz;have lt := hp pl (Zi hpl);have ex : ns[pl]? = some (ns.getD pl 0) := by rw [Zk, Zb lt]; rfl
      simp only [ze, zd, ↓reduceIte];refine ⟨_, .of ht, _, x6 ex, rfl, ?_⟩;rw [Zq, hpl, Zn, Zn];rfl
    . rintro ys H4 ⟨rfl, rfl⟩ l2 hl2
      rw [Za, nI, Za, Zt];exact q _ l2 (Same.upd (Same.refl _) hl2) zf
theorem jp (B : Bt mg) (rn : FnAt P w K mg base "dealt_places" 2 ["house", "table", "k", "others"] zb5) (mx : FnAt P w K mg base "worths_at" 1 ["worths", "places"] fk) (xn : FnAt P w K mg base "worths_of_hand" 1 ["hand"] (wz K 2)) (f_hands_of : FnAt P w K mg base "hands_of" 1 ["house"] (wz K 1)) (D : zc K mg "grid_of" mf ["house", "table", "k", "others"]) : FnAt P w K mg base "grid_of" 3 ["house", "table", "k", "others"] am := by
  refine FnAt.of D sc_grid_of (fun vs H Q E h => ?_) (fun f cdv A outer s H vs Q E hr h => ?_)
  . obtain ⟨p, o, h, t, c, hs, outs, ds, f, rs, ot, k, d, rfl, _⟩ := h
    rfl
  . obtain ⟨p, o, h, t, c, hs, outs, ds, f, rs, ot, k, d, rfl, hH, G, ht, hd, hc, hD, q⟩ := h
    refine ⟨_, (@zk _ _ _ _ _ (z8 (i := 4) sc_grid_of.nd rfl (Or.inr rfl) (zg rn (hr.mono (by decide)) rfl (za (pv 0) (za (pv 1) (za (pv 2) (za (pv 3) (@zb _))))))) (@zh _ _ _ (@zm _ _ _ _ (z7 ["worths"] ["house", "table", "k", "others", "places"] rfl (@ju _ _ _ _ (zg xn (hr.mono (by decide)) rfl (za (@zw _ _ _ _ _ _ _ yq (zg f_hands_of (hr.mono (by decide)) rfl (za (pv 0) (@zb _))) (pv 2) (fun _ _ => rfl)) (@zb _)))) (fun _ => (zl (i := 0) (show (["worths", "house", "table", "k", "others", "places"] : List Str).Nodup by decide +kernel) rfl (Or.inl rfl))) (fun _ => (@zt _)) (fun _ => (zg mx (hr.mono (by decide)) rfl (za (pv 0) (za (pv 5) (@zb _))))) rfl (by decide +kernel) rfl rfl)))), ?_⟩;rw [show start ["house", "table", "k", "others", "places"] [V.ref p, V.ref t, V.int k, V.ref c] = [some (V.ref p), some (V.ref t), some (V.int k), some (V.ref c), none] from rfl];simp only [ze, zd, ↓reduceIte];refine ⟨p, o, h, t, c, hs, outs, ds, f, rs, ot, k, d, rfl, hH, G, ht, hd, hc, hD, fun H1 l S1 hl => ?_⟩;have hkl : k < ds.length := (Zc.mp hd).1;obtain ⟨x, hx⟩ : ∃ x, hs[k]? = some x := ⟨hs[k]'(by rw [hH.hand.1]; exact hkl), by simp⟩;have hH1 := hH.mono S1;obtain ⟨wd, g, gs, hA⟩ := hH1.hand.2 k x d hx hd;have hmd := Zi hd;have w8 := (G.words1 d hmd).2;have ro := G.rows d hmd;simp only [ze, zd, ↓reduceIte];refine ⟨p, _, _, rfl, .of hH1.tup, rfl, h, rfl, _, .of hH1.hands, _, ya (v := V.ref x) (by rw [Ze, hx]; rfl), ?_⟩;refine ⟨x, _, _, rfl, .of hA.tup, rfl, g, rfl, ⟨_, .of hA.grid⟩, fun dd => ?_⟩
    have hps : ∀ p ∈ putP f outs ot k d.words, p < outs.length := fun p hp => by
      obtain ⟨u, hu, rfl⟩ := Zp.mp hp;exact Zz.mpr (hD.2.2 u hu).2
    have lps : (putP f outs ot k d.words).length = d.words.length := by rw [putP, Za]
    generalize putP f outs ot k d.words = ps at *;refine kc (xs := gs.map V.ref) (PvCl H1 d ps) ⟨Same.refl _, [], rfl, rfl, fun i a r e => by simp at e⟩ ?_ ?_ ?_
    . rintro i ys H2 hi ⟨S2, as, rfl, T2⟩
      refine ⟨?_, .of (S2 _ _ hA.grid)⟩;rw [Za, T2.len, Zj, colP, Za];exact Zd (ZB _ _) (Zd (show _ <= 8 by omega) (by decide))
    . rintro i y ys H2 hy ⟨S2, as, rfl, T2⟩
      obtain ⟨b, hb, rfl⟩ := tm hy;have hi : i < d.worths.length := by have := (Zc.mp hb).1; have := hA.len; omega
      have er : d.worths[i]? = some d.worths[i] := Zb hi;have hrow := S2 _ _ (hA.row i b _ hb er);have hcl := G.cols d hmd _ (Zl hi);simp only [ze, zd, ↓reduceIte];refine ⟨b, l, d.worths[i], ps, rfl, hrow, S2 _ _ hl, fun p hp => by rw [hcl]; exact hps p hp, by omega, fun H3 l3 S3 h3 => ?_⟩;refine ⟨S2.trans S3, as ++ [l3], by simp, ?_⟩;rw [Zq, colP, Ze, er];exact (T2.mono S3).snoc h3
    . rintro ys H2 ⟨S2, as, rfl, T2⟩ l2 hl2
      rw [Za, hA.len, ZG (by rw [colP, Za]; exact Zm _)] at T2;have S3 : Same H2 (upd H2 l2 (.lst (as.map V.ref))) := Same.upd (Same.refl _) hl2;exact q _ l2 as (S1.trans (S2.trans S3)) zf (T2.mono S3)
end
def zax : Sp := fun vs H Q _ => ∃ (b o t c : Addr) (xs : List HX) (outs : List Str) (ds : List HD) (f : List Str -> Str) (rs : List (List Str)) (ot : List Str) (k : Nat) (d : HD), vs = [.ref b, .ref o, .ref t, .int k, .ref c] /\ HandsL H b xs ds /\ GoodHouse outs ds /\ H o = some (.lst (outs.map V.str)) /\ H t = some (.dT (wn f rs)) /\ ds[k]? = some d /\ H c = some (.tup (ot.map V.str)) /\ bw f rs outs ot k d /\
  ∀ H' l ls, Same H H' -> H' l = some (.lst (ls.map V.ref)) -> IntsAt H' ls (colP d (putP f outs ot k d.words)) -> Q (.ref l) H'
def PvPq (H : Hp) (f : List Str -> Str) (outs o : List Str) (k : Nat) (us : List Str) (i : Nat) (ys : List V) (H' : Hp) : Prop := Same H H' /\ ys = (nI (putP f outs o k (us.take i))).map V.int
def PvWb (H : Hp) (ns : List Int) (ps : List Nat) (i : Nat) (ys : List V) (H' : Hp) : Prop := Same H H' /\ ys = ((ps.take i).map fun p => ns.getD p 0).map V.int
structure GrA (H : Hp) (g : Addr) (rows : List (List Int)) (n : Nat) : Prop where
  ex : ∃ ls, H g = some (.lst (ls.map V.ref)) /\ IntsAt H ls rows
  len : rows.length = n
  wid : ∀ r ∈ rows, r.length = n
theorem GrA.mono {H H' : Hp} {g : Addr} {rows : List (List Int)} {n : Nat} (S : Same H H') (h : GrA H g rows n) : GrA H' g rows n :=
  ⟨by obtain ⟨ls, h1, h2⟩ := h.ex; exact ⟨ls, S _ _ h1, h2.mono S⟩, h.len, h.wid⟩
def cw (K : Fg) : Sp := fun vs H Q _ => ∃ (g l : Addr) (rows : List (List Int)) (n : Nat) (wt : Int) (ps : List Int), vs = [.ref g, .int wt, .ref l] /\ GrA H g rows n /\ n <= 8 /\ H l = some (.lst (ps.map V.int)) /\ ps.length = n /\ y4 wt /\ (∀ t s, t < n -> s < n -> y4 (gcA rows t s - gcA rows t t) /\ wt * (gcA rows t s - gcA rows t t) <= ps.getD s 0 - ps.getD t 0) /\ Q (.bl true) H
def spLow (K : Fg) : Sp := fun vs H Q _ => ∃ (x : HX) (d : HD), vs = [.ref x.t] /\ HandAt H x d /\ 0 < d.worths.length /\ d.worths.length <= 8 /\ (∀ r ∈ d.worths, 0 < r.length) /\ ∀ H' m, Same H H' -> (∀ r ∈ d.worths, ∀ i ∈ r, m <= i) -> Q (.int m) H'
def ck (K : Fg) : Sp := fun vs H Q _ => ∃ (g l h : Addr) (rows : List (List Int)) (n : Nat) (wt : Int) (ps hg : List Int), vs = [.ref g, .int wt, .ref l, .ref h] /\ GrA H g rows n /\ n <= 8 /\ H l = some (.lst (ps.map V.int)) /\ ps.length = n /\ H h = some (.lst (hg.map V.int)) /\ hg.length = n /\ y4 wt /\ (∀ t, t < n -> y4 (gcA rows t t) /\ ps.getD t 0 <= wt * gcA rows t t /\ y4 (hg.getD t 0) /\ ps.getD t 0 <= wt * hg.getD t 0) /\ Q (.bl true) H
theorem GrA.at' {K : Fg} {H : Hp} {g : Addr} {rows : List (List Int)} {n : Nat} (G : GrA H g rows n) : ∃ ls : List Addr, SqL K H g (ls.map V.ref) /\ ls.length = n /\ ∀ t, t < n -> ∃ (r : Addr) (ns : List Int), atI (ls.map V.ref) (t : Int) = some (V.ref r) /\ SqL K H r (ns.map V.int) /\ ns.length = n /\ ∀ s, s < n -> ns[s]? = some (gcA rows t s) := by
  obtain ⟨ls, h1, h2⟩ := G.ex;refine ⟨ls, .of h1, by rw [h2.len, G.len], fun t ht => ?_⟩;have hr : t < rows.length := by rw [G.len]; exact ht
  have hl : t < ls.length := by rw [h2.len]; exact hr
  have er : rows[t]? = some rows[t] := Zb hr;have wr := G.wid _ (Zl hr);refine ⟨ls[t], rows[t], ya (by rw [Ze, Zb hl]; rfl), .of (h2.at' t _ _ (Zb hl) er), wr, fun s hs => oa er (by omega)⟩
theorem cmB {a b : Int} (h1 : y4 a) (h2 : y4 b) : CMulB a b := ⟨⟨by have := h1.1; omega, by have := h1.2; omega⟩, by have := h2.1; omega, by have := h2.2; omega⟩
def PvHw (g l : Addr) (wt : Int) (m : Nat) (H : Hp) (i : Nat) (σ : L2.St) (H' : Hp) : Prop := H' = H /\ ∃ vs : List (Option V), vs.length = m /\ σ = [some (.ref g), some (.int wt), some (.ref l)] ++ vs
def PvHw2 (g l : Addr) (wt : Int) (m t : Nat) (H : Hp) (i : Nat) (σ : L2.St) (H' : Hp) : Prop := H' = H /\ ∃ vs : List (Option V), vs.length = m /\ σ = [some (.ref g), some (.int wt), some (.ref l), some (.int t)] ++ vs
def PvBd (g l h : Addr) (wt : Int) (H : Hp) (i : Nat) (σ : L2.St) (H' : Hp) : Prop := H' = H /\ ∃ v : Option V, σ = [some (.ref g), some (.int wt), some (.ref l), some (.ref h), v]
def PvMn (H : Hp) (rs : List (List Int)) (i : Nat) (ys : List V) (H' : Hp) : Prop := H' = H /\ ∃ ms : List Int, ys = ms.map V.int /\ ms.length = i /\ ∀ (j : Nat) (m : Int) (r : List Int), ms[j]? = some m -> rs[j]? = some r -> ∀ x ∈ r, m <= x
section
variable {P : Program} {w : World} {K : Fg} {mg : Str -> Option Value} {base : Heap} {a : Ad}
theorem ou (B : Bt mg) (D : zc K mg "_law_column" rc ["hands", "outcomes", "table", "k", "others"]) : FnAt P w K mg base "_law_column" 1 ["hands", "outcomes", "table", "k", "others"] zax := by
  refine FnAt.of D sc_law_column (fun vs H Q E h => ?_) (fun f cdv A outer s H vs Q E hr h => ?_)
  . obtain ⟨b, o, t, c, xs, outs, ds, f, rs, ot, k, d, rfl, _⟩ := h
    rfl
  . obtain ⟨b, o, t, c, xs, outs, ds, f, rs, ot, k, d, rfl, hH, G, ho, ht, hd, hc, ⟨hk, h8, hD⟩, q⟩ := h
    refine ⟨_, (@zk _ _ _ _ _ (z8 (i := 5) sc_law_column.nd rfl (Or.inr rfl) (z7 ["word"] ["hands", "outcomes", "table", "k", "others", "places"] rfl (@z9 _ _ _ _ (@zw _ _ _ _ _ _ _ yq (@zw _ _ _ _ _ _ _ z0 (pv 0) (pv 3) (fun _ _ => rfl)) (@zj _ _ _ _) (fun _ _ => rfl))) (fun _ => (zl (i := 0) (show (["word", "hands", "outcomes", "table", "k", "others", "places"] : List Str).Nodup by decide +kernel) rfl (Or.inl rfl))) (fun _ => (@zt _)) (fun _ => (kt PySem.F.plainAttrs_list PySem.F.slot_list_index PySem.F.type_list_index cp (pv 2) (za (@zbt _ _ _ _ _ _ (hu10 hr) (pv 3) (@zp _ _ _ _ _ _ _ _ tq (@zp _ _ _ _ _ _ _ _ tq (@vg _ _ _ _ _ _ _ _ _ _ p9 (pv 5) (@uk _) (@uf _ _ _ (pv 4))) (@xw _ _ _ _ _ (za (pv 0) (@zb _)))) (@vg _ _ _ _ _ _ _ _ _ _ p9 (pv 5) (@uf _ _ _ (pv 4)) (@uk _))) (fun _ _ => rfl)) (@zb _)))) rfl (by decide +kernel) rfl rfl)) (@zh _ _ _ (@zm _ _ _ _ (zf9 ["worths"] ["hands", "outcomes", "table", "k", "others", "places"] rfl (@z9 _ _ _ _ (@zw _ _ _ _ _ _ _ yq (@zw _ _ _ _ _ _ _ z0 (pv 0) (pv 3) (fun _ _ => rfl)) (@zj _ _ _ _) (fun _ _ => rfl))) (fun _ => (zl (i := 0) (show (["worths", "hands", "outcomes", "table", "k", "others", "places"] : List Str).Nodup by decide +kernel) rfl (Or.inr rfl))) (fun _ => (@zt _)) (fun _ => (z7 ["place"] ["worths", "hands", "outcomes", "table", "k", "others", "places"] rfl (@z9 _ _ _ _ (pv 6)) (fun _ => (zl (i := 0) (show (["place", "worths", "hands", "outcomes", "table", "k", "others", "places"] : List Str).Nodup by decide +kernel) rfl (Or.inl rfl))) (fun _ => (@zt _)) (fun _ => (@zw _ _ _ _ _ _ _ z0 (pv 1) (pv 0) (fun _ _ => rfl))) rfl (by decide +kernel) rfl rfl)) rfl (by decide +kernel) rfl rfl)))), ?_⟩;rw [show start ["hands", "outcomes", "table", "k", "others", "places"] [V.ref b, V.ref o, V.ref t, V.int k, V.ref c] = [some (V.ref b), some (V.ref o), some (V.ref t), some (V.int k), some (V.ref c), none] from rfl];simp only [ze, zd, ↓reduceIte];have hkl : k < ds.length := (Zc.mp hd).1;obtain ⟨x, hx⟩ : ∃ x, xs[k]? = some x := ⟨xs[k]'(by rw [hH.len]; exact hkl), by simp⟩;have hA := hH.hand k x d hx hd;have hmd := Zi hd;have w8 := (G.words1 d hmd).2;have ro := G.rows d hmd;refine ⟨_, .of hH.at', _, ya (v := V.ref x.t) (by rw [Ze, hx]; rfl), x.t, rfl, _, .of hA.tup, _, rfl, x.w, rfl, ⟨_, .of hA.words⟩, fun dd => ?_⟩;refine zz (xs := d.words.map V.str) (PvPq H f outs ot k d.words) ⟨Same.refl _, rfl⟩ ?_ ?_ ?_
    . rintro i ys H2 hi ⟨S2, rfl⟩
      refine ⟨?_, .of (S2 _ _ hA.words)⟩;rw [Za, nI, Za, putP, Za, Zj];exact Zd (ZB _ _) (Zd w8 (by decide))
    . rintro i y ys H2 hy ⟨S2, rfl⟩
      obtain ⟨u, hu, rfl⟩ := yd hy;obtain ⟨z1, z2⟩ := hD u (Zi hu);simp only [ze, zd, ↓reduceIte];refine ⟨.inl ⟨rfl, _, .of (S2 _ _ ho)⟩, _, S2 _ _ hc, fun H1 p1 S1 h1 => ⟨by decide, fun p2 hp2 => ?_⟩⟩;rw [j1 (by rw [Za]; exact hk)] at h1;have T2 : Same H1 (upd H1 p2 (.tup [V.str u])) := Same.upd (Same.refl _) hp2;refine ⟨_, T2 _ _ h1, _, zf, ?_, fun H3 p3 S3 h3 => ?_⟩
      . rw [Zj, Za]
        exact Zd (show _ <= 9 by simp; omega) (by decide)
      have S23 := S2.trans (S1.trans (T2.trans S3));refine ⟨_, S23 _ _ hc, fun H4 p4 S4 h4 => ?_⟩;rw [nh (by rw [Za]; exact hk)] at h4;refine ⟨_, S4 _ _ h3, _, h4, ?_, fun H5 p5 S5 h5 => ?_⟩
      . simp only [Zo, Zj, ZP, Za, ZL, ZW]
        exact Zd (show _ <= 17 by omega) (by decide)
      have S25 := S23.trans (S4.trans S5)
      have hrow : H5 p5 = some (.tup ((insP ot k u).map V.str)) := by
        rw [h5, insP];simp
      have hval : valV (wn f rs) (vc (insP ot k u)) = some (V.str (f (insP ot k u))) := g9 z1
      have gt : DGet H5 t (.ref p5) (some (V.str (f (insP ot k u)))) := by
        have := DGet.t (k := vc (insP ot k u)) (S25 _ _ ht) (b := p5) (by rw [jy]; exact hrow)
        rwa [hval] at this
      refine ⟨_, gt, _, .of (S25 _ _ ho), _, jn z2, S25, ?_⟩;rw [Zq, hu];simp [putP, nI]
    . rintro ys H2 ⟨S2, rfl⟩ l hl
      rw [Za, Zt];have S3 : Same H2 (upd H2 l (.lst ((nI (putP f outs ot k d.words)).map V.int))) := Same.upd (Same.refl _) hl;have h3 : upd H2 l (.lst ((nI (putP f outs ot k d.words)).map V.int)) l = some (.lst ((nI (putP f outs ot k d.words)).map V.int)) := zf;generalize upd H2 l (.lst ((nI (putP f outs ot k d.words)).map V.int)) = H3 at *;have S13 := S2.trans S3;have hH3 := hH.mono S13;have hA3 := hA.mono S13
      have hps : ∀ p ∈ putP f outs ot k d.words, p < outs.length := fun p hp => by
        obtain ⟨u, hu, rfl⟩ := Zp.mp hp;exact Zz.mpr (hD u hu).2
      have lps : (putP f outs ot k d.words).length = d.words.length := by rw [putP, Za]
      generalize putP f outs ot k d.words = ps at *;refine ⟨_, .of hH3.at', _, ya (v := V.ref x.t) (by rw [Ze, hx]; rfl), x.t, rfl, _, .of hA3.tup, _, rfl, x.g, rfl, ⟨_, .of hA3.grid⟩, fun dd => ?_⟩;refine zz (xs := x.gs.map V.ref) (PvCl H3 d ps) ⟨Same.refl _, [], rfl, rfl, fun i a r e => by simp at e⟩ ?_ ?_ ?_
      . rintro i ys H4 hi ⟨S4, as, rfl, T4⟩
        refine ⟨?_, .of (S4 _ _ hA3.grid)⟩;rw [Za, T4.len, Zj, colP, Za];exact Zd (ZB _ _) (Zd (show _ <= 8 by omega) (by decide))
      . rintro i y ys H4 hy ⟨S4, as, rfl, T4⟩
        obtain ⟨e, he, rfl⟩ := tm hy;have hi : i < d.worths.length := by have := (Zc.mp he).1; have := hA3.len; omega
        have er : d.worths[i]? = some d.worths[i] := Zb hi;have hrow := S4 _ _ (hA3.row i e _ he er);have hcl := G.cols d hmd _ (Zl hi);have hl4 := S4 _ _ h3;simp only [ze, zd, ↓reduceIte];refine ⟨⟨_, .of hl4⟩, fun dd => ?_⟩;refine zz (xs := (nI ps).map V.int) (PvWb H4 d.worths[i] ps) ⟨Same.refl _, rfl⟩ ?_ ?_ ?_
        . rintro j ys H5 hj ⟨S5, rfl⟩
          refine ⟨?_, .of (S5 _ _ hl4)⟩;rw [Za, Za, Zj];exact Zd (ZB _ _) (Zd (show _ <= 8 by omega) (by decide))
        . rintro j y ys H5 hy ⟨S5, rfl⟩
          obtain ⟨z, hz, rfl⟩ := gx hy;rw [nI, Ze] at hz
          obtain ⟨pl, hpl⟩ : ∃ y, ps[j]? = some y := by
            cases e : ps[j]? with
            | none => rw [e] at hz; cases hz
            | some y => exact ⟨y, rfl⟩
          rw [hpl] at hz;cases hz;have lt := hps pl (Zi hpl);rw [<- hcl] at lt;have ex : (d.worths[i])[pl]? = some ((d.worths[i]).getD pl 0) := by rw [Zk, Zb lt]; rfl
          simp only [ze, zd, ↓reduceIte];refine ⟨_, .of (S5 _ _ hrow), _, x6 ex, S5, ?_⟩;rw [Zq, hpl, Zn, Zn];rfl
        . rintro ys H5 ⟨S5, rfl⟩ l2 hl2
          rw [Za, nI, Za, Zt];have S6 : Same H5 (upd H5 l2 (.lst ((ps.map fun p => (d.worths[i]).getD p 0).map V.int))) := Same.upd (Same.refl _) hl2;refine ⟨S4.trans (S5.trans S6), as ++ [l2], by simp, ?_⟩;rw [Zq, colP, Ze, er];exact (T4.mono (S5.trans S6)).snoc zf
      . rintro ys H4 ⟨S4, as, rfl, T4⟩ l2 hl2
        rw [Za, hA3.len, ZG (by rw [colP, Za]; exact Zm _)] at T4;have S5 : Same H4 (upd H4 l2 (.lst (as.map V.ref))) := Same.upd (Same.refl _) hl2;exact q _ l2 as (S13.trans (S4.trans S5)) zf (T4.mono S5)
theorem ow (B : Bt mg) (D : zc K mg "_law_honest" si ["grid", "weight", "pays"]) : FnAt P w K mg base "_law_honest" 1 ["grid", "weight", "pays"] (cw K) := by
  refine FnAt.of D sc_law_honest (fun vs H Q E h => ?_) (fun f cdv A outer s H vs Q E hr h => ?_)
  . obtain ⟨g, l, rows, n, wt, ps, rfl, _⟩ := h
    rfl
  . obtain ⟨g, l, rows, n, wt, ps, rfl, G, n8, hl, lp, gw, hon, q⟩ := h
    refine ⟨_, (@zk _ _ _ _ _ (xk PassesOwn.never rfl (yn rfl B.range (za (zq zr rfl B.len yk (za (pv 0) (@zb _))) (@zb _))) (zl (i := 3) sc_law_honest.nd rfl (Or.inl rfl)) (@zh _ _ _ (xk PassesOwn.never rfl (yn rfl B.range (za (zq zr rfl B.len yk (za (pv 0) (@zb _))) (@zb _))) (zl (i := 4) sc_law_honest.nd rfl (Or.inl rfl)) (@zk _ _ _ _ _ (z8 (i := 5) sc_law_honest.nd rfl (Or.inl rfl) (@zp _ _ _ _ _ _ _ _ j3 (pv 1) (@zp _ _ _ _ _ _ _ _ ua (@zw _ _ _ _ _ _ _ z0 (@zw _ _ _ _ _ _ _ z0 (pv 0) (pv 3) (fun _ _ => rfl)) (pv 4) (fun _ _ => rfl)) (@zw _ _ _ _ _ _ _ z0 (@zw _ _ _ _ _ _ _ z0 (pv 0) (pv 3) (fun _ _ => rfl)) (pv 3) (fun _ _ => rfl))))) (@zh _ _ _ (@xl _ _ _ _ _ _ _ _ (@y7 _ _ _ _ _ _ _ _ bv (pv 5) (@zp _ _ _ _ _ _ _ _ ua (@zw _ _ _ _ _ _ _ z0 (pv 2) (pv 4) (fun _ _ => rfl)) (@zw _ _ _ _ _ _ _ z0 (pv 2) (pv 3) (fun _ _ => rfl))) (yx _)) (@zh _ _ _ (@zm _ _ _ _ (@vy _ _ _ _))) (@yi _))))))) (@zh _ _ _ (@zm _ _ _ _ (@vy _ _ _ _)))), ?_⟩;rw [show start ["grid", "weight", "pays", "t", "s", "more"] [V.ref g, V.int wt, V.ref l] = [some (V.ref g), some (V.int wt), some (V.ref l), none, none, none] from rfl];simp only [ze, zd, ↓reduceIte];obtain ⟨ls, g1, g2, g3⟩ := G.at' (K := K);refine ⟨_, .inl g1, ?_⟩;rw [Za, g2];refine ⟨by omega, by omega, ?_⟩;rw [Zw];refine xt (PvHw g l wt 3 H) ⟨rfl, _, rfl, rfl⟩ ?_ ?_
    . rintro t σ H4 ht ⟨rfl, vs, lv, rfl⟩
      match vs, lv with
      | [v3, v4, v5], _ =>
      simp only [ze, zd, ↓reduceIte];refine ⟨_, .inl g1, ?_⟩;rw [Za, g2];refine ⟨by omega, by omega, ?_⟩;rw [Zw];refine xt (PvHw2 g l wt 2 t H4) ⟨rfl, _, rfl, rfl⟩ ?_ ?_
      . rintro s' σ H5 hs ⟨rfl, vs, lv, rfl⟩
        match vs, lv with
        | [v4, v5], _ =>
        obtain ⟨r, ns, a1, a2, a3, a4⟩ := g3 t ht;obtain ⟨b1, b2⟩ := hon t s' ht hs;simp only [ze, zd, ↓reduceIte];refine ⟨_, g1, _, a1, r, rfl, _, a2, _, x6 (a4 s' hs), _, g1, _, a1, r, rfl, _, a2, _, x6 (a4 t ht), _, rfl, _, rfl, cmB gw b1, _, .of hl, _, x6 (oo (by omega)), _, .of hl, _, x6 (oo (by omega)), _, rfl, _, rfl, ite2 (fun h => absurd (of_decide_eq_true h) (by omega)) fun _ => ⟨rfl, _, rfl, rfl⟩⟩
      . rintro σ H5 ⟨rfl, vs, lv, rfl⟩
        exact ⟨rfl, _, by simp [lv], rfl⟩
    . rintro σ H4 ⟨rfl, vs, lv, rfl⟩
      simp only [ze, zd, ↓reduceIte];exact q
theorem jj (B : Bt mg) (D : zc K mg "_law_low" nk ["hand"]) : FnAt P w K mg base "_law_low" 1 ["hand"] (spLow K) := by
  refine FnAt.of D zc1 (fun vs H Q E h => ?_) (fun f cdv A outer s H vs Q E hr h => ?_)
  . obtain ⟨x, d, rfl, _⟩ := h
    rfl
  . obtain ⟨x, d, rfl, hA, h0, h8, hw, q⟩ := h
    refine ⟨_, (@zh _ _ _ (@zm _ _ _ _ (zq (ml rfl) rfl B.min jh (za (z7 ["worths"] ["hand"] rfl (@z9 _ _ _ _ (@zw _ _ _ _ _ _ _ yq (pv 0) (@zj _ _ _ _) (fun _ _ => rfl))) (fun _ => (zl (i := 0) (show (["worths", "hand"] : List Str).Nodup by decide +kernel) rfl (Or.inl rfl))) (fun _ => (@zt _)) (fun _ => (zq (ml rfl) rfl B.min jh (za (pv 0) (@zb _)))) rfl (by decide +kernel) rfl rfl) (@zb _))))), ?_⟩;rw [show start ["hand"] [V.ref x.t] = [some (V.ref x.t)] from rfl];simp only [ze, zd, ↓reduceIte];refine ⟨_, .of hA.tup, _, rfl, x.g, rfl, ⟨_, .of hA.grid⟩, fun dd => ?_⟩;refine zz (xs := x.gs.map V.ref) (PvMn H d.worths) ⟨rfl, [], rfl, rfl, fun j m r e => by simp at e⟩ ?_ ?_ ?_
    . rintro i ys H4 hi ⟨rfl, ms, rfl, lm, hm⟩
      refine ⟨?_, .of hA.grid⟩;rw [Za] at hi ⊢;have := hA.len;exact Zd (show _ <= 8 by omega) (by decide)
    . rintro i y ys H4 hy ⟨rfl, ms, rfl, lm, hm⟩
      obtain ⟨e, he, rfl⟩ := tm hy;have hi : i < d.worths.length := by have := (Zc.mp he).1; have := hA.len; omega
      have er : d.worths[i]? = some d.worths[i] := Zb hi;have hrow := hA.row i e _ he er;simp only [ze, zd, ↓reduceIte];refine ⟨_, .of hrow, hw _ (Zl hi), fun m _ m2 => ⟨rfl, ms ++ [m], by simp, by simp [lm], fun j z r e1 e2 => ?_⟩⟩
      by_cases hj : j < ms.length
      . rw [Zg hj] at e1
        exact hm j z r e1 e2
      . rw [Zf (ZD.mp hj)] at e1
        have h0 : j - ms.length = 0 := by
          have := (Zc.mp e1).1;simp at this;omega
        have hji : j = i := by omega
        rw [h0] at e1;simp at e1;subst hji e1;rw [er] at e2;cases e2;exact m2
    . rintro ys H4 ⟨rfl, ms, rfl, lm, hm⟩ l2 hl2
      rw [Za, hA.len] at lm;refine ⟨ms, .of zf, by omega, fun m m1 m2 => q _ m (Same.upd (Same.refl _) hl2) fun r hr i hi => ?_⟩;obtain ⟨j, hj, rfl⟩ := Zy hr;have e1 : ms[j]? = some (ms[j]'(by omega)) := Zb (by omega);have := hm j _ _ e1 (Zb hj) i hi;have := m2 _ (Zi e1);omega
theorem qt (B : Bt mg) (D : zc K mg "_law_bounded" uw ["grid", "weight", "pays", "high"]) : FnAt P w K mg base "_law_bounded" 1 ["grid", "weight", "pays", "high"] (ck K) := by
  refine FnAt.of D sc_law_bounded (fun vs H Q E h => ?_) (fun f cdv A outer s H vs Q E hr h => ?_)
  . obtain ⟨g, l, h, rows, n, wt, ps, hg, rfl, _⟩ := h
    rfl
  . obtain ⟨g, l, h, rows, n, wt, ps, hg, rfl, G, n8, hl, lp, hh, lh, gw, bd, q⟩ := h
    refine ⟨_, (@zk _ _ _ _ _ (xk PassesOwn.never rfl (yn rfl B.range (za (zq zr rfl B.len yk (za (pv 0) (@zb _))) (@zb _))) (zl (i := 4) sc_law_bounded.nd rfl (Or.inl rfl)) (@zh _ _ _ (@xl _ _ _ _ _ _ _ _ (PW.pt (@n0 _ _ _ _ _ _ _ (@y7 _ _ _ _ _ _ _ _ bv (@zw _ _ _ _ _ _ _ z0 (pv 2) (pv 4) (fun _ _ => rfl)) (@zp _ _ _ _ _ _ _ _ j3 (pv 1) (@zw _ _ _ _ _ _ _ z0 (@zw _ _ _ _ _ _ _ z0 (pv 0) (pv 4) (fun _ _ => rfl)) (pv 4) (fun _ _ => rfl))) (yx _)) (@qm _ _ _ _ (@y7 _ _ _ _ _ _ _ _ bv (@zw _ _ _ _ _ _ _ z0 (pv 2) (pv 4) (fun _ _ => rfl)) (@zp _ _ _ _ _ _ _ _ j3 (pv 1) (@zw _ _ _ _ _ _ _ z0 (pv 3) (pv 4) (fun _ _ => rfl))) (yx _))))) (@zh _ _ _ (@zm _ _ _ _ (@vy _ _ _ _))) (@yi _)))) (@zh _ _ _ (@zm _ _ _ _ (@vy _ _ _ _)))), ?_⟩;rw [show start ["grid", "weight", "pays", "high", "t"] [V.ref g, V.int wt, V.ref l, V.ref h] = [some (V.ref g), some (V.int wt), some (V.ref l), some (V.ref h), none] from rfl];simp only [ze, zd, ↓reduceIte];obtain ⟨ls, g1, g2, g3⟩ := G.at' (K := K);refine ⟨_, .inl g1, ?_⟩;rw [Za, g2];refine ⟨by omega, by omega, ?_⟩;rw [Zw];refine xt (PvBd g l h wt H) ⟨rfl, _, rfl⟩ ?_ ?_
    . rintro t σ H4 ht ⟨rfl, v, rfl⟩
      obtain ⟨r, ns, a1, a2, a3, a4⟩ := g3 t ht;obtain ⟨b1, b2, b3, b4⟩ := bd t ht;simp only [ze, zd, ↓reduceIte];refine ⟨_, .of hl, _, x6 (oo (by omega)), _, g1, _, a1, r, rfl, _, a2, _, x6 (a4 t ht), _, rfl, cmB gw b1, _, rfl, ite2 (fun h => absurd (of_decide_eq_true h) (by omega)) fun _ => ?_⟩;refine ⟨_, .of hl, _, x6 (oo (by omega)), _, .of hh, _, x6 (oo (by omega)), _, rfl, cmB gw b3, _, rfl, ite2 (fun h => absurd (of_decide_eq_true h) (by omega)) fun _ => ⟨rfl, _, rfl⟩⟩
    . rintro σ H4 ⟨rfl, v, rfl⟩
      simp only [ze, zd, ↓reduceIte];exact q
end
def HonW (wt : Int) (rows : List (List Int)) (ps : List Int) (n : Nat) : Prop := ∀ t s : Nat, t < n -> s < n -> wt * (gcA rows t s - gcA rows t t) <= ps.getD s 0 - ps.getD t 0
theorem dh {wt : Int} {rows : List (List Int)} {ps : List Int} {n : Nat} (h : HonW wt rows ps n) : ∀ (ws : List Nat) (s : Nat), s < n -> (∀ x ∈ ws, x < n) -> ps.getD (lst s ws) 0 - ps.getD s 0 <= wt * wk (zy rows) s ws
  | [], s, _, _ => by show ps.getD s 0 - ps.getD s 0 <= wt * 0; omega
  | w :: ws, s, hs, hw => by
    have hw' := hw w ZA;have h1 := dh h ws w hw' fun x hx => hw x (Zv _ hx)
    have h2 := h w s hw' hs;have e : wt * (gcA rows w s - gcA rows w w) = -(wt * zy rows s w) := by rw [<- Int.mul_neg]; congr 1; unfold zy; omega
    show ps.getD (lst w ws) 0 - ps.getD s 0 <= wt * (zy rows s w + wk (zy rows) w ws)
    rw [Int.mul_add];omega
theorem zgj {wt : Int} {rows : List (List Int)} {ps : List Int} {n : Nat} {c : List Nat} (h1 : 1 <= wt) (R : RingA (zy rows) n c) : ¬ HonW wt rows ps n := fun h => by
  have neg := R.neg;have lt := R.lt;have two := R.two
  cases c with
  | nil => simp at two
  | cons s ws =>
    have hs := lt s ZA
    have := dh h (ws ++ [s]) s hs fun x hx => by
      rcases ZH.mp hx with z | z
      . exact lt x (Zv _ z)
      . rw [ZC.mp z]; exact hs
    rw [w6] at this;have neg' : wk (zy rows) s (ws ++ [s]) < 0 := neg;have := Int.mul_neg_of_pos_of_neg (show 0 < wt by omega) neg';omega
theorem Great.mostW {wt : Int} {rows : List (List Int)} {n : Nat} {gs : List (Int × List Nat × Addr)} (g : Great rows n gs) {ps : List Int} (h : HonW wt rows ps n) (hm : ∀ t, t < n -> ps.getD t 0 <= wt * gcA rows t t) {t : Nat} (ht : t < n) : ps.getD t 0 <= wt * (fOf gs t).1 := by
  obtain ⟨s, ws, _, _, hs, hto, hw, hv, _, _⟩ := (g.rds.rd t ht).ex;have h1 := dh h ws s hs hw;have h2 := hm s hs;rw [hto] at h1;rw [hv, Int.mul_add];omega
theorem xi {xs : List Int} {j : Nat} (h : j < xs.length) : xs.getD j 0 = xs[j] := by rw [Zk, Zb h]; rfl
theorem jd {n j : Nat} (hj : j < n) : ∀ (ps : List (List Int)) (hc : List Int), hc.length = n -> (∀ p ∈ ps, p.length = n) -> (yu hc ps).getD j 0 = hc.getD j 0 + (ps.map fun p => p.getD j 0).sum
  | [], hc, _, _ => by show hc.getD j 0 = hc.getD j 0 + 0; omega
  | p :: ps, hc, h, hp => by
    have hpl := hp p ZA;have := jd hj ps (List.zipWith (· + ·) hc p) (by rw [ZT, h, hpl, YD]) fun q hq => hp q (Zv _ hq)
    show (yu (List.zipWith (· + ·) hc p) ps).getD j 0 = _
    rw [this, ZO, List.sum_cons, xi (xs := List.zipWith (· + ·) hc p) (by rw [ZT, h, hpl, YD]; exact hj), List.getElem_zipWith, xi (xs := hc) (by omega), xi (xs := p) (by omega)];omega
theorem ao {F G : Nat -> Int} : ∀ m, (∀ i, i < m -> F i = G i) -> ((List.range m).map F).sum = ((List.range m).map G).sum
  | 0, _ => rfl
  | m + 1, h => by
    rw [ZX, Zn, Zn, YE, YE, ao m fun i hi => h i (by omega)];simp [h m (by omega)]
theorem zbs {F G : Nat -> Int} {k : Nat} : ∀ m, k < m -> (∀ i, i < m -> i ≠ k -> F i = G i) -> ((List.range m).map F).sum - F k = ((List.range m).map G).sum - G k
  | 0, h, _ => by omega
  | m + 1, hk, h => by
    rw [ZX, Zn, Zn, YE, YE]
    by_cases e : k = m
    . subst e
      rw [ao k fun i hi => h i (by omega) (by omega)];simp
    . have := zbs m (by omega) fun i hi hn => h i (by omega) hn
      have hm := h m (by omega) (Ne.symm e);simp [hm];omega
theorem zfs {α : Type} {r : List α} {k j : Nat} {u v : α} (h : k <= r.length) (hj : j ≠ k) : (insP r k u)[j]? = (insP r k v)[j]? := by
  have lt : (r.take k).length = k := by rw [Zj]; omega
  by_cases e : j < k
  . rw [insP, insP, Zg (by omega), Zg (by omega)]
  . rw [insP, insP, Zf (by omega), Zf (by omega), lt]
    obtain ⟨i, hi⟩ : ∃ i, j - k = i + 1 := ⟨j - k - 1, by omega⟩;rw [hi];rfl
theorem zd0 {α : Type} {o : List α} {wss : List (List α)} {k : Nat} {ws : List α} {u : α} (hk : wss[k]? = some ws) (h : br o (wss.eraseIdx k)) (hu : u ∈ ws) : br (insP o k u) wss := by
  have hkl := (Zc.mp hk).1;have lo : o.length + 1 = wss.length := by have := h.1; rw [Yn hkl] at this; omega
  refine ⟨by rw [zgg u (by omega)]; exact lo, fun j vs e => ?_⟩
  by_cases ej : j = k
  . subst ej
    rw [hk] at e;cases e;exact ⟨u, zcj u (by omega), hu⟩
  . have lt : (o.take k).length = k := by rw [Zj]; omega
    by_cases hj : j < k
    . obtain ⟨z, a1, a2⟩ := h.2 j vs (by rw [Yu, if_pos hj]; exact e)
      refine ⟨z, ?_, a2⟩;rw [insP, Zg (by omega), List.getElem?_take, if_pos hj];exact a1
    . obtain ⟨z, a1, a2⟩ := h.2 (j - 1) vs (by rw [Yu, if_neg (by omega), show j - 1 + 1 = j by omega]; exact e)
      refine ⟨z, ?_, a2⟩;rw [insP, Zf (by omega), lt];obtain ⟨i, hi⟩ : ∃ i, j - k = i + 1 := ⟨j - k - 1, by omega⟩;rw [hi, Yr, Yp];rw [show k + i = j - 1 by omega];exact a1
theorem zdx {ts : List Int} {j : Nat} (hj : j < ts.length) : ts.getD j 0 <= ts.getD (xg ts) 0 := by
  have hb := gr (ts := ts) (by omega)
  cases e : ts.max? with
  | none => rw [Ym] at e; rw [e] at hj; cases hj
  | some x =>
    have h := Yc.mp e
    have hx : ts[xg ts] = x := by
      have h2 : xg ts = ts.idxOf x := by rw [xg, e]; rfl
      have h3 : ts.idxOf x < ts.length := by rw [<- h2]; exact hb
      have : ts[ts.idxOf x] = x := Yq h3;simp only [h2];exact this
    rw [xi hj, xi hb, hx];exact h.2 _ (Zl hj)
theorem aj {outs : List Str} (h : outs.Nodup) {b : Nat} (hb : b < outs.length) : outs.idxOf outs[b] = b := by
  have hi : outs.idxOf outs[b] < outs.length := Zz.mpr (Zl hb);exact (Yv h).mp (Yq hi)
section
variable {outs : List Str} {ds : List HD} {ws hc : List Int} {k : Nat} {d : HD} {ot : List Str} {wt : Int}
structure Fix (outs : List Str) (ds : List HD) (ws hc : List Int) (k : Nat) (d : HD) (ot : List Str) (wt : Int) : Prop where
  G : GoodHouse outs ds
  lw : ws.length = ds.length
  lh : hc.length = outs.length
  hd : ds[k]? = some d
  hw : ws[k]? = some wt
  w1 : 1 <= wt
  ho : ot ∈ ym ((ds.map HD.words).eraseIdx k)
def yo (ds : List HD) (ws hc : List Int) (k : Nat) (ot : List Str) (u : Str) : List Int := yu hc (yf ds ws (insP ot k u) ds.length)
theorem Fix.kl (F : Fix outs ds ws hc k d ot wt) : k < ds.length := (Zc.mp F.hd).1
theorem Fix.lo (F : Fix outs ds ws hc k d ot wt) : ot.length + 1 = ds.length := by
  have h := (rowsP_iff.mp F.ho).1;rw [Yn (by rw [Za]; exact F.kl), Za] at h;have := F.kl;omega
theorem Fix.row (F : Fix outs ds ws hc k d ot wt) {u : Str} (hu : u ∈ d.words) : insP ot k u ∈ ym (ds.map HD.words) :=
  rowsP_iff.mpr (zd0 (by rw [Ze, F.hd]; rfl) (rowsP_iff.mp F.ho) hu)
theorem Fix.of (F : Fix outs ds ws hc k d ot wt) {u : Str} (hu : u ∈ d.words) : nu ds (insP ot k u) := iy (F.row hu)
theorem Fix.part (F : Fix outs ds ws hc k d ot wt) (u : Str) : y0 ds ws (insP ot k u) k = qg d wt u := by
  rw [y0, F.hd, F.hw, zcj u (by have := F.lo; have := F.kl; omega)]
theorem Fix.plen (F : Fix outs ds ws hc k d ot wt) {u : Str} (hu : u ∈ d.words) : ∀ p ∈ yf ds ws (insP ot k u) ds.length, p.length = outs.length := fun q hq => by
  obtain ⟨i, hi, rfl⟩ := Zp.mp hq;exact sy F.G F.lw (F.of hu) (ZS.mp hi)
theorem Fix.slen (F : Fix outs ds ws hc k d ot wt) {u : Str} (hu : u ∈ d.words) : (yo ds ws hc k ot u).length = outs.length := s9 _ _ F.lh (F.plen hu)
theorem Fix.wlen (F : Fix outs ds ws hc k d ot wt) {u : Str} (hu : u ∈ d.words) : (yh d u).length = outs.length := by
  have := sy F.G F.lw (F.of hu) F.kl;rw [F.part, qg, Za] at this;exact this
theorem Fix.at' (F : Fix outs ds ws hc k d ot wt) {u v : Str} (hu : u ∈ d.words) (hv : v ∈ d.words) {j : Nat} (hj : j < outs.length) :
    (yo ds ws hc k ot u).getD j 0 - wt * (yh d u).getD j 0 = (yo ds ws hc k ot v).getD j 0 - wt * (yh d v).getD j 0 := by
  have hk := F.kl;have lo := F.lo
  have e : ∀ x, x ∈ d.words -> (y0 ds ws (insP ot k x) k).getD j 0 = wt * (yh d x).getD j 0 := fun x hx => by
    have := F.wlen hx;rw [F.part, qg, xi (by rw [Za]; omega), List.getElem_map, xi (by omega)]
  have h := zbs (F := fun i => (y0 ds ws (insP ot k u) i).getD j 0) (G := fun i => (y0 ds ws (insP ot k v) i).getD j 0) ds.length hk fun i hi hn => by
    show (y0 ds ws (insP ot k u) i).getD j 0 = (y0 ds ws (insP ot k v) i).getD j 0
    rw [y0, y0, zfs (v := v) (by omega) hn]
  have e1 := e u hu;have e2 := e v hv;rw [yo, yo, jd hj _ _ F.lh (F.plen hu), jd hj _ _ F.lh (F.plen hv), yf, yf, Yl, Yl]
  show hc.getD j 0 + ((List.range ds.length).map fun i => (y0 ds ws (insP ot k u) i).getD j 0).sum - _ = hc.getD j 0 + ((List.range ds.length).map fun i => (y0 ds ws (insP ot k v) i).getD j 0).sum - _
  omega
theorem Fix.rest_at (F : Fix outs ds ws hc k d ot wt) {u : Str} (hu : u ∈ d.words) {j : Nat} (hj : j < outs.length) : (vj (yo ds ws hc k ot u) (y0 ds ws (insP ot k u) k)).getD j 0 = (yo ds ws hc k ot u).getD j 0 - wt * (yh d u).getD j 0 := by
  have h1 := F.slen hu;have h2 := F.wlen hu;rw [F.part, vj, xi (by rw [ZT, qg, Za]; omega), List.getElem_zipWith, xi (by omega), xi (by omega)];simp [qg]
theorem Fix.rest_len (F : Fix outs ds ws hc k d ot wt) {u : Str} (hu : u ∈ d.words) : (vj (yo ds ws hc k ot u) (y0 ds ws (insP ot k u) k)).length = outs.length := by
  have h1 := F.slen hu;have h2 := F.wlen hu;rw [F.part, vj, ZT, qg, Za];omega
theorem Fix.rest (F : Fix outs ds ws hc k d ot wt) {u v : Str} (hu : u ∈ d.words) (hv : v ∈ d.words) : vj (yo ds ws hc k ot u) (y0 ds ws (insP ot k u) k) = vj (yo ds ws hc k ot v) (y0 ds ws (insP ot k v) k) := by
  refine List.ext_getElem (by rw [F.rest_len hu, F.rest_len hv]) fun j h1 h2 => ?_
  have hj : j < outs.length := by rw [F.rest_len hu] at h1; exact h1
  rw [<- xi h1, <- xi h2, F.rest_at hu hj, F.rest_at hv hj];exact F.at' hu hv hj
def payU (ds : List HD) (ws hc : List Int) (k : Nat) (ot : List Str) (u : Str) : Int := oh (yo ds ws hc k ot u) (y0 ds ws (insP ot k u) k)
theorem Fix.pay (F : Fix outs ds ws hc k d ot wt) (h0 : 0 < d.words.length) : ∃ R : List Int, R.length = outs.length /\ ∃ M : Int, M ∈ R /\ (∀ x ∈ R, x <= M) /\ ∀ u ∈ d.words, payU ds ws hc k ot u = M - R.getD (xg (yo ds ws hc k ot u)) 0 /\ xg (yo ds ws hc k ot u) < outs.length /\
    (∀ j, j < outs.length -> (yo ds ws hc k ot u).getD j 0 = R.getD j 0 + wt * (yh d u).getD j 0) /\ ∀ j, j < outs.length -> (yo ds ws hc k ot u).getD j 0 <= (yo ds ws hc k ot u).getD (xg (yo ds ws hc k ot u)) 0 := by
  have hm0 : d.words[0] ∈ d.words := Zl h0;have ho := F.G.outs1;have lr := F.rest_len hm0;refine ⟨vj (yo ds ws hc k ot d.words[0]) (y0 ds ws (insP ot k d.words[0]) k), lr, ?_⟩
  cases e : (vj (yo ds ws hc k ot d.words[0]) (y0 ds ws (insP ot k d.words[0]) k)).max? with
  | none => rw [Ym] at e; rw [e] at lr; simp at lr; omega
  | some M =>
    have h := Yc.mp e;refine ⟨M, h.1, h.2, fun u hu => ?_⟩;have hb : xg (yo ds ws hc k ot u) < outs.length := by rw [<- F.slen hu]; exact gr (by rw [F.slen hu]; omega)
    refine ⟨?_, hb, fun j hj => ?_, fun j hj => zdx (by rw [F.slen hu]; exact hj)⟩
    . rw [payU, oh, F.rest hu hm0, e]
      rfl
    . have := F.rest_at hu hj
      rw [F.rest hu hm0] at this;omega
theorem Fix.place (F : Fix outs ds ws hc k d ot wt) {u : Str} (hu : u ∈ d.words) (hb : xg (yo ds ws hc k ot u) < outs.length) : outs.idxOf (yp outs ds ws hc (insP ot k u)) = xg (yo ds ws hc k ot u) := by
  rw [yp]
  show outs.idxOf (outs.getD (xg (yo ds ws hc k ot u)) ⟨#[]⟩) = _
  rw [Zk, Zb hb];exact aj F.G.outsD hb
theorem Fix.deals (F : Fix outs ds ws hc k d ot wt) (h0 : 0 < d.words.length) : bw (yp outs ds ws hc) (ym (ds.map HD.words)) outs ot k d := by
  obtain ⟨R, _, M, _, _, h⟩ := F.pay h0;have := F.lo;have := F.kl;have := F.G.hands;refine ⟨by omega, by omega, fun u hu => ⟨F.row hu, ?_⟩⟩;obtain ⟨_, hb, _⟩ := h u hu;rw [yp]
  show outs.getD (xg (yo ds ws hc k ot u)) ⟨#[]⟩ ∈ outs
  rw [Zk, Zb hb];exact Zl hb
theorem Fix.wby (F : Fix outs ds ws hc k d ot wt) {t : Nat} (ht : t < d.words.length) : yh d d.words[t] = d.worths.getD t [] := by
  rw [yh, show d.words.idxOf d.words[t] = t from aj (F.G.wordsD d (Zi F.hd)) ht]
theorem Fix.win (F : Fix outs ds ws hc k d ot wt) {t : Nat} (ht : t < d.words.length) : ∀ x ∈ yh d d.words[t], ∃ r ∈ d.worths, x ∈ r := fun x hx => by
  have hr : t < d.worths.length := by rw [F.G.rows d (Zi F.hd)]; exact ht
  rw [F.wby ht, Zk, Zb hr] at hx;exact ⟨_, Zl hr, hx⟩
theorem Fix.cell (F : Fix outs ds ws hc k d ot wt) (h0 : 0 < d.words.length) {t s : Nat} (ht : t < d.words.length) (hs : s < d.words.length) :
    gcA (colP d (putP (yp outs ds ws hc) outs ot k d.words)) t s = (yh d d.words[t]).getD (xg (yo ds ws hc k ot d.words[s])) 0 := by
  obtain ⟨R, _, M, _, _, h⟩ := F.pay h0;obtain ⟨_, hb, _⟩ := h _ (Zl hs);have hr : t < d.worths.length := by rw [F.G.rows d (Zi F.hd)]; exact ht
  have e1 : (colP d (putP (yp outs ds ws hc) outs ot k d.words)).getD t [] = (putP (yp outs ds ws hc) outs ot k d.words).map fun p => (d.worths[t]).getD p 0 := by
    rw [colP, Zk, Ze, Zb hr];rfl
  have e2 : (putP (yp outs ds ws hc) outs ot k d.words)[s]? = some (xg (yo ds ws hc k ot d.words[s])) := by
    rw [putP, Ze, Zb hs]
    show some (outs.idxOf (yp outs ds ws hc (insP ot k d.words[s]))) = _
    rw [F.place (Zl hs) hb]
  rw [gcA, e1, Zk, Ze, e2, F.wby ht, Zk (l := d.worths), Zb hr];rfl
def wx (ds : List HD) (ws hc : List Int) (k : Nat) (ot us : List Str) : List Int := us.map (payU ds ws hc k ot)
theorem gd {us : List Str} {t : Nat} (ht : t < us.length) : (wx ds ws hc k ot us).getD t 0 = payU ds ws hc k ot us[t] := by
  rw [wx, xi (by rw [Za]; exact ht), List.getElem_map]
theorem Fix.nn (F : Fix outs ds ws hc k d ot wt) (h0 : 0 < d.words.length) : ∀ p ∈ wx ds ws hc k ot d.words, 0 <= p := fun p hp => by
  obtain ⟨u, hu, rfl⟩ := Zp.mp hp;obtain ⟨R, lr, M, _, hM, h⟩ := F.pay h0;obtain ⟨e, hb, _⟩ := h u hu;have := hM _ (Zl (show xg (yo ds ws hc k ot u) < R.length by omega));rw [e, xi (by omega)];omega
theorem Fix.hon (F : Fix outs ds ws hc k d ot wt) (h0 : 0 < d.words.length) : HonW wt (colP d (putP (yp outs ds ws hc) outs ot k d.words)) (wx ds ws hc k ot d.words) d.words.length := fun t s ht hs => by
  obtain ⟨R, lr, M, _, hM, h⟩ := F.pay h0;obtain ⟨e1, b1, c1, m1⟩ := h _ (Zl ht);obtain ⟨e2, b2, c2, m2⟩ := h _ (Zl hs);have z1 := c1 _ b1;have z2 := c1 _ b2;have z3 := m1 _ b2;rw [gd ht, gd hs, e1, e2, F.cell h0 ht hs, F.cell h0 ht ht, Int.mul_sub];omega
theorem Fix.le (F : Fix outs ds ws hc k d ot wt) (h0 : 0 < d.words.length) (hp : ∀ r ∈ d.worths, ∀ i ∈ r, 0 <= i) {t : Nat} (ht : t < d.words.length) : (wx ds ws hc k ot d.words).getD t 0 <= wt * gcA (colP d (putP (yp outs ds ws hc) outs ot k d.words)) t t := by
  obtain ⟨R, lr, M, hm, hM, h⟩ := F.pay h0;obtain ⟨e1, b1, c1, m1⟩ := h _ (Zl ht);obtain ⟨j, hj, rfl⟩ := Zy hm;have hj' : j < outs.length := by omega
  have z1 := c1 _ b1;have z2 := c1 j hj';have z3 := m1 j hj';have hr : t < d.worths.length := by rw [F.G.rows d (Zi F.hd)]; exact ht
  have lw := F.wlen (Zl ht)
  have nn : 0 <= (yh d d.words[t]).getD j 0 := by
    rw [xi (by omega)];obtain ⟨r, h1, h2⟩ := F.win ht _ (Zl (show j < (yh d d.words[t]).length by omega));exact hp r h1 _ h2
  have := Int.mul_nonneg (show 0 <= wt by have := F.w1; omega) nn;rw [xi hj] at z2;rw [gd ht, e1, F.cell h0 ht ht];omega
theorem Fix.good (F : Fix outs ds ws hc k d ot wt) (h0 : 0 < d.words.length) (hG : ∀ r ∈ d.worths, ∀ i ∈ r, -(10 ^ 57) <= i /\ i <= 10 ^ 57) {t s : Nat} (ht : t < d.words.length) (hs : s < d.words.length) : -(10 ^ 57) <= gcA (colP d (putP (yp outs ds ws hc) outs ot k d.words)) t s /\ gcA (colP d (putP (yp outs ds ws hc) outs ot k d.words)) t s <= 10 ^ 57 := by
  obtain ⟨R, lr, M, hm, hM, h⟩ := F.pay h0;obtain ⟨e1, b1, c1, m1⟩ := h _ (Zl hs);have lw := F.wlen (Zl ht);have hr : t < d.worths.length := by rw [F.G.rows d (Zi F.hd)]; exact ht
  rw [F.cell h0 ht hs, xi (by omega)];obtain ⟨r, h1, h2⟩ := F.win ht _ (Zl (show xg (yo ds ws hc k ot d.words[s]) < (yh d d.words[t]).length by omega));exact hG r h1 _ h2
end
def zdd (K : Fg) : Sp := fun vs H Q _ => ∃ (a : Addr) (ns : List Int), vs = [.ref a] /\ SqL K H a (ns.map V.int) /\ ns.length <= 63 /\ ∀ H', Q (.bl true) H'
theorem zex {K : Fg} {f : Addr} {fd : FuncData} (F : Fun K "law" "law" nz f fd) (s : Shared) (u : Value) : BindsTo s fd ⟨[u], []⟩ [("script", u)] := by
  obtain ⟨oc, od, kV, doc, pm, an, cdv, ct, osl, rfl, lk, hcd⟩ := F.ex;exact .of_eq rfl
def Small (ds : List HD) : Prop := ∀ d ∈ ds, ∀ r ∈ d.worths, ∀ i ∈ r, -(10 ^ 57) <= i /\ i <= 10 ^ 57
def absI (i : Int) : Int := if i < 0 then -i else i
theorem zgx {i m : Int} (h : -m <= i /\ i <= m) : -m <= absI i /\ absI i <= m := by
  unfold absI
  split <;> omega
theorem zg5 {i m : Int} (h : -m < i /\ i < m) : -m < absI i /\ absI i < m := by
  unfold absI
  split <;> omega
def absD (d : HD) : HD := ⟨d.name, d.words, d.worths.map fun r => r.map absI⟩
theorem GoodHouse.abs {outs : List Str} {ds : List HD} (G : GoodHouse outs ds) : GoodHouse outs (ds.map absD) where
  outs1 := G.outs1
  outsG := G.outsG
  outsD := G.outsD
  hands := by rw [Za]; exact G.hands
  handsG := fun d hd => by obtain ⟨e, he, rfl⟩ := Zp.mp hd; exact G.handsG e he
  handsD := by
    have : (ds.map absD).map HD.name = ds.map HD.name := by rw [Yl]; rfl
    rw [this]; exact G.handsD
  words1 := fun d hd => by obtain ⟨e, he, rfl⟩ := Zp.mp hd; exact G.words1 e he
  wordsG := fun d hd => by obtain ⟨e, he, rfl⟩ := Zp.mp hd; exact G.wordsG e he
  wordsD := fun d hd => by obtain ⟨e, he, rfl⟩ := Zp.mp hd; exact G.wordsD e he
  rows := fun d hd => by
    obtain ⟨e, he, rfl⟩ := Zp.mp hd
    show (List.map _ _).length = _
    rw [Za]; exact G.rows e he
  cols := fun d hd r hr => by
    obtain ⟨e, he, rfl⟩ := Zp.mp hd;obtain ⟨r', hr', rfl⟩ := Zp.mp (show r ∈ List.map _ _ from hr);rw [Za]; exact G.cols e he r' hr'
  nums := fun d hd r hr n hn => by
    obtain ⟨e, he, rfl⟩ := Zp.mp hd;obtain ⟨r', hr', rfl⟩ := Zp.mp (show r ∈ List.map _ _ from hr);obtain ⟨i, hi, rfl⟩ := Zp.mp hn;exact zg5 (G.nums e he r' hr' i hi)
  few := by
    have : (ds.map absD).map (fun d => d.words.length) = ds.map fun d => d.words.length := by rw [Yl]; rfl
    rw [this]; exact G.few
theorem Small.abs {ds : List HD} (h : Small ds) : Small (ds.map absD) := fun d hd r hr n hn => by
  obtain ⟨e, he, rfl⟩ := Zp.mp hd;obtain ⟨r', hr', rfl⟩ := Zp.mp (show r ∈ List.map _ _ from hr);obtain ⟨i, hi, rfl⟩ := Zp.mp hn;exact zgx (h e he r' hr' i hi)
theorem zad (ns : List Int) : Small (wa ns (10 ^ 57) (ye ns) (yw ns)) := fun d hd r hr n hn => by
  obtain ⟨j, _, rfl⟩ := wc hd;obtain ⟨t, _, rfl⟩ := Zp.mp (show r ∈ vi _ _ _ _ _ from hr);obtain ⟨i, _, rfl⟩ := Zp.mp hn;exact j8 _ (by decide)
theorem qq {α β : Type} {g : α -> β} : ∀ {l : List α} {k : Nat}, (l.eraseIdx k).map g = (l.map g).eraseIdx k
  | [], _ => rfl
  | _ :: _, 0 => rfl
  | _ :: l, k + 1 => by simp only [List.eraseIdx_cons_succ, ZO, qq (l := l)]
theorem zdg {ps : List Int} {t : Nat} (h : t < ps.length) : ps.getD t 0 ∈ ps := by
  rw [xi h]; exact Zl h
theorem HandsL.less {H : Hp} {b b' : Addr} {xs : List HX} {ds : List HD} {k : Nat} (h : HandsL H b xs ds) (hb : H b' = some (.lst ((xs.eraseIdx k).map fun x => V.ref x.t))) : HandsL H b' (xs.eraseIdx k) (ds.eraseIdx k) :=
  ⟨hb, by rw [List.length_eraseIdx, List.length_eraseIdx, h.len], fun i x d e1 e2 => by
    rw [Yu] at e1 e2
    by_cases hi : i < k
    . rw [if_pos hi] at e1 e2; exact h.hand i x d e1 e2
    . rw [if_neg hi] at e1 e2; exact h.hand (i + 1) x d e1 e2⟩
def PvK (a b o p l m t : Addr) (n : Nat) (H : Hp) (i : Nat) (σ : L2.St) (H' : Hp) : Prop := Same H H' /\ ∃ v1 v2 v3 v4 v5 v6, σ = [some (.ref a), some (.int n), some (.ref b), some (.ref o), some (.ref p), some (.ref l), some (.ref m), some (.ref t), v1, v2, v3, v4, v5, v6]
def PvO (a b o p l m t : Addr) (n k : Nat) (H : Hp) (i : Nat) (σ : L2.St) (H' : Hp) : Prop := Same H H' /\ ∃ v2 v3 v4 v5 v6, σ = [some (.ref a), some (.int n), some (.ref b), some (.ref o), some (.ref p), some (.ref l), some (.ref m), some (.ref t), some (.int k), v2, v3, v4, v5, v6]
def PvAb (H : Hp) (ds : List HD) (i : Nat) (ys : List V) (H' : Hp) : Prop := Same H H' /\ ∃ xs : List HX, ys = xs.map (fun x => V.ref x.t) /\ xs.length = i /\ ∀ (j : Nat) (x : HX) (d : HD), xs[j]? = some x -> ds[j]? = some d -> HandAt H' x (absD d)
def PvAb2 (H : Hp) (rs : List (List Int)) (i : Nat) (ys : List V) (H' : Hp) : Prop := Same H H' /\ ∃ gs : List Addr, ys = gs.map V.ref /\ gs.length = i /\ ∀ (j : Nat) (g : Addr) (r : List Int), gs[j]? = some g -> rs[j]? = some r -> H' g = some (.lst ((r.map absI).map V.int))
def PvAb3 (H : Hp) (r : List Int) (i : Nat) (ys : List V) (H' : Hp) : Prop := H' = H /\ ys = ((r.take i).map absI).map V.int
def PvPy (H : Hp) (ds : List HD) (ws hc : List Int) (k : Nat) (ot us : List Str) (i : Nat) (ys : List V) (H' : Hp) : Prop := Same H H' /\ ys = (wx ds ws hc k ot (us.take i)).map V.int
section
variable {P : Program} {w : World} {K : Fg} {mg : Str -> Option Value} {base : Heap} {a : Ad}
theorem law_fn (B : Bt mg) (yr : FnAt P w K mg base "_law_cell" 1 ["script", "k"] (o7 K)) (vp : FnAt P w K mg base "_law_names" 1 ["cell", "many"] i6) (mr : FnAt P w K mg base "_law_hands" 2 ["script", "places", "top"] (zac K)) (f_house_of : FnAtX P w K mg base "house_of" 7 ["outcomes", "hands"] b8) (qw : FnAt P w K mg base "_law_weights" 2 ["script", "many"] (p7 K wo)) (se : FnAt P w K mg base "_law_handicaps" 2 ["script", "places"] (p7 K xq)) (oz : FnAt P w K mg base "best_table" 8 ["house", "weights", "handicaps"] (ip K)) (ka : FnAt P w K mg base "_law_rows" 1 ["hands"] zb8)
    (ou : FnAt P w K mg base "_law_column" 1 ["hands", "outcomes", "table", "k", "others"] zax) (i9 : FnAtX P w K mg base "pivots" 7 ["house", "weights", "handicaps", "row"] (ag K)) (ow : FnAt P w K mg base "_law_honest" 1 ["grid", "weight", "pays"] (cw K)) (jp : FnAt P w K mg base "grid_of" 3 ["house", "table", "k", "others"] am) (kq : FnAtX P w K mg base "greatest" 7 ["grid"] (zbx a K)) (jj : FnAt P w K mg base "_law_low" 1 ["hand"] (spLow K)) (qt : FnAt P w K mg base "_law_bounded" 1 ["grid", "weight", "pays", "high"] (ck K)) {f : Addr} {fd : FuncData} (F : Fun K "law" "law" nz f fd) : FnOk P w K mg base CX0 9 f fd ["script"] (zdd K) := by
  refine F.ok sc_law (fun vs H Q E h => ?_) (fun cdv A outer s H vs Q E hr h => ?_)
  . obtain ⟨b, ns, rfl, _⟩ := h
    rfl
  . obtain ⟨a, ns, rfl, hS, hlen, q⟩ := h
    have hp := pp ns;have hN := ul ns;have lou : (yt (yb ns 2) (ye ns)).length = ye ns := ww _ _
    have rest : ∃ t, PSs (cxOf CX0 P w K mg base ["script", "places", "hands", "outcomes", "house", "weights", "handicaps", "table", "k", "others", "grid", "rows", "pays", "high"] "law" (zi nz) f cdv A outer s H E).nox ((xh nz).drop 3) t /\
        ∀ (H1 : Hp) (b : Addr) (xs : List HX) (ds : List HD), Same H H1 -> HandsL H1 b xs ds -> GoodHouse (yt (yb ns 2) (ye ns)) ds -> Small ds -> ds.length = yw ns ->
          t { nx := fun _ H' => Q .non H', rt := Q } [some (.ref a), some (.int (ye ns)), some (.ref b), none, none, none, none, none, none, none, none, none, none, none] H1 := by
      refine ⟨_, (zk (z8 (i := 3) sc_law.nd rfl (Or.inl rfl) (zg vp (hr.mono (by decide)) rfl (za (zg yr (hr.mono (by decide)) rfl (za (pv 0) (za (@zj _ _ _ _) (@zb _)))) (za (pv 1) (@zb _)))))
      (zk (z8 (i := 4) sc_law.nd rfl (Or.inr rfl) (ki f_house_of (hr.mono (by decide)) rfl (za (wy na rfl B.list rk (za (pv 3) (@zb _))) (za (wy na rfl B.list rk (za (pv 2) (@zb _))) (@zb _)))))
      (zk (z8 (i := 5) sc_law.nd rfl (Or.inr rfl) (zg qw (hr.mono (by decide)) rfl (za (pv 0) (za (zq zr rfl B.len yk (za (pv 2) (@zb _))) (@zb _)))))
      (zk (z8 (i := 6) sc_law.nd rfl (Or.inr rfl) (zg se (hr.mono (by decide)) rfl (za (pv 0) (za (pv 1) (@zb _)))))
      (zk (z8 (i := 7) sc_law.nd rfl (Or.inl rfl) (zg oz (hr.mono (by decide)) rfl (za (pv 4) (za (pv 5) (za (pv 6) (@zb _))))))
      (zk (xk PassesOwn.never rfl (yn rfl B.range (za (zq zr rfl B.len yk (za (pv 2) (@zb _))) (@zb _))) (zl (i := 8) sc_law.nd rfl (Or.inr rfl)) (@zh _ _ _ (xk PassesOwn.never rfl (@z9 _ _ _ _ (zg ka (hr.mono (by decide)) rfl (za (@zp _ _ _ _ _ _ _ _ b7 (@vg _ _ _ _ _ _ _ _ _ _ dn (pv 2) (@uk _) (@uf _ _ _ (pv 8))) (@vg _ _ _ _ _ _ _ _ _ _ dn (pv 2) (@uf _ _ _ (@zp _ _ _ _ _ _ _ _ xj (pv 8) (@zj _ _ _ _))) (@uk _))) (@zb _)))) (zl (i := 9) sc_law.nd rfl (Or.inr rfl)) (@zk _ _ _ _ _ (z8 (i := 10) sc_law.nd rfl (Or.inl rfl) (zg ou (hr.mono (by decide)) rfl (@za _ _ _ _ _ (pv 2) (@za _ _ _ _ _ (pv 3) (@za _ _ _ _ _ (pv 7) (@za _ _ _ _ _ (pv 8) (@za _ _ _ _ _ (pv 9) (@zb _) (yj nofun)) (yj nofun)) (yj nofun)) (yj nofun)) (yj nofun)))) (@zk _ _ _ _ _ (va (i := 11) ["word"] ["script", "places", "hands", "outcomes", "house", "weights", "handicaps", "table", "k", "others", "grid", "rows", "pays", "high"] sc_law.nd rfl rfl rfl (@z9 _ _ _ _ (@zw _ _ _ _ _ _ _ yq (@zw _ _ _ _ _ _ _ z0 (pv 2) (pv 8) (fun _ _ => rfl)) (@zj _ _ _ _) (fun _ _ => rfl))) (fun _ => (zl (i := 0) (show (["word", "script", "places", "hands", "outcomes", "house", "weights", "handicaps", "table", "k", "others", "grid", "rows", "pays", "high"] : List Str).Nodup by decide +kernel) rfl (Or.inl rfl))) (fun _ => (@zt _)) (fun _ => (@zp _ _ _ _ _ _ _ _ tq (@zp _ _ _ _ _ _ _ _ tq (@vg _ _ _ _ _ _ _ _ _ _ p9 (pv 10) (@uk _) (@uf _ _ _ (pv 9))) (@xw _ _ _ _ _ (za (pv 0) (@zb _)))) (@vg _ _ _ _ _ _ _ _ _ _ p9 (pv 10) (@uf _ _ _ (pv 9)) (@uk _)))) rfl (by decide +kernel) rfl rfl rfl) (@zk _ _ _ _ _ (va (i := 12) ["row"] ["script", "places", "hands", "outcomes", "house", "weights", "handicaps", "table", "k", "others", "grid", "rows", "pays", "high"] sc_law.nd rfl rfl rfl (@z9 _ _ _ _ (pv 11)) (fun _ => (zl (i := 0) (show (["row", "script", "places", "hands", "outcomes", "house", "weights", "handicaps", "table", "k", "others", "grid", "rows", "pays", "high"] : List Str).Nodup by decide +kernel) rfl (Or.inl rfl))) (fun _ => (@zt _)) (fun _ => (@zw _ _ _ _ _ _ _ z0 (ki i9 (hr.mono (by decide)) rfl (za (pv 5) (za (pv 6) (za (pv 7) (za (pv 0) (@zb _)))))) (pv 9) (fun _ _ => rfl))) rfl (by decide +kernel) rfl rfl rfl) (@zk _ _ _ _ _ (@xl _ _ _ _ _ _ _ _ (PW.pt (@n0 _ _ _ _ _ _ _ (@y7 _ _ _ _ _ _ _ _ fj (zq (ml rfl) rfl B.min jh (za (pv 12) (@zb _))) (@zj _ _ _ _) (yx _)) (@qm _ _ _ _ (@wg _ _ _ _ (w4 (zg ow (hr.mono (by decide)) rfl (za (pv 10) (za (@zw _ _ _ _ _ _ _ z0 (pv 5) (pv 8) (fun _ _ => rfl)) (za (pv 12) (@zb _)))))))))) (@zh _ _ _ (@zm _ _ _ _ (@vy _ _ _ _))) (@yi _)) (@zk _ _ _ _ _ (z8 (i := 13) sc_law.nd rfl (Or.inl rfl) (@zw _ _ _ _ _ _ _ yq (ki kq (hr.mono (by decide)) rfl (za (zg jp (hr.mono (by decide)) rfl (za (pv 4) (za (pv 7) (za (pv 8) (za (pv 9) (@zb _)))))) (@zb _))) (@zj _ _ _ _) (fun _ _ => rfl))) (@zh _ _ _ (@xl _ _ _ _ _ _ _ _ (PW.pt (@pw_and _ _ _ _ _ _ _ (@y7 _ _ _ _ _ _ _ _ op_ge (zg jj (hr.mono (by decide)) rfl (za (@zw _ _ _ _ _ _ _ z0 (pv 2) (pv 8) (fun _ _ => rfl)) (@zb _))) (@zj _ _ _ _) (yx _)) (@zhy _ _ _ _ (@wg _ _ _ _ (w4 (zg qt (hr.mono (by decide)) rfl (za (pv 10) (za (@zw _ _ _ _ _ _ _ z0 (pv 5) (pv 8) (fun _ _ => rfl)) (za (pv 12) (za (pv 13) (@zb _))))))))))) (@zh _ _ _ (@zm _ _ _ _ (@vy _ _ _ _))) (@yi _)))))))))))
      (zh (@zm _ _ _ _ (@vy _ _ _ _))))))))), fun H1 b xs ds S1 hL1 G sm lds => ?_⟩
      simp only [ze, zd, ↓reduceIte];refine ⟨a, ns, 2, rfl, S1.seq hS, yb ns 2, ye ns, rfl, by omega, fun H2 o S2 _ ho2 => ?_⟩;have hL2 := hL1.mono S2;generalize yt (yb ns 2) (ye ns) = outs at *;refine ⟨o, rfl, _, .inl (.of ho2), fun o2 hn1 => ?_⟩;have T1 : Same H2 (upd H2 o2 (.lst (outs.map V.str))) := Same.upd (Same.refl _) hn1;have t1 : upd H2 o2 (.lst (outs.map V.str)) o2 = some (.lst (outs.map V.str)) := zf;generalize upd H2 o2 (.lst (outs.map V.str)) = K1 at *;have L1 := hL2.mono T1;refine ⟨_, .inl (.of L1.at'), fun b2 hn2 => ?_⟩;have T2 : Same K1 (upd K1 b2 (.lst (xs.map fun x => V.ref x.t))) := Same.upd (Same.refl _) hn2;have t2 : upd K1 b2 (.lst (xs.map fun x => V.ref x.t)) b2 = some (.lst (xs.map fun x => V.ref x.t)) := zf;generalize upd K1 b2 (.lst (xs.map fun x => V.ref x.t)) = K2 at *;have L2' := L1.mono T2;refine ⟨o2, b2, outs, xs, ds, rfl, T2 _ _ t1, ⟨t2, L2'.len, L2'.hand⟩, G, fun H4 p ko kh hs T3 hK => ?_⟩;have S24 := T1.trans (T2.trans T3);have S14 : Same H H4 := S1.trans (S2.trans S24);have hL4 := hL2.mono S24;refine ⟨_, .inl (.of hL4.at'), ?_⟩;rw [Za, hL4.len, lds];refine ⟨a, ns, yw ns, rfl, S14.seq hS, by omega, fun H5 l S5 hl5 => ?_⟩;refine ⟨a, ns, ye ns, rfl, (S14.trans S5).seq hS, by omega, fun H6 m S6 hm6 => ?_⟩;have gw := bg ns (yw ns);have gh := ef ns (ye ns);have lw : (wo ns (yw ns)).length = ds.length := by rw [jr, lds]
      have lh : (xq ns (ye ns)).length = outs.length := by rw [ll, lou]
      generalize wo ns (yw ns) = ws at *;generalize xq ns (ye ns) = hc at *;have hl6 := S6 _ _ hl5;have S46 := S5.trans S6;have hK6 := hK.mono S46;refine ⟨p, ko, kh, l, m, hs, outs, ds, ws, hc, rfl, hK6, G, hl6, lw, gw, hm6, lh, gh, fun H7 t S7 ht7 => ?_⟩;have hK7 := hK6.mono S7;have hL7 := hL4.mono (S46.trans S7);have ho7 := (S24.trans (S46.trans S7)) _ _ ho2;have hl7 := S7 _ _ hl6;have hm7 := S7 _ _ hm6;have S17 : Same H H7 := S14.trans (S46.trans S7);refine ⟨_, .inl (.of hL7.at'), ?_⟩;rw [Za, hL7.len];have h4 := G.hands.2;refine ⟨by omega, by omega, ?_⟩;rw [Zw];refine xt (PvK a b o p l m t (ye ns) H7) ⟨Same.refl _, _, _, _, _, _, _, rfl⟩ ?_ ?_
      . rintro k σ H8 hk ⟨S8, v1, v2, v3, v4, v5, v6, rfl⟩
        have hL8 := hL7.mono S8;have hd : ds[k]? = some ds[k] := Zb hk;have hmd := Zl hk;have hkx : k < xs.length := by rw [hL7.len]; exact hk
        have hx : xs[k]? = some xs[k] := Zb hkx;obtain ⟨wt, hwt⟩ : ∃ t, ws[k]? = some t := ⟨ws[k]'(by rw [lw]; exact hk), by simp⟩;obtain ⟨gwt, w1⟩ := gw wt (Zi hwt);simp only [ze, zd, ↓reduceIte];have lx : (xs.map fun x => V.ref x.t).length = ds.length := by rw [Za, hL7.len]
        refine ⟨_, .of hL8.at', fun p1 hn1 => ?_⟩;rw [j1 (by rw [lx]; omega)];have T1 : Same H8 (upd H8 p1 (.lst ((xs.map fun x => V.ref x.t).take k))) := Same.upd (Same.refl _) hn1;have t1 : upd H8 p1 (.lst ((xs.map fun x => V.ref x.t).take k)) p1 = some (.lst ((xs.map fun x => V.ref x.t).take k)) := zf;generalize upd H8 p1 (.lst ((xs.map fun x => V.ref x.t).take k)) = K1 at *;refine ⟨_, .of (hL8.mono T1).at', fun p2 hn2 => ?_⟩;rw [show (k : Int) + 1 = ((k + 1 : Nat) : Int) from rfl, nh (by rw [lx]; omega)];have T2 : Same K1 (upd K1 p2 (.lst ((xs.map fun x => V.ref x.t).drop (k + 1)))) := Same.upd (Same.refl _) hn2;have t2 : upd K1 p2 (.lst ((xs.map fun x => V.ref x.t).drop (k + 1))) p2 = some (.lst ((xs.map fun x => V.ref x.t).drop (k + 1))) := zf;generalize upd K1 p2 (.lst ((xs.map fun x => V.ref x.t).drop (k + 1))) = K2 at *;refine ⟨_, T2 _ _ t1, _, t2, ?_, fun p3 hn3 => ?_⟩
        . rw [Zj, ZP, lx]
          exact Zd (show _ <= 8 by omega) (by decide)
        rw [<- List.eraseIdx_eq_take_drop_succ, <- qq];have T3 : Same K2 (upd K2 p3 (.lst ((xs.eraseIdx k).map fun x => V.ref x.t))) := Same.upd (Same.refl _) hn3;have t3 : upd K2 p3 (.lst ((xs.eraseIdx k).map fun x => V.ref x.t)) p3 = some (.lst ((xs.eraseIdx k).map fun x => V.ref x.t)) := zf;generalize upd K2 p3 (.lst ((xs.eraseIdx k).map fun x => V.ref x.t)) = K3 at *;have S83 := T1.trans (T2.trans T3);have hLe := (hL8.mono S83).less t3;refine ⟨p3, _, _, rfl, hLe, by rw [Yn hk]; omega, fun d hd => (G.words1 d (List.mem_of_mem_eraseIdx hd)).2, fun H9 rl as S9 _ R9 => ⟨rl, rfl, ⟨_, .of R9.lst⟩, ?_⟩⟩;have S89 := S83.trans S9;have S79 := S8.trans S89;refine tf (xs := as.map V.ref) (PvO a b o p l m t (ye ns) k H9) ⟨Same.refl _, _, _, _, _, _, rfl⟩ ?_ ?_ ?_
        . rintro i σ H10 hi ⟨S10, u2, u3, u4, u5, u6, rfl⟩
          exact .of (S10 _ _ R9.lst)
        . rintro i y σ H10 hy ⟨S10, u2, u3, u4, u5, u6, rfl⟩
          obtain ⟨c, hcx, rfl⟩ := tm hy;have hi : i < (ym ((ds.eraseIdx k).map HD.words)).length := by have := (Zc.mp hcx).1; have := R9.tups.len; omega
          have hc10 := S10 _ _ (R9.tups.at' i c _ hcx (Zb hi));have hin := Zl hi;generalize (ym ((ds.eraseIdx k).map HD.words))[i] = ot at *;rw [qq] at hin;have Fx : Fix outs ds ws hc k ds[k] ot wt := ⟨G, lw, lh, hd, hwt, w1, hin⟩;have h0 : 0 < (ds[k]).words.length := (G.words1 _ hmd).1;have h8w := (G.words1 _ hmd).2;have DL := Fx.deals h0;have S710 := S79.trans S10;have hL10 := hL7.mono S710;have hA10 := hL10.hand k _ _ hx hd;generalize ds[k] = d at *;generalize xs[k] = x at *;simp only [ze, zd, ↓reduceIte];refine ⟨b, o, t, c, xs, outs, ds, yp outs ds ws hc, ym (ds.map HD.words), ot, k, d, rfl, hL10, G, S710 _ _ ho7, S710 _ _ ht7, hd, hc10, DL, fun H11 g ls S11 hg11 I11 => ?_⟩;simp only [ze, zd, ↓reduceIte];have S711 := S710.trans S11;have hL11 := hL7.mono S711;have hA11 := hA10.mono S11;have hc11 := S11 _ _ hc10;have DL0 := DL;obtain ⟨hko, h8o, _⟩ := DL;have lps : (putP (yp outs ds ws hc) outs ot k d.words).length = d.words.length := by rw [putP, Za]
          have GR : GrA H11 g (colP d (putP (yp outs ds ws hc) outs ot k d.words)) d.words.length := ⟨⟨ls, hg11, I11⟩, by rw [colP, Za, G.rows d hmd], fun r hr => by
            obtain ⟨r', _, rfl⟩ := Zp.mp hr
            rw [Za, lps]⟩
          refine ⟨_, .of hL11.at', _, ya (v := V.ref x.t) (by rw [Ze, hx]; rfl), x.t, rfl, _, .of hA11.tup, _, rfl, x.w, rfl, ⟨_, .of hA11.words⟩, fun dd => ?_⟩;refine zz (xs := d.words.map V.str) (PvTu H11 ot k d.words) ⟨Same.refl _, [], rfl, rfl, fun i a r e => by simp at e⟩ ?_ ?_ ?_
          . rintro j ys J2 hj ⟨Z2, bs, rfl, W2⟩
            refine ⟨?_, .of (Z2 _ _ hA11.words)⟩;rw [Za, W2.len, Za, Zj];exact Zd (ZB _ _) (Zd h8w (by decide))
          . rintro j y ys J2 hy ⟨Z2, bs, rfl, W2⟩
            obtain ⟨u, hu, rfl⟩ := yd hy;simp only [ze, zd, ↓reduceIte];refine ⟨_, Z2 _ _ hc11, fun J3 p1 Z3 h1 => ⟨by decide, fun p2 hp2 => ?_⟩⟩;rw [j1 (by rw [Za]; exact hko)] at h1;have Y2 : Same J3 (upd J3 p2 (.tup [V.str u])) := Same.upd (Same.refl _) hp2;refine ⟨_, Y2 _ _ h1, _, zf, ?_, fun J4 p3 Z4 h3 => ?_⟩
            . rw [Zj, Za]
              exact Zd (show _ <= 9 by simp; omega) (by decide)
            have Z24 := Z2.trans (Z3.trans (Y2.trans Z4));refine ⟨_, Z24 _ _ hc11, fun J5 p4 Z5 h4' => ?_⟩;rw [nh (by rw [Za]; exact hko)] at h4';refine ⟨_, Z5 _ _ h3, _, h4', ?_, fun J6 p5 Z6 h5 => ?_⟩
            . simp only [Zo, Zj, ZP, Za, ZL, ZW]
              exact Zd (show _ <= 17 by omega) (by decide)
            refine ⟨Z24.trans (Z5.trans Z6), bs ++ [p5], by simp, ?_⟩;rw [Zq, hu, Zn];refine (W2.mono (Z3.trans (Y2.trans (Z4.trans (Z5.trans Z6))))).append (TupsAt.one ?_);rw [h5, insP];simp
          . rintro ys J2 ⟨Z2, bs, rfl, W2⟩ rw' hrw
            rw [Za, Zt] at W2;have Z3 : Same J2 (upd J2 rw' (.lst (bs.map V.ref))) := Same.upd (Same.refl _) hrw;have h3 : upd J2 rw' (.lst (bs.map V.ref)) rw' = some (.lst (bs.map V.ref)) := zf;generalize upd J2 rw' (.lst (bs.map V.ref)) = J3 at *;have W3 := W2.mono Z3;have Z13 := Z2.trans Z3;have S73 := S711.trans Z13;refine ⟨⟨_, .of h3⟩, fun dd => ?_⟩;refine zz (xs := bs.map V.ref) (PvPy J3 ds ws hc k ot d.words) ⟨Same.refl _, rfl⟩ ?_ ?_ ?_
            . rintro j ys J4 hj ⟨Z4, rfl⟩
              refine ⟨?_, .of (Z4 _ _ h3)⟩;rw [Za, wx, Za, Zj];exact Zd (ZB _ _) (Zd h8w (by decide))
            . rintro j y ys J4 hy ⟨Z4, rfl⟩
              obtain ⟨e, he, rfl⟩ := tm hy;have hj : j < d.words.length := by have := (Zc.mp he).1; have := W3.len; rw [Za] at this; omega
              have hu : d.words[j]? = some d.words[j] := Zb hj;have hrow := Z4 _ _ (W3.at' j e _ he (by rw [Ze, hu]; rfl));have hum := Zl hj;generalize d.words[j] = u at *;have S74 := S73.trans Z4;simp only [ze, zd, ↓reduceIte];refine ⟨p, ko, kh, l, m, e, hs, outs, ds, ws, hc, insP ot k u, rfl, hK7.mono S74, G, S74 _ _ hl7, lw, gw, S74 _ _ hm7, lh, gh, .of hrow, Fx.of hum, fun J5 l' Z5 hl' => ?_⟩
              have ek : (yf ds ws (insP ot k u) ds.length)[k]? = some (y0 ds ws (insP ot k u) k) := by
                rw [yf, Ze, List.getElem?_range hk];rfl
              have ix := ya (xs := ((yf ds ws (insP ot k u) ds.length).map (oh (yu hc (yf ds ws (insP ot k u) ds.length)))).map V.int) (j := k) (v := V.int (payU ds ws hc k ot u)) (by rw [Ze, Ze, ek]; rfl);refine ⟨l', rfl, _, .of hl', _, ix, Z4.trans Z5, ?_⟩;rw [Zq, hu, wx, wx, Zn, Zn];rfl
            . rintro ys J4 ⟨Z4, rfl⟩ py hpy
              rw [Za, W3.len, Za, Zt];have lpy : (wx ds ws hc k ot d.words).length = d.words.length := by rw [wx, Za]
              have Z5 : Same J4 (upd J4 py (.lst ((wx ds ws hc k ot d.words).map V.int))) := Same.upd (Same.refl _) hpy;have h5 : upd J4 py (.lst ((wx ds ws hc k ot d.words).map V.int)) py = some (.lst ((wx ds ws hc k ot d.words).map V.int)) := zf;generalize upd J4 py (.lst ((wx ds ws hc k ot d.words).map V.int)) = J5 at *;have Z15 := Z13.trans (Z4.trans Z5);have S75 := S711.trans Z15;have hl5' := S75 _ _ hl7;have GR5 := GR.mono Z15;have sml : ∀ r ∈ d.worths, ∀ i ∈ r, -(10 ^ 57) <= i /\ i <= 10 ^ 57 := fun r hr i hi => sm d hmd r hr i hi
              refine ⟨_, .of h5, by omega, fun mn m1 m2 => ite2 (fun h => absurd (of_decide_eq_true h) (by have := Fx.nn h0 mn m1; omega)) fun _ => ?_⟩;refine ⟨_, .of hl5', _, x6 hwt, g, py, _, _, wt, _, rfl, GR5, h8w, h5, lpy, gwt, fun t s ht hs => ⟨?_, Fx.hon h0 t s ht hs⟩, true, rfl, iteF ?_⟩
              . have z1 := Fx.good h0 sml ht hs
                have z2 := Fx.good h0 sml ht ht
                constructor
                . show -(10 ^ 60) < _; omega
                . show _ < (10 : Int) ^ 60; omega
              refine ⟨p, ko, kh, t, c, hs, outs, ds, yp outs ds ws hc, ym (ds.map HD.words), ot, k, d, rfl, hK7.mono S75, G, S75 _ _ ht7, hd, Z15 _ _ hc11, DL0, fun J6 g2 ls2 Z6 hg2 I2 => ?_⟩;have hon := Fx.hon h0;have lrw : (colP d (putP (yp outs ds ws hc) outs ot k d.words)).length = d.words.length := GR.len;have wid := GR.wid;have cg : ∀ t s, t < d.words.length -> s < d.words.length -> -(10 ^ 57) <= gcA (colP d (putP (yp outs ds ws hc) outs ot k d.words)) t s /\ gcA (colP d (putP (yp outs ds ws hc) outs ot k d.words)) t s <= 10 ^ 57 := fun t s ht hs => Fx.good h0 sml ht hs
              have cle : (∀ r ∈ d.worths, ∀ i ∈ r, 0 <= i) -> ∀ t, t < d.words.length -> (wx ds ws hc k ot d.words).getD t 0 <= wt * gcA (colP d (putP (yp outs ds ws hc) outs ot k d.words)) t t := fun z t ht => Fx.le h0 z ht
              have nn := Fx.nn h0;generalize colP d (putP (yp outs ds ws hc) outs ot k d.words) = rows at *;have GD : Gd K J6 g2 rows d.words.length := ⟨⟨ls2, ⟨.of hg2, by rw [I2.len], fun i r ns e1 e2 => .of (I2.at' i r ns e1 e2)⟩, by rw [I2.len, lrw]⟩, fun i hi => ⟨rows[i]'(by omega), Zb (by omega), wid _ (Zl _)⟩, h8w⟩;refine ⟨g2, rows, d.words.length, rfl, GD, h0, fun J7 v gs Z7 Td Gt => ?_, fun J7 cc Z7 R => (zgj w1 R hon).elim⟩;obtain ⟨tp, pl, rl, rfl, d1, d2, d3⟩ := Td.ex;have Z57 := Z6.trans Z7;have S77 := S75.trans Z57;have hL77 := hL7.mono S77;have hA77 := hA11.mono (Z15.trans Z57);refine ⟨tp, rfl, _, .of d1, _, rfl, _, .of hL77.at', _, ya (v := V.ref x.t) (by rw [Ze, hx]; rfl), ?_⟩;have row0 := G.rows d hmd;have ho1 := G.outs1;refine ⟨x, d, rfl, hA77, by omega, by omega, fun r hr => by rw [G.cols d hmd r hr]; omega, fun J8 mn2 Z8 low => ⟨mn2, rfl, ite2 (fun h => ?_) fun _ => ite2 (fun h => absurd h (by simp)) fun _ => ?_⟩⟩
              . have h := of_decide_eq_true h
                have cle' := cle fun r hr i hi => by have := low r hr i hi; omega
                have hl8' := (Z57.trans Z8) _ _ hl5';have lg := Gt.len;refine ⟨_, .of hl8', _, x6 hwt, g, py, pl, rows, d.words.length, wt, _, _, rfl, GR5.mono (Z57.trans Z8), h8w, (Z57.trans Z8) _ _ h5, lpy, Z8 _ _ d2, by rw [Za]; exact lg, gwt, fun t ht => ?_, true, rfl, iteF ⟨S10.trans (S11.trans (Z15.trans (Z57.trans Z8))), _, _, _, _, _, rfl⟩⟩;have z1 := cg t t ht ht;have z2 := Gt.mostW hon cle' ht;have z3 := Gt.le t ht;have z4 := nn _ (zdg (show t < (wx ds ws hc k ot d.words).length by omega));rw [zh3 (by omega)]
                have z5 : 0 <= (fOf gs t).1 := by
                  by_cases hn : 0 <= (fOf gs t).1
                  . exact hn
                  . have := Int.mul_neg_of_pos_of_neg (show 0 < wt by omega) (show (fOf gs t).1 < 0 by omega)
                    omega
                refine ⟨⟨?_, ?_⟩, cle' t ht, ⟨?_, ?_⟩, z2⟩
                . show -(10 ^ 60) < _; omega
                . show _ < (10 : Int) ^ 60; omega
                . show -(10 ^ 60) < _; omega
                . show _ < (10 : Int) ^ 60; omega
              . exact ⟨S10.trans (S11.trans (Z15.trans (Z57.trans Z8))), _, _, _, _, _, rfl⟩
        . rintro σ H10 ⟨S10, u2, u3, u4, u5, u6, rfl⟩
          exact ⟨S79.trans S10, _, _, _, _, _, _, rfl⟩
      . rintro σ H8 ⟨S8, v1, v2, v3, v4, v5, v6, rfl⟩
        simp only [ze, zd, ↓reduceIte];exact q H8
    obtain ⟨tr, hrest, hR⟩ := rest
    refine ⟨_, (zk (z8 (i := 1) sc_law.nd rfl (Or.inl rfl) (@zp _ _ _ _ _ _ _ _ xj (@zj _ _ _ _) (@zp _ _ _ _ _ _ _ _ xv (zg yr (hr.mono (by decide)) rfl (za (pv 0) (za (@zj _ _ _ _) (@zb _)))) (@zj _ _ _ _))))
      (zk (z8 (i := 2) sc_law.nd rfl (Or.inl rfl) (zg mr (hr.mono (by decide)) rfl (za (pv 0) (za (pv 1) (za (@zp _ _ _ _ _ _ _ _ lq (@zj _ _ _ _) (@zj _ _ _ _)) (@zb _))))))
      (zk (@xl _ _ _ _ _ _ _ _ (@y7 _ _ _ _ _ _ _ _ ib (@zp _ _ _ _ _ _ _ _ xv (zg yr (hr.mono (by decide)) rfl (za (pv 0) (za (@zj _ _ _ _) (@zb _)))) (@zj _ _ _ _)) (@zj _ _ _ _) (yx _)) (@zh _ _ _ (va (i := 2) ["hand"] ["script", "places", "hands", "outcomes", "house", "weights", "handicaps", "table", "k", "others", "grid", "rows", "pays", "high"] sc_law.nd rfl rfl rfl (@z9 _ _ _ _ (pv 2)) (fun _ => (zl (i := 0) (show (["hand", "script", "places", "hands", "outcomes", "house", "weights", "handicaps", "table", "k", "others", "grid", "rows", "pays", "high"] : List Str).Nodup by decide +kernel) rfl (Or.inl rfl))) (fun _ => (@zt _)) (fun _ => (@xw _ _ _ _ _ (za (@zw _ _ _ _ _ _ _ yq (pv 0) (@zj _ _ _ _) (fun _ _ => rfl)) (za (@zw _ _ _ _ _ _ _ yq (pv 0) (@zj _ _ _ _) (fun _ _ => rfl)) (za (z7 ["worths"] ["hand", "script", "places", "hands", "outcomes", "house", "weights", "handicaps", "table", "k", "others", "grid", "rows", "pays", "high"] rfl (@z9 _ _ _ _ (@zw _ _ _ _ _ _ _ yq (pv 0) (@zj _ _ _ _) (fun _ _ => rfl))) (fun _ => (zl (i := 0) (show (["worths", "hand", "script", "places", "hands", "outcomes", "house", "weights", "handicaps", "table", "k", "others", "grid", "rows", "pays", "high"] : List Str).Nodup by decide +kernel) rfl (Or.inl rfl))) (fun _ => (@zt _)) (fun _ => (z7 ["one"] ["worths", "hand", "script", "places", "hands", "outcomes", "house", "weights", "handicaps", "table", "k", "others", "grid", "rows", "pays", "high"] rfl (@z9 _ _ _ _ (pv 0)) (fun _ => (zl (i := 0) (show (["one", "worths", "hand", "script", "places", "hands", "outcomes", "house", "weights", "handicaps", "table", "k", "others", "grid", "rows", "pays", "high"] : List Str).Nodup by decide +kernel) rfl (Or.inl rfl))) (fun _ => (@zt _)) (fun _ => (zq gf rfl B.abs ax (za (pv 0) (@zb _)))) rfl (by decide +kernel) rfl rfl)) rfl (by decide +kernel) rfl rfl) (@zb _)))))) rfl (by decide +kernel) rfl rfl rfl)) (@yi _))
      hrest))), ?_⟩
    rw [show start ["script", "places", "hands", "outcomes", "house", "weights", "handicaps", "table", "k", "others", "grid", "rows", "pays", "high"] [V.ref a] = [some (V.ref a), none, none, none, none, none, none, none, none, none, none, none, none, none] from rfl];simp only [ze, zd, ↓reduceIte];have e4 := y9 (yb ns 0) (show (0 : Int) < 4 by decide);refine ⟨a, ns, 0, rfl, hS, ?_⟩;simp only [ze, zd, ↓reduceIte];rw [show 1 + yb ns 0 % 4 = ((ye ns : Nat) : Int) by unfold ye; omega];refine ⟨by decide, ⟨by decide, by decide, by decide⟩, a, ns, ye ns, 10 ^ 57, rfl, hS, hp.1, hp.2, by decide, by decide, fun H1 b xs N => ?_⟩;simp only [ze, zd, ↓reduceIte];have G := za3 ns (top := 10 ^ 57) (by decide) (by decide) (outs := yt (yb ns 2) (ye ns)) rfl;have sm := zad ns;have lds : (wa ns (10 ^ 57) (ye ns) (yw ns)).length = yw ns := by rw [wa, Za, ZN]
    have hL1 := N.lists;have S1 := N.same;generalize wa ns (10 ^ 57) (ye ns) (yw ns) = ds at *;refine ⟨a, ns, 53, rfl, S1.seq hS, ?_⟩;simp only [ze, zd, ↓reduceIte];refine ⟨by decide, rfl, ite2 (fun _ => ?_) fun _ => hR H1 b xs ds S1 hL1 G sm lds⟩;have h4 := G.hands.2;refine ⟨⟨_, .of hL1.at'⟩, fun dd => ?_⟩;refine zz (xs := xs.map fun x => V.ref x.t) (PvAb H1 ds) ⟨Same.refl _, [], rfl, rfl, fun j x d e => by simp at e⟩ ?_ ?_ ?_
    . rintro i ys H2 hi ⟨S2, zs, rfl, lz, hz⟩
      rw [Za, hL1.len] at hi;refine ⟨?_, .of (S2 _ _ hL1.at')⟩;rw [Za, lz];exact Zd hi (Zd h4 (by decide))
    . rintro i y ys H2 hy ⟨S2, zs, rfl, lz, hz⟩
      obtain ⟨x, hx, rfl⟩ := yd hy;have hi : i < ds.length := by have := (Zc.mp hx).1; have := hL1.len; omega
      have hd : ds[i]? = some ds[i] := Zb hi;have hA := (hL1.hand i x _ hx hd).mono S2;have hmd := Zl hi;have r8 : (ds[i]).worths.length <= 8 := by rw [G.rows _ hmd]; exact (G.words1 _ hmd).2
      have c8 : ∀ r ∈ (ds[i]).worths, r.length <= 8 := fun r hr => by rw [G.cols _ hmd r hr]; exact G.outs1.2
      generalize hdi : ds[i] = d at *;simp only [ze, zd, ↓reduceIte];refine ⟨_, .of hA.tup, _, rfl, _, .of hA.tup, _, rfl, _, .of hA.tup, _, rfl, x.g, rfl, ⟨_, .of hA.grid⟩, fun dd => ?_⟩;refine zz (xs := x.gs.map V.ref) (PvAb2 H2 d.worths) ⟨Same.refl _, [], rfl, rfl, fun j g r e => by simp at e⟩ ?_ ?_ ?_
      . rintro j ys H3 hj ⟨S3, gs, rfl, lg, hg⟩
        rw [Za, hA.len] at hj;refine ⟨?_, .of (S3 _ _ hA.grid)⟩;rw [Za, lg];exact Zd hj (Zd r8 (by decide))
      . rintro j y ys H3 hy ⟨S3, gs, rfl, lg, hg⟩
        obtain ⟨e, he, rfl⟩ := tm hy;have hj : j < d.worths.length := by have := (Zc.mp he).1; have := hA.len; omega
        have er : d.worths[j]? = some d.worths[j] := Zb hj;have hrow := S3 _ _ (hA.row j e _ he er);have hrl := c8 _ (Zl hj);generalize d.worths[j] = rr at *;simp only [ze, zd, ↓reduceIte];refine ⟨⟨_, .of hrow⟩, fun dd => ?_⟩;refine zz (xs := rr.map V.int) (PvAb3 H3 rr) ⟨rfl, rfl⟩ ?_ ?_ ?_
        . rintro j' ys H4 hj' ⟨rfl, rfl⟩
          refine ⟨?_, .of hrow⟩;rw [Za, Za, Zj];exact Zd (ZB _ _) (Zd hrl (by decide))
        . rintro j' y ys H4 hy ⟨rfl, rfl⟩
          obtain ⟨z, hz', rfl⟩ := gx hy;simp only [ze, zd, ↓reduceIte];refine ⟨rfl, ?_⟩;rw [Zq, hz', Zn, Zn];rfl
        . rintro ys H4 ⟨rfl, rfl⟩ l2 hl2
          rw [Za, Zt];have S5 : Same H4 (upd H4 l2 (.lst ((rr.map absI).map V.int))) := Same.upd (Same.refl _) hl2;refine ⟨S3.trans S5, gs ++ [l2], by simp, by simp [lg], fun j2 g r e1 e2 => ?_⟩
          by_cases h2 : j2 < gs.length
          . rw [Zg h2] at e1
            exact S5 _ _ (hg j2 g r e1 e2)
          . rw [Zf (ZD.mp h2)] at e1
            have h0 : j2 - gs.length = 0 := by
              have := (Zc.mp e1).1;simp at this;omega
            have hji : j2 = j := by omega
            rw [h0] at e1;simp at e1;subst hji e1;rw [er] at e2;cases e2;exact zf
      . rintro ys H3 ⟨S3, gs, rfl, lg, hg⟩ l2 hl2
        rw [Za, hA.len] at lg;have S4 : Same H3 (upd H3 l2 (.lst (gs.map V.ref))) := Same.upd (Same.refl _) hl2;have h4' : upd H3 l2 (.lst (gs.map V.ref)) l2 = some (.lst (gs.map V.ref)) := zf;generalize upd H3 l2 (.lst (gs.map V.ref)) = H4 at *;refine ⟨by decide, fun tp htp => ?_⟩;have S5 : Same H4 (upd H4 tp (.tup [V.str d.name, V.ref x.w, V.ref l2])) := Same.upd (Same.refl _) htp;have h5 : upd H4 tp (.tup [V.str d.name, V.ref x.w, V.ref l2]) tp = some (.tup [V.str d.name, V.ref x.w, V.ref l2]) := zf;generalize upd H4 tp (.tup [V.str d.name, V.ref x.w, V.ref l2]) = H5 at *;have S35 := S4.trans S5;refine ⟨S2.trans (S3.trans S35), zs ++ [⟨tp, x.w, l2, gs⟩], by simp, by simp [lz], fun j z d' e1 e2 => ?_⟩
        by_cases h2 : j < zs.length
        . rw [Zg h2] at e1
          exact (hz j z d' e1 e2).mono (S3.trans S35)
        . rw [Zf (ZD.mp h2)] at e1
          have h0 : j - zs.length = 0 := by
            have := (Zc.mp e1).1;simp at this;omega
          have hji : j = i := by omega
          rw [h0] at e1;simp at e1;subst hji e1;rw [hd] at e2;cases e2;refine ⟨h5, (S3.trans S35) _ _ hA.words, S5 _ _ h4', by show gs.length = (List.map _ _).length; rw [Za]; exact lg, fun i' r ns' a1 a2 => ?_⟩
          obtain ⟨r0, b1, rfl⟩ : ∃ r0, d.worths[i']? = some r0 /\ ns' = r0.map absI := by
            have a2' : (d.worths.map fun r => r.map absI)[i']? = some ns' := a2;rw [Ze] at a2'
            cases e : d.worths[i']? with
            | none => rw [e] at a2'; cases a2'
            | some r0 => rw [e] at a2'; cases a2'; exact ⟨r0, rfl, rfl⟩
          exact S35 _ _ (hg i' r r0 a1 b1)
    . rintro ys H2 ⟨S2, zs, rfl, lz, hz⟩ l hl
      rw [Za] at lz;have S3 : Same H2 (upd H2 l (.lst (zs.map fun x => V.ref x.t))) := Same.upd (Same.refl _) hl
      exact hR _ l zs (ds.map absD) (S1.trans (S2.trans S3)) ⟨zf, by rw [Za, lz, hL1.len], fun j x d e1 e2 => by
        rw [Ze] at e2
        cases e : ds[j]? with
        | none => rw [e] at e2; cases e2
        | some d0 =>
          rw [e] at e2;cases e2
          exact (hz j x d0 e1 e).mono S3⟩ G.abs sm.abs (by rw [Za]; exact lds)
theorem law_ok (B : Bt mg) (C : Ct K mg a) (d_is_whole : zc K mg "is_whole" p0 ["thing"]) (d_is_bounded : zc K mg "is_bounded" re ["thing"]) (d_is_grid_row : zc K mg "is_grid_row" u0 ["thing", "width"]) (d_turn : zc K mg "turn" fb ["grid", "s", "t"]) (d_gain : zc K mg "gain" fi ["grid", "pays", "t", "s"]) (d_first_gain : zc K mg "first_gain" sw ["grid", "pays"]) (d_is_name : zc K mg "is_name" ni ["thing"]) (d_are_names : zc K mg "are_names" qf ["thing", "most"]) (d_are_worths : zc K mg "are_worths" sx ["thing", "height", "width"]) (d_is_hand : zc K mg "is_hand" mh ["thing", "width"]) (d_name_of : zc K mg "name_of" nt ["hand"]) (d_names_of : zc K mg "names_of" q9 ["hands"]) (d_words_of_hand : zc K mg "words_of_hand" w5 ["hand"]) (d_worths_of_hand : zc K mg "worths_of_hand" wf ["hand"]) (d_worths_by : zc K mg "worths_by" qd ["hand", "word"]) (d_count_of_rows : zc K mg "count_of_rows" vv ["hands"]) (d_makes_house : zc K mg "makes_house" u9 ["outcomes", "hands"]) (d_kept_hand : zc K mg "kept_hand" qi ["hand"]) (d_house_of : zc K mg "house_of" pk ["outcomes", "hands"]) (d_outcomes_of : zc K mg "outcomes_of" uy ["house"]) (d_hands_of : zc K mg "hands_of" p8 ["house"]) (d_with_each : zc K mg "with_each" rp ["rows", "words"]) (d_rows_over : zc K mg "rows_over" r6 ["hands"]) (d_rows_of : zc K mg "rows_of" me ["house"]) (d_row_with : zc K mg "row_with" pq ["others", "k", "word"]) (d_are_weights : zc K mg "are_weights" ux ["house", "thing"]) (d_are_handicaps : zc K mg "are_handicaps" vz ["house", "thing"]) (d_refuse_weights : zc K mg "refuse_weights" vf ["house", "weights", "handicaps"]) (d_part_of : zc K mg "part_of" ma ["hand", "weight", "word"]) (d_parts_of : zc K mg "parts_of" px ["house", "weights", "row"]) (d_scores : zc K mg "scores" kg ["house", "weights", "handicaps", "row"]) (d_best_place : zc K mg "best_place" ra ["totals"]) (d_best_outcome : zc K mg "best_outcome" ug ["house", "weights", "handicaps", "row"]) (d_best_table : zc K mg "best_table" t9 ["house", "weights", "handicaps"]) (d_pivot : zc K mg "pivot" j5 ["totals", "part"]) (d_pivots : zc K mg "pivots" km ["house", "weights", "handicaps", "row"]) (d_dealt_places : zc K mg "dealt_places" uh ["house", "table", "k", "others"]) (d_worths_at : zc K mg "worths_at" r9 ["worths", "places"]) (d_grid_of : zc K mg "grid_of" mf ["house", "table", "k", "others"]) (d_total_of : zc K mg "total_of" pc ["walk"]) (d_words_of : zc K mg "words_of" p6 ["walk"]) (d_walks_of_one_turn : zc K mg "walks_of_one_turn" wp ["grid", "s"]) (d_least_to : zc K mg "least_to" sf ["grid", "walks", "t"]) (d_lengthened : zc K mg "lengthened" v7 ["grid", "walks"]) (d_after_a_turn : zc K mg "after_a_turn" ui ["grid", "totals", "t"]) (d_has_honest : zc K mg "has_honest" sd ["grid"]) (d_closed_below_zero : zc K mg "closed_below_zero" wq ["rows"]) (d_ring : zc K mg "ring" g0 ["grid"]) (d_refuse_ring : zc K mg "refuse_ring" uz ["grid"]) (d_lesser : zc K mg "lesser" k8 ["walk", "longer"]) (d_least_roads : zc K mg "least_roads" u8 ["grid", "walks"]) (d_greatest : zc K mg "greatest" pz ["grid"]) (d_law_cell : zc K mg "_law_cell" pj ["script", "k"]) (d_law_number : zc K mg "_law_number" sh ["cell", "top"]) (d_law_names : zc K mg "_law_names" yg ["cell", "many"]) (d_law_hands : zc K mg "_law_hands" rq ["script", "places", "top"]) (d_law_rows : zc K mg "_law_rows" ph ["hands"]) (d_law_weights : zc K mg "_law_weights" u7 ["script", "many"]) (d_law_handicaps : zc K mg "_law_handicaps" vx ["script", "places"]) (d_law_column : zc K mg "_law_column" rc ["hands", "outcomes", "table", "k", "others"]) (d_law_honest : zc K mg "_law_honest" si ["grid", "weight", "pays"]) (d_law_low : zc K mg "_law_low" nk ["hand"]) (d_law_bounded : zc K mg "_law_bounded" uw ["grid", "weight", "pays", "high"]) (base : Heap) {f : Addr} {fd : FuncData} (F : Fun K "law" "law" nz f fd) : FnOk P w K mg base CX0 9 f fd ["script"] (zdd K) := by
  have c1 := yr (P := P) (w := w) (base := base) B d_law_cell;have c2 := wj (P := P) (w := w) (base := base) d_law_number;have c3 := vp (P := P) (w := w) (base := base) B d_law_names;have n1 := qk (P := P) (w := w) (base := base) B d_is_name;have n2 := vo B n1 d_are_names;have n3 := x9 B (ng B (l9 (P := P) (w := w) (base := base) B d_is_whole) d_is_bounded) d_is_grid_row;have n4 := o6 B n3 d_are_worths;have n5 := jt B n1 n2 n4 d_is_hand;have n6 := ql (P := P) (w := w) (base := base) d_name_of;have n7 := yl (P := P) (w := w) (base := base) d_words_of_hand;have n8 := xn (P := P) (w := w) (base := base) d_worths_of_hand;have n9 := qx B n2 n5 (k9 n6 d_names_of) (so B n7 d_count_of_rows) d_makes_house;have n10 := zdn B C n9 (zbh B n6 n7 n8 d_kept_hand) d_house_of;have m1 := zdb (P := P) (w := w) (base := base) d_hands_of;have m0 := cy (P := P) (w := w) (base := base) d_outcomes_of;have mw := f8 (P := P) (w := w) (base := base) d_words_of_hand;have mv := gp (P := P) (w := w) (base := base) d_worths_of_hand;have m2 := jf (mt mw mv d_worths_by) d_part_of;have m3 := t7 B m1 m2 d_parts_of;have m4 := tj B C (qr B m1 n3 d_are_weights) (rb B m0 n3 d_are_handicaps) d_refuse_weights;have m5 := jz B (mq B (mm (P := P) (w := w) (base := base) B d_with_each) mw d_rows_over) m1 d_rows_of;have mb := v0 (P := P) (w := w) (base := base) B d_best_place;have ms := o9 B C m4 m3 d_scores;have m6 := rj B m0 mb ms d_best_outcome;have t1 := jp B (rn B (kr B d_row_with) mw m1 m0 d_dealt_places) (mx d_worths_at) mv m1 d_grid_of;have c7 := v8 (P := P) (w := w) (base := base) d_turn;have c8 := xm (P := P) (w := w) (base := base) d_total_of;have c9 := t8 (P := P) (w := w) (base := base) d_words_of;have c14 := zau B (oj B (rh B c7 d_after_a_turn) (o8 B (ah c7 d_gain) d_first_gain) d_has_honest) (vq B c7 d_walks_of_one_turn) (ub B (su B c7 c8 d_least_to) d_lengthened) (vt B c8 c9 d_closed_below_zero) d_ring;have c18 := qv B (zas B (zcz B c7 c8 d_least_to) d_lengthened) (gk c8 d_lesser) d_least_roads;have c19 := kq B C (qz B C c14 d_refuse_ring) c18 c8 c9 d_greatest
  exact law_fn B c1 c3 (mr B c1 c2 c3 d_law_hands) n10 (qw B c1 c2 d_law_weights) (se B c1 c2 d_law_handicaps) (oz B m5 m6 d_best_table) (ka (P := P) (w := w) (base := base) d_law_rows)
    (ou B d_law_column) (i9 B C ms (dz B mb d_pivot) m3 d_pivots) (ow B d_law_honest) t1 c19 (jj B d_law_low) (qt B d_law_bounded) F
end
end Mine
namespace Tp
open PySem PySem.W PySem.Calls PyProof.Rows
noncomputable section
abbrev pr : Program := PySem.Challenge.pw_trueword_k55_whole_pivots_are_honest
def en (P : Params) (x : Str) (t : Nat) (v : Value) : DictEntry := ⟨PyData.keyHash P x, .str x t, v⟩
abbrev fn (i : Nat) (name qual : Str) (dV kV doc pm : Value) (an : Option Addr) (cdv ct : Value) : FuncData := fnOf name qual (L2.tz (Mine.top i)) (L2.xh (Mine.top i)) (L2.zi (Mine.top i)) dV kV doc pm an cdv ct
abbrev fx (i : Nat) (name qual : Str) (g : Addr) (dV kV doc pm : Value) (an : Option Addr) (cdv ct : Value) (b : Addr) : FuncData := ⟨name, qual, L2.tz (Mine.top i), .stmts (L2.xh (Mine.top i)), L2.zi (Mine.top i), g, [], dV, kV, doc, pm, an, cdv, ct, b⟩
def oE : Obj := ⟨.type "tuple", none, .seq #[] 0, #[]⟩
def oF : Obj := ⟨.none, none, .fields #[], #[]⟩
def tl : Nat -> List Str -> List Value
  | _, [] => []
  | t, x :: r => .str x t :: tl (t + 1) r
def ts (t : Nat) (xs : List Str) : Obj := ⟨.type "tuple", none, .seq (tl t xs).toArray 0, #[]⟩
def fo (i : Nat) (n m : Str) (t c : Nat) : Obj := ⟨.type "function", none, .func (fn i n n .none .none .none (.str m t) none (.ref c) .none), #[]⟩
def xo (i : Nat) (n : Str) : Obj := ⟨.none, none, .func (fx i n n 0 .none .none .none .none none .none .none 0), #[]⟩
def co (n : Str) (t l c f a : Nat) (b : Bool) (e : Nat) (v1 v2 v3 v4 : Value) (k : Nat) : Obj := ⟨.type "code", none, .fields #[.str n t, .str n (t + 1), .str "/claim/cut.py" (t + 2), .int l 0, .int c 0, .int 0 0, .int 0 0, .int f 0, .ref a, .bool b, .int 181 0, .ref e, v1, v2, v3, v4, .int k 0, .int l 0, .str "/claim/cut.py" (k + 1)], #[]⟩
def ia (t : BT) : Nat -> List Obj -> BT
  | _, [] => t
  | n, o :: r => ia (t.ins n o) (n + 1) r
def lf (P : Params) : Life := (boot_heap P).life
def env : Env := { scope := pr.main.scope, locals := mainNs, globals := mainNs, cells := [], code := (.ref 13), frame := some 14 }
def cd : Code := .body (behindTheImports pr) env
def qp : Pos := ⟨0, 0, 0, 0⟩
def o13 : Obj := (co "<module>" 182 1 0 0 11 false 12 .none .none .none .none 185)
def ha (P : Params) : Heap := ⟨⟨[boot_o_0 P, boot_o_1 P, boot_o_2 P, boot_o_3 P, boot_o_4 P, boot_o_5 P, boot_o_6 P, boot_o_7 P, boot_o_8 P, boot_o_9 P, boot_o_10 P, oE, oF, o13, ⟨(.type "frame"), none, .plain, #[(some (.ref 13)), (some (.ref 3)), (some (.ref 3)), none, (some (.str "__main__" 164)), none, (some (.ref 0))]⟩]⟩, lf P⟩
def t0 (P : Params) : BT := (.node (boot_o_0 P) (.node (boot_o_1 P) (.node (boot_o_3 P) (.node (boot_o_7 P) .nil .nil) (.node (oE) .nil .nil)) (.node (boot_o_5 P) (.node (boot_o_9 P) .nil .nil) (.node (o13) .nil .nil))) (.node (boot_o_2 P) (.node (boot_o_4 P) (.node (boot_o_8 P) .nil .nil) (.node (oF) .nil .nil)) (.node (boot_o_6 P) (.node (boot_o_10 P) .nil .nil) (.node (⟨(.type "frame"), none, .plain, #[(some (.ref 13)), (some (.ref 3)), (some (.ref 3)), none, (some (.str "__main__" 164)), none, (some (.ref 0))]⟩) .nil .nil))))
def o3 (P : Params) : Obj := ⟨(.type "dict"), none, (.dict #[en P "__name__" 165 (.str "trueword.houses" 309), en P "__doc__" 166 .none, en P "__package__" 167 .none, en P "__loader__" 168 (.builtin "__main__.__loader__#opaque"), en P "__spec__" 169 .none, en P "__annotations__" 170 (.ref 6), en P "__builtins__" 171 (.ref 4), en P "__file__" 173 (.str "/claim/cut.py" 172), en P "__cached__" 174 .none, en P "TrueError" 206 (.ref 24), en P "NoPays" 222 (.ref 37), en P "NoHouse" 238 (.ref 49), en P "NoWeight" 254 (.ref 61), en P "MOST_WORDS" 258 (.int (8) 257), en P "is_whole" 265 (.ref 70), en P "is_bounded" 272 (.ref 77), en P "is_grid_row" 278 (.ref 82), en P "turn" 287 (.ref 89), en P "gain" 297 (.ref 96), en P "first_gain" 308 (.ref 103), en P "MOST_LETTERS" 312 (.int (8) 311), en P "MOST_OUTCOMES" 314 (.int (8) 313), en P "MOST_HANDS" 316 (.int (4) 315), en P "MOST_ROWS" 318 (.int (256) 317), en P "is_name" 324 (.ref 108), en P "are_names" 330 (.ref 113), en P "are_worths" 336 (.ref 118), en P "is_hand" 344 (.ref 125), en P "name_of" 351 (.ref 132), en P "names_of" 357 (.ref 137), en P "words_of_hand" 364 (.ref 144), en P "worths_of_hand" 371 (.ref 151), en P "worths_by" 379 (.ref 158), en P "count_of_rows" 388 (.ref 165), en P "makes_house" 394 (.ref 170), en P "kept_hand" 400 (.ref 175), en P "house_of" 406 (.ref 180), en P "outcomes_of" 413 (.ref 187), en P "hands_of" 420 (.ref 194)] 39), #[]⟩
def o17 (P : Params) : Obj := ⟨(.type "dict"), none, (.dict #[en P "__module__" 196 (.str "trueword.errors" 187), en P "__qualname__" 198 (.str "TrueError" 197), en P "__firstlineno__" 200 (.int (2) 199), en P "__static_attributes__" 201 (.ref 22)] 4), #[]⟩
def o20 : Obj := (co "TrueError" 191 2 0 0 18 false 19 .none .none .none .none 194)
def o23 (P : Params) : Obj := ⟨(.type "dict"), none, (.dict #[en P "__module__" 196 (.str "trueword.errors" 187), en P "__firstlineno__" 200 (.int (2) 199), en P "__static_attributes__" 201 (.ref 22), en P "__weakref__" 203 (.ref 25), en P "__doc__" 204 .none] 3), #[]⟩
def o24 : Obj := ⟨(.type "type"), none, (.cls ⟨"TrueError", [(.type "ValueError")], [(.ref 24), (.type "ValueError"), (.type "Exception"), (.type "BaseException"), (.type "object")], 23, "TrueError", true, [], [(.ref 37), (.ref 49), (.ref 61)], false, none, false⟩), #[(some (.ref 15)), none, (some (.str "TrueError" 189)), (some (.str "TrueError" 197)), (some (.builtin "ValueError.__new__")), (some (.bool true))]⟩
def o30 (P : Params) : Obj := ⟨(.type "dict"), none, (.dict #[en P "__module__" 214 (.str "trueword.errors" 187), en P "__qualname__" 216 (.str "NoPays" 215), en P "__firstlineno__" 218 (.int (4) 217), en P "__static_attributes__" 219 (.ref 35)] 4), #[]⟩
def o33 : Obj := (co "NoPays" 209 4 0 0 31 false 32 .none .none .none .none 212)
def o36 (P : Params) : Obj := ⟨(.type "dict"), none, (.dict #[en P "__module__" 214 (.str "trueword.errors" 187), en P "__firstlineno__" 218 (.int (4) 217), en P "__static_attributes__" 219 (.ref 35), en P "__doc__" 220 .none] 2), #[]⟩
def o37 : Obj := ⟨(.type "type"), none, (.cls ⟨"NoPays", [(.ref 24)], [(.ref 37), (.ref 24), (.type "ValueError"), (.type "Exception"), (.type "BaseException"), (.type "object")], 36, "NoPays", true, [], [], false, none, false⟩), #[(some (.ref 28)), none, (some (.str "NoPays" 207)), (some (.str "NoPays" 215)), (some (.builtin "ValueError.__new__")), (some (.bool true))]⟩
def o42 (P : Params) : Obj := ⟨(.type "dict"), none, (.dict #[en P "__module__" 230 (.str "trueword.errors" 187), en P "__qualname__" 232 (.str "NoHouse" 231), en P "__firstlineno__" 234 (.int (6) 233), en P "__static_attributes__" 235 (.ref 47)] 4), #[]⟩
def o45 : Obj := (co "NoHouse" 225 6 0 0 43 false 44 .none .none .none .none 228)
def o48 (P : Params) : Obj := ⟨(.type "dict"), none, (.dict #[en P "__module__" 230 (.str "trueword.errors" 187), en P "__firstlineno__" 234 (.int (6) 233), en P "__static_attributes__" 235 (.ref 47), en P "__doc__" 236 .none] 2), #[]⟩
def o49 : Obj := ⟨(.type "type"), none, (.cls ⟨"NoHouse", [(.ref 24)], [(.ref 49), (.ref 24), (.type "ValueError"), (.type "Exception"), (.type "BaseException"), (.type "object")], 48, "NoHouse", true, [], [], false, none, false⟩), #[(some (.ref 40)), none, (some (.str "NoHouse" 223)), (some (.str "NoHouse" 231)), (some (.builtin "ValueError.__new__")), (some (.bool true))]⟩
def o54 (P : Params) : Obj := ⟨(.type "dict"), none, (.dict #[en P "__module__" 246 (.str "trueword.errors" 187), en P "__qualname__" 248 (.str "NoWeight" 247), en P "__firstlineno__" 250 (.int (8) 249), en P "__static_attributes__" 251 (.ref 59)] 4), #[]⟩
def o57 : Obj := (co "NoWeight" 241 8 0 0 55 false 56 .none .none .none .none 244)
def o60 (P : Params) : Obj := ⟨(.type "dict"), none, (.dict #[en P "__module__" 246 (.str "trueword.errors" 187), en P "__firstlineno__" 250 (.int (8) 249), en P "__static_attributes__" 251 (.ref 59), en P "__doc__" 252 .none] 2), #[]⟩
def o61 : Obj := ⟨(.type "type"), none, (.cls ⟨"NoWeight", [(.ref 24)], [(.ref 61), (.ref 24), (.type "ValueError"), (.type "Exception"), (.type "BaseException"), (.type "object")], 60, "NoWeight", true, [], [], false, none, false⟩), #[(some (.ref 52)), none, (some (.str "NoWeight" 239)), (some (.str "NoWeight" 247)), (some (.builtin "ValueError.__new__")), (some (.bool true))]⟩
def o69 : Obj := (co "is_whole" 259 12 1 3 64 true 65 .none (.ref 66) (.ref 67) (.ref 68) 263)
def o70 : Obj := (fo 7 "is_whole" "trueword.grids" 255 69)
def o76 : Obj := (co "is_bounded" 266 14 1 3 71 true 72 .none (.ref 73) (.ref 74) (.ref 75) 270)
def o77 : Obj := (fo 8 "is_bounded" "trueword.grids" 255 76)
def o81 : Obj := (co "is_grid_row" 273 16 2 3 78 true 79 .none .none .none (.ref 80) 276)
def o82 : Obj := (fo 9 "is_grid_row" "trueword.grids" 255 81)
def o88 : Obj := (co "turn" 279 20 3 3 83 true 84 .none (.ref 85) (.ref 86) (.ref 87) 285)
def o89 : Obj := (fo 10 "turn" "trueword.grids" 255 88)
def o95 : Obj := (co "gain" 288 22 4 3 90 true 91 .none (.ref 92) (.ref 93) (.ref 94) 295)
def o96 : Obj := (fo 11 "gain" "trueword.grids" 255 95)
def o102 : Obj := (co "first_gain" 298 24 2 3 97 true 98 .none (.ref 99) (.ref 100) (.ref 101) 306)
def o103 : Obj := (fo 12 "first_gain" "trueword.grids" 255 102)
def o107 : Obj := (co "is_name" 319 36 1 3 104 true 105 .none .none .none (.ref 106) 322)
def o108 : Obj := (fo 18 "is_name" "trueword.houses" 309 107)
def o112 : Obj := (co "are_names" 325 40 2 3 109 true 110 .none .none .none (.ref 111) 328)
def o113 : Obj := (fo 19 "are_names" "trueword.houses" 309 112)
def o117 : Obj := (co "are_worths" 331 44 3 3 114 true 115 .none .none .none (.ref 116) 334)
def o118 : Obj := (fo 20 "are_worths" "trueword.houses" 309 117)
def o124 : Obj := (co "is_hand" 337 48 2 3 119 true 120 .none (.ref 121) (.ref 122) (.ref 123) 342)
def o125 : Obj := (fo 21 "is_hand" "trueword.houses" 309 124)
def o131 : Obj := (co "name_of" 345 52 1 3 126 true 127 .none (.ref 128) (.ref 129) (.ref 130) 349)
def o132 : Obj := (fo 22 "name_of" "trueword.houses" 309 131)
def o136 : Obj := (co "names_of" 352 54 1 3 133 true 134 .none .none .none (.ref 135) 355)
def o137 : Obj := (fo 23 "names_of" "trueword.houses" 309 136)
def o143 : Obj := (co "words_of_hand" 358 56 1 3 138 true 139 .none (.ref 140) (.ref 141) (.ref 142) 362)
def o144 : Obj := (fo 24 "words_of_hand" "trueword.houses" 309 143)
def o150 : Obj := (co "worths_of_hand" 365 58 1 3 145 true 146 .none (.ref 147) (.ref 148) (.ref 149) 369)
def o151 : Obj := (fo 25 "worths_of_hand" "trueword.houses" 309 150)
def o157 : Obj := (co "worths_by" 372 60 2 3 152 true 153 .none (.ref 154) (.ref 155) (.ref 156) 377)
def o158 : Obj := (fo 26 "worths_by" "trueword.houses" 309 157)
def o164 : Obj := (co "count_of_rows" 380 62 1 3 159 true 160 .none (.ref 161) (.ref 162) (.ref 163) 386)
def o165 : Obj := (fo 27 "count_of_rows" "trueword.houses" 309 164)
def o169 : Obj := (co "makes_house" 389 67 2 3 166 true 167 .none .none .none (.ref 168) 392)
def o170 : Obj := (fo 28 "makes_house" "trueword.houses" 309 169)
def o174 : Obj := (co "kept_hand" 395 73 1 3 171 true 172 .none .none .none (.ref 173) 398)
def o175 : Obj := (fo 29 "kept_hand" "trueword.houses" 309 174)
def o179 : Obj := (co "house_of" 401 76 2 3 176 true 177 .none .none .none (.ref 178) 404)
def o180 : Obj := (fo 30 "house_of" "trueword.houses" 309 179)
def o186 : Obj := (co "outcomes_of" 407 80 1 3 181 true 182 .none (.ref 183) (.ref 184) (.ref 185) 411)
def o187 : Obj := (fo 31 "outcomes_of" "trueword.houses" 309 186)
def o193 : Obj := (co "hands_of" 414 82 1 3 188 true 189 .none (.ref 190) (.ref 191) (.ref 192) 418)
def o194 : Obj := (fo 32 "hands_of" "trueword.houses" 309 193)
def t1 (P : Params) : BT := ia (((t0 P).set 3 fun _ => o3 P).set 12 fun _ => ⟨.none, none, (.fields #[(.int (2) 0), (.int (0) 0), (.ref 20), (.int (4) 0), (.int (0) 0), (.ref 33), (.int (6) 0), (.int (0) 0), (.ref 45), (.int (8) 0), (.int (0) 0), (.ref 57), (.int (12) 0), (.int (0) 0), (.ref 69), (.int (14) 0), (.int (0) 0), (.ref 76), (.int (16) 0), (.int (0) 0), (.ref 81), (.int (20) 0), (.int (0) 0), (.ref 88), (.int (22) 0), (.int (0) 0), (.ref 95), (.int (24) 0), (.int (0) 0), (.ref 102), (.int (36) 0), (.int (0) 0), (.ref 107), (.int (40) 0), (.int (0) 0), (.ref 112), (.int (44) 0), (.int (0) 0), (.ref 117), (.int (48) 0), (.int (0) 0), (.ref 124), (.int (52) 0), (.int (0) 0), (.ref 131), (.int (54) 0), (.int (0) 0), (.ref 136), (.int (56) 0), (.int (0) 0), (.ref 143), (.int (58) 0), (.int (0) 0), (.ref 150), (.int (60) 0), (.int (0) 0), (.ref 157), (.int (62) 0), (.int (0) 0), (.ref 164), (.int (67) 0), (.int (0) 0), (.ref 169), (.int (73) 0), (.int (0) 0), (.ref 174), (.int (76) 0), (.int (0) 0), (.ref 179), (.int (80) 0), (.int (0) 0), (.ref 186), (.int (82) 0), (.int (0) 0), (.ref 193)]), #[]⟩) 15 [⟨(.type "tuple"), none, (.seq #[(.type "ValueError")] 0), #[]⟩, ⟨(.type "builtin_function_or_method"), none, (.fields #[(.builtin "type.__prepare__"), (.type "type")]), #[]⟩, o17 P, oE, oF, o20, ⟨(.type "frame"), none, .plain, #[(some (.ref 20)), (some (.ref 3)), (some (.ref 17)), none, (some (.str "trueword.errors" 187)), none, (some (.ref 0))]⟩, oE, o23 P, o24, ⟨(.type "getset_descriptor"), none, (.fields #[(.str "__weakref__" 202), (.ref 24), (.builtin "ExceptionGroup.__weakref__"), .none]), #[]⟩, ⟨(.type "super"), none, (.fields #[(.ref 24), (.ref 24), (.ref 24)]), #[]⟩, ⟨(.type "builtin_function_or_method"), none, (.fields #[(.builtin "object.__init_subclass__"), (.ref 24)]), #[]⟩, ⟨(.type "tuple"), none, (.seq #[(.ref 24)] 0), #[]⟩, ⟨(.type "builtin_function_or_method"), none, (.fields #[(.builtin "type.__prepare__"), (.type "type")]), #[]⟩, o30 P, oE, oF, o33, ⟨(.type "frame"), none, .plain, #[(some (.ref 33)), (some (.ref 3)), (some (.ref 30)), none, (some (.str "trueword.errors" 187)), none, (some (.ref 0))]⟩, oE, o36 P, o37, ⟨(.type "super"), none, (.fields #[(.ref 37), (.ref 37), (.ref 37)]), #[]⟩, ⟨(.type "builtin_function_or_method"), none, (.fields #[(.builtin "object.__init_subclass__"), (.ref 37)]), #[]⟩, ⟨(.type "tuple"), none, (.seq #[(.ref 24)] 0), #[]⟩, ⟨(.type "builtin_function_or_method"), none, (.fields #[(.builtin "type.__prepare__"), (.type "type")]), #[]⟩, o42 P, oE, oF, o45, ⟨(.type "frame"), none, .plain, #[(some (.ref 45)), (some (.ref 3)), (some (.ref 42)), none, (some (.str "trueword.errors" 187)), none, (some (.ref 0))]⟩, oE, o48 P, o49, ⟨(.type "super"), none, (.fields #[(.ref 49), (.ref 49), (.ref 49)]), #[]⟩, ⟨(.type "builtin_function_or_method"), none, (.fields #[(.builtin "object.__init_subclass__"), (.ref 49)]), #[]⟩, ⟨(.type "tuple"), none, (.seq #[(.ref 24)] 0), #[]⟩, ⟨(.type "builtin_function_or_method"), none, (.fields #[(.builtin "type.__prepare__"), (.type "type")]), #[]⟩, o54 P, oE, oF, o57, ⟨(.type "frame"), none, .plain, #[(some (.ref 57)), (some (.ref 3)), (some (.ref 54)), none, (some (.str "trueword.errors" 187)), none, (some (.ref 0))]⟩, oE, o60 P, o61, ⟨(.type "super"), none, (.fields #[(.ref 61), (.ref 61), (.ref 61)]), #[]⟩, ⟨(.type "builtin_function_or_method"), none, (.fields #[(.builtin "object.__init_subclass__"), (.ref 61)]), #[]⟩, oE, oF, (ts 262 ["thing"]), oE, (xo 7 "is_whole"), o69, o70, oE, oF, (ts 269 ["thing"]), oE, (xo 8 "is_bounded"), o76, o77, oE, oF, (xo 9 "is_grid_row"), o81, o82, oE, oF, (ts 282 ["grid", "s", "t"]), oE, (xo 10 "turn"), o88, o89, oE, oF, (ts 291 ["grid", "pays", "t", "s"]), oE, (xo 11 "gain"), o95, o96, oE, oF, (ts 301 ["grid", "pays", "t", "s", "more"]), oE, (xo 12 "first_gain"), o102, o103, oE, oF, (xo 18 "is_name"), o107, o108, oE, oF, (xo 19 "are_names"), o112, o113, oE, oF, (xo 20 "are_worths"), o117, o118, oE, oF, (ts 340 ["thing", "width"]), oE, (xo 21 "is_hand"), o124, o125, oE, oF, (ts 348 ["hand"]), oE, (xo 22 "name_of"), o131, o132, oE, oF, (xo 23 "names_of"), o136, o137, oE, oF, (ts 361 ["hand"]), oE, (xo 24 "words_of_hand"), o143, o144, oE, oF, (ts 368 ["hand"]), oE, (xo 25 "worths_of_hand"), o150, o151, oE, oF, (ts 375 ["hand", "word"]), oE, (xo 26 "worths_by"), o157, o158, oE, oF, (ts 383 ["hands", "count", "hand"]), oE, (xo 27 "count_of_rows"), o164, o165, oE, oF, (xo 28 "makes_house"), o169, o170, oE, oF, (xo 29 "kept_hand"), o174, o175, oE, oF, (xo 30 "house_of"), o179, o180, oE, oF, (ts 410 ["house"]), oE, (xo 31 "outcomes_of"), o186, o187, oE, oF, (ts 417 ["house"]), oE, (xo 32 "hands_of"), o193, o194]
def o3_1 (P : Params) : Obj := ⟨(.type "dict"), none, (.dict #[en P "__name__" 165 (.str "law_trueword_k55_whole_pivots_are_honest" 642), en P "__doc__" 166 .none, en P "__package__" 167 .none, en P "__loader__" 168 (.builtin "__main__.__loader__#opaque"), en P "__spec__" 169 .none, en P "__annotations__" 170 (.ref 6), en P "__builtins__" 171 (.ref 4), en P "__file__" 173 (.str "/claim/cut.py" 172), en P "__cached__" 174 .none, en P "TrueError" 206 (.ref 24), en P "NoPays" 222 (.ref 37), en P "NoHouse" 238 (.ref 49), en P "NoWeight" 254 (.ref 61), en P "MOST_WORDS" 258 (.int (8) 257), en P "is_whole" 265 (.ref 70), en P "is_bounded" 272 (.ref 77), en P "is_grid_row" 278 (.ref 82), en P "turn" 287 (.ref 89), en P "gain" 297 (.ref 96), en P "first_gain" 308 (.ref 103), en P "MOST_LETTERS" 312 (.int (8) 311), en P "MOST_OUTCOMES" 314 (.int (8) 313), en P "MOST_HANDS" 316 (.int (4) 315), en P "MOST_ROWS" 318 (.int (256) 317), en P "is_name" 324 (.ref 108), en P "are_names" 330 (.ref 113), en P "are_worths" 336 (.ref 118), en P "is_hand" 344 (.ref 125), en P "name_of" 351 (.ref 132), en P "names_of" 357 (.ref 137), en P "words_of_hand" 364 (.ref 144), en P "worths_of_hand" 371 (.ref 151), en P "worths_by" 379 (.ref 158), en P "count_of_rows" 388 (.ref 165), en P "makes_house" 394 (.ref 170), en P "kept_hand" 400 (.ref 175), en P "house_of" 406 (.ref 180), en P "outcomes_of" 413 (.ref 187), en P "hands_of" 420 (.ref 194), en P "with_each" 426 (.ref 199), en P "rows_over" 435 (.ref 206), en P "rows_of" 442 (.ref 213), en P "row_with" 451 (.ref 220), en P "are_weights" 459 (.ref 225), en P "are_handicaps" 467 (.ref 232), en P "refuse_weights" 476 (.ref 239), en P "part_of" 482 (.ref 244), en P "parts_of" 488 (.ref 249), en P "scores" 494 (.ref 254), en P "best_place" 501 (.ref 261), en P "best_outcome" 511 (.ref 268), en P "best_table" 517 (.ref 273), en P "pivot" 523 (.ref 278), en P "pivots" 529 (.ref 283), en P "dealt_places" 537 (.ref 288), en P "worths_at" 543 (.ref 293), en P "grid_of" 549 (.ref 298), en P "total_of" 558 (.ref 305), en P "words_of" 565 (.ref 312), en P "walks_of_one_turn" 571 (.ref 317), en P "least_to" 577 (.ref 322), en P "lengthened" 583 (.ref 327), en P "after_a_turn" 589 (.ref 332), en P "has_honest" 595 (.ref 337), en P "closed_below_zero" 604 (.ref 344), en P "ring" 610 (.ref 349), en P "refuse_ring" 619 (.ref 356), en P "lesser" 627 (.ref 363), en P "least_roads" 633 (.ref 368), en P "greatest" 641 (.ref 373), en P "_law_cell" 651 (.ref 380), en P "_law_number" 659 (.ref 387), en P "_law_names" 665 (.ref 392), en P "_law_hands" 671 (.ref 397), en P "_law_rows" 683 (.ref 404), en P "_law_worths" 691 (.ref 411), en P "_law_weights" 697 (.ref 416), en P "_law_handicaps" 703 (.ref 421), en P "_law_scores" 717 (.ref 428), en P "_law_column" 723 (.ref 433), en P "_law_honest" 735 (.ref 440), en P "_law_low" 741 (.ref 445), en P "_law_bounded" 752 (.ref 452), en P "law" 758 (.ref 457)] 84), #[]⟩
def o198 : Obj := (co "with_each" 421 84 2 3 195 true 196 .none .none .none (.ref 197) 424)
def o199 : Obj := (fo 33 "with_each" "trueword.houses" 309 198)
def o205 : Obj := (co "rows_over" 427 89 1 3 200 true 201 .none (.ref 202) (.ref 203) (.ref 204) 433)
def o206 : Obj := (fo 34 "rows_over" "trueword.houses" 309 205)
def o212 : Obj := (co "rows_of" 436 94 1 3 207 true 208 .none (.ref 209) (.ref 210) (.ref 211) 440)
def o213 : Obj := (fo 35 "rows_of" "trueword.houses" 309 212)
def o219 : Obj := (co "row_with" 443 96 3 3 214 true 215 .none (.ref 216) (.ref 217) (.ref 218) 449)
def o220 : Obj := (fo 36 "row_with" "trueword.houses" 309 219)
def o224 : Obj := (co "are_weights" 454 99 2 3 221 true 222 .none .none .none (.ref 223) 457)
def o225 : Obj := (fo 38 "are_weights" "trueword.best" 452 224)
def o231 : Obj := (co "are_handicaps" 460 101 2 3 226 true 227 .none (.ref 228) (.ref 229) (.ref 230) 465)
def o232 : Obj := (fo 39 "are_handicaps" "trueword.best" 452 231)
def o238 : Obj := (co "refuse_weights" 468 103 3 3 233 true 234 .none (.ref 235) (.ref 236) (.ref 237) 474)
def o239 : Obj := (fo 40 "refuse_weights" "trueword.best" 452 238)
def o243 : Obj := (co "part_of" 477 108 3 3 240 true 241 .none .none .none (.ref 242) 480)
def o244 : Obj := (fo 41 "part_of" "trueword.best" 452 243)
def o248 : Obj := (co "parts_of" 483 110 3 3 245 true 246 .none .none .none (.ref 247) 486)
def o249 : Obj := (fo 42 "parts_of" "trueword.best" 452 248)
def o253 : Obj := (co "scores" 489 112 4 3 250 true 251 .none .none .none (.ref 252) 492)
def o254 : Obj := (fo 43 "scores" "trueword.best" 452 253)
def o260 : Obj := (co "best_place" 495 118 1 3 255 true 256 .none (.ref 257) (.ref 258) (.ref 259) 499)
def o261 : Obj := (fo 44 "best_place" "trueword.best" 452 260)
def o267 : Obj := (co "best_outcome" 502 120 4 3 262 true 263 .none (.ref 264) (.ref 265) (.ref 266) 509)
def o268 : Obj := (fo 45 "best_outcome" "trueword.best" 452 267)
def o272 : Obj := (co "best_table" 512 122 3 3 269 true 270 .none .none .none (.ref 271) 515)
def o273 : Obj := (fo 46 "best_table" "trueword.best" 452 272)
def o277 : Obj := (co "pivot" 518 124 2 3 274 true 275 .none .none .none (.ref 276) 521)
def o278 : Obj := (fo 47 "pivot" "trueword.best" 452 277)
def o282 : Obj := (co "pivots" 524 127 4 3 279 true 280 .none .none .none (.ref 281) 527)
def o283 : Obj := (fo 48 "pivots" "trueword.best" 452 282)
def o287 : Obj := (co "dealt_places" 532 131 4 3 284 true 285 .none .none .none (.ref 286) 535)
def o288 : Obj := (fo 50 "dealt_places" "trueword.tables" 530 287)
def o292 : Obj := (co "worths_at" 538 134 2 3 289 true 290 .none .none .none (.ref 291) 541)
def o293 : Obj := (fo 51 "worths_at" "trueword.tables" 530 292)
def o297 : Obj := (co "grid_of" 544 136 4 3 294 true 295 .none .none .none (.ref 296) 547)
def o298 : Obj := (fo 52 "grid_of" "trueword.tables" 530 297)
def o304 : Obj := (co "total_of" 552 140 1 3 299 true 300 .none (.ref 301) (.ref 302) (.ref 303) 556)
def o305 : Obj := (fo 54 "total_of" "trueword.rings" 550 304)
def o311 : Obj := (co "words_of" 559 142 1 3 306 true 307 .none (.ref 308) (.ref 309) (.ref 310) 563)
def o312 : Obj := (fo 55 "words_of" "trueword.rings" 550 311)
def o316 : Obj := (co "walks_of_one_turn" 566 144 2 3 313 true 314 .none .none .none (.ref 315) 569)
def o317 : Obj := (fo 56 "walks_of_one_turn" "trueword.rings" 550 316)
def o321 : Obj := (co "least_to" 572 146 3 3 318 true 319 .none .none .none (.ref 320) 575)
def o322 : Obj := (fo 57 "least_to" "trueword.rings" 550 321)
def o326 : Obj := (co "lengthened" 578 149 2 3 323 true 324 .none .none .none (.ref 325) 581)
def o327 : Obj := (fo 58 "lengthened" "trueword.rings" 550 326)
def o331 : Obj := (co "after_a_turn" 584 151 3 3 328 true 329 .none .none .none (.ref 330) 587)
def o332 : Obj := (fo 59 "after_a_turn" "trueword.rings" 550 331)
def o336 : Obj := (co "has_honest" 590 153 1 3 333 true 334 .none .none .none (.ref 335) 593)
def o337 : Obj := (fo 60 "has_honest" "trueword.rings" 550 336)
def o343 : Obj := (co "closed_below_zero" 596 158 1 3 338 true 339 .none (.ref 340) (.ref 341) (.ref 342) 602)
def o344 : Obj := (fo 61 "closed_below_zero" "trueword.rings" 550 343)
def o348 : Obj := (co "ring" 605 163 1 3 345 true 346 .none .none .none (.ref 347) 608)
def o349 : Obj := (fo 62 "ring" "trueword.rings" 550 348)
def o355 : Obj := (co "refuse_ring" 613 174 1 3 350 true 351 .none (.ref 352) (.ref 353) (.ref 354) 617)
def o356 : Obj := (fo 64 "refuse_ring" "trueword.roads" 611 355)
def o362 : Obj := (co "lesser" 620 177 2 3 357 true 358 .none (.ref 359) (.ref 360) (.ref 361) 625)
def o363 : Obj := (fo 65 "lesser" "trueword.roads" 611 362)
def o367 : Obj := (co "least_roads" 628 179 2 3 364 true 365 .none .none .none (.ref 366) 631)
def o368 : Obj := (fo 66 "least_roads" "trueword.roads" 611 367)
def o372 : Obj := (co "greatest" 636 184 1 3 369 true 370 .none .none .none (.ref 371) 639)
def o373 : Obj := (fo 68 "greatest" "trueword.pays" 634 372)
def o379 : Obj := (co "_law_cell" 644 189 2 3 374 true 375 .none (.ref 376) (.ref 377) (.ref 378) 649)
def o380 : Obj := (fo 70 "_law_cell" "law_trueword_k55_whole_pivots_are_honest" 642 379)
def o386 : Obj := (co "_law_number" 652 193 2 3 381 true 382 .none (.ref 383) (.ref 384) (.ref 385) 657)
def o387 : Obj := (fo 71 "_law_number" "law_trueword_k55_whole_pivots_are_honest" 642 386)
def o391 : Obj := (co "_law_names" 660 201 2 3 388 true 389 .none .none .none (.ref 390) 663)
def o392 : Obj := (fo 72 "_law_names" "law_trueword_k55_whole_pivots_are_honest" 642 391)
def o396 : Obj := (co "_law_hands" 666 212 3 3 393 true 394 .none .none .none (.ref 395) 669)
def o397 : Obj := (fo 73 "_law_hands" "law_trueword_k55_whole_pivots_are_honest" 642 396)
def o403 : Obj := (co "_law_rows" 672 225 1 3 398 true 399 .none (.ref 400) (.ref 401) (.ref 402) 681)
def o404 : Obj := (fo 74 "_law_rows" "law_trueword_k55_whole_pivots_are_honest" 642 403)
def o410 : Obj := (co "_law_worths" 684 234 2 3 405 true 406 .none (.ref 407) (.ref 408) (.ref 409) 689)
def o411 : Obj := (fo 75 "_law_worths" "law_trueword_k55_whole_pivots_are_honest" 642 410)
def o415 : Obj := (co "_law_weights" 692 236 2 3 412 true 413 .none .none .none (.ref 414) 695)
def o416 : Obj := (fo 76 "_law_weights" "law_trueword_k55_whole_pivots_are_honest" 642 415)
def o420 : Obj := (co "_law_handicaps" 698 238 2 3 417 true 418 .none .none .none (.ref 419) 701)
def o421 : Obj := (fo 77 "_law_handicaps" "law_trueword_k55_whole_pivots_are_honest" 642 420)
def o427 : Obj := (co "_law_scores" 704 240 4 3 422 true 423 .none (.ref 424) (.ref 425) (.ref 426) 715)
def o428 : Obj := (fo 78 "_law_scores" "law_trueword_k55_whole_pivots_are_honest" 642 427)
def o432 : Obj := (co "_law_column" 718 247 5 3 429 true 430 .none .none .none (.ref 431) 721)
def o433 : Obj := (fo 79 "_law_column" "law_trueword_k55_whole_pivots_are_honest" 642 432)
def o439 : Obj := (co "_law_honest" 724 250 3 3 434 true 435 .none (.ref 436) (.ref 437) (.ref 438) 733)
def o440 : Obj := (fo 80 "_law_honest" "law_trueword_k55_whole_pivots_are_honest" 642 439)
def o444 : Obj := (co "_law_low" 736 257 1 3 441 true 442 .none .none .none (.ref 443) 739)
def o445 : Obj := (fo 81 "_law_low" "law_trueword_k55_whole_pivots_are_honest" 642 444)
def o451 : Obj := (co "_law_bounded" 742 259 4 3 446 true 447 .none (.ref 448) (.ref 449) (.ref 450) 750)
def o452 : Obj := (fo 82 "_law_bounded" "law_trueword_k55_whole_pivots_are_honest" 642 451)
def o456 : Obj := (co "law" 753 264 1 3 453 true 454 .none .none .none (.ref 455) 756)
def o457 : Obj := (fo 83 "law" "law_trueword_k55_whole_pivots_are_honest" 642 456)
def t2 (P : Params) : BT := ia (((t1 P).set 3 fun _ => o3_1 P).set 12 fun _ => ⟨.none, none, (.fields #[(.int (2) 0), (.int (0) 0), (.ref 20), (.int (4) 0), (.int (0) 0), (.ref 33), (.int (6) 0), (.int (0) 0), (.ref 45), (.int (8) 0), (.int (0) 0), (.ref 57), (.int (12) 0), (.int (0) 0), (.ref 69), (.int (14) 0), (.int (0) 0), (.ref 76), (.int (16) 0), (.int (0) 0), (.ref 81), (.int (20) 0), (.int (0) 0), (.ref 88), (.int (22) 0), (.int (0) 0), (.ref 95), (.int (24) 0), (.int (0) 0), (.ref 102), (.int (36) 0), (.int (0) 0), (.ref 107), (.int (40) 0), (.int (0) 0), (.ref 112), (.int (44) 0), (.int (0) 0), (.ref 117), (.int (48) 0), (.int (0) 0), (.ref 124), (.int (52) 0), (.int (0) 0), (.ref 131), (.int (54) 0), (.int (0) 0), (.ref 136), (.int (56) 0), (.int (0) 0), (.ref 143), (.int (58) 0), (.int (0) 0), (.ref 150), (.int (60) 0), (.int (0) 0), (.ref 157), (.int (62) 0), (.int (0) 0), (.ref 164), (.int (67) 0), (.int (0) 0), (.ref 169), (.int (73) 0), (.int (0) 0), (.ref 174), (.int (76) 0), (.int (0) 0), (.ref 179), (.int (80) 0), (.int (0) 0), (.ref 186), (.int (82) 0), (.int (0) 0), (.ref 193), (.int (84) 0), (.int (0) 0), (.ref 198), (.int (89) 0), (.int (0) 0), (.ref 205), (.int (94) 0), (.int (0) 0), (.ref 212), (.int (96) 0), (.int (0) 0), (.ref 219), (.int (99) 0), (.int (0) 0), (.ref 224), (.int (101) 0), (.int (0) 0), (.ref 231), (.int (103) 0), (.int (0) 0), (.ref 238), (.int (108) 0), (.int (0) 0), (.ref 243), (.int (110) 0), (.int (0) 0), (.ref 248), (.int (112) 0), (.int (0) 0), (.ref 253), (.int (118) 0), (.int (0) 0), (.ref 260), (.int (120) 0), (.int (0) 0), (.ref 267), (.int (122) 0), (.int (0) 0), (.ref 272), (.int (124) 0), (.int (0) 0), (.ref 277), (.int (127) 0), (.int (0) 0), (.ref 282), (.int (131) 0), (.int (0) 0), (.ref 287), (.int (134) 0), (.int (0) 0), (.ref 292), (.int (136) 0), (.int (0) 0), (.ref 297), (.int (140) 0), (.int (0) 0), (.ref 304), (.int (142) 0), (.int (0) 0), (.ref 311), (.int (144) 0), (.int (0) 0), (.ref 316), (.int (146) 0), (.int (0) 0), (.ref 321), (.int (149) 0), (.int (0) 0), (.ref 326), (.int (151) 0), (.int (0) 0), (.ref 331), (.int (153) 0), (.int (0) 0), (.ref 336), (.int (158) 0), (.int (0) 0), (.ref 343), (.int (163) 0), (.int (0) 0), (.ref 348), (.int (174) 0), (.int (0) 0), (.ref 355), (.int (177) 0), (.int (0) 0), (.ref 362), (.int (179) 0), (.int (0) 0), (.ref 367), (.int (184) 0), (.int (0) 0), (.ref 372), (.int (189) 0), (.int (0) 0), (.ref 379), (.int (193) 0), (.int (0) 0), (.ref 386), (.int (201) 0), (.int (0) 0), (.ref 391), (.int (212) 0), (.int (0) 0), (.ref 396), (.int (225) 0), (.int (0) 0), (.ref 403), (.int (234) 0), (.int (0) 0), (.ref 410), (.int (236) 0), (.int (0) 0), (.ref 415), (.int (238) 0), (.int (0) 0), (.ref 420), (.int (240) 0), (.int (0) 0), (.ref 427), (.int (247) 0), (.int (0) 0), (.ref 432), (.int (250) 0), (.int (0) 0), (.ref 439), (.int (257) 0), (.int (0) 0), (.ref 444), (.int (259) 0), (.int (0) 0), (.ref 451), (.int (264) 0), (.int (0) 0), (.ref 456)]), #[]⟩) 195 [oE, oF, (xo 33 "with_each"), o198, o199, oE, oF, (ts 430 ["hands", "rows", "hand"]), oE, (xo 34 "rows_over"), o205, o206, oE, oF, (ts 439 ["house"]), oE, (xo 35 "rows_of"), o212, o213, oE, oF, (ts 446 ["others", "k", "word"]), oE, (xo 36 "row_with"), o219, o220, oE, oF, (xo 38 "are_weights"), o224, o225, oE, oF, (ts 463 ["house", "thing"]), oE, (xo 39 "are_handicaps"), o231, o232, oE, oF, (ts 471 ["house", "weights", "handicaps"]), oE, (xo 40 "refuse_weights"), o238, o239, oE, oF, (xo 41 "part_of"), o243, o244, oE, oF, (xo 42 "parts_of"), o248, o249, oE, oF, (xo 43 "scores"), o253, o254, oE, oF, (ts 498 ["totals"]), oE, (xo 44 "best_place"), o260, o261, oE, oF, (ts 505 ["house", "weights", "handicaps", "row"]), oE, (xo 45 "best_outcome"), o267, o268, oE, oF, (xo 46 "best_table"), o272, o273, oE, oF, (xo 47 "pivot"), o277, o278, oE, oF, (xo 48 "pivots"), o282, o283, oE, oF, (xo 50 "dealt_places"), o287, o288, oE, oF, (xo 51 "worths_at"), o292, o293, oE, oF, (xo 52 "grid_of"), o297, o298, oE, oF, (ts 555 ["walk"]), oE, (xo 54 "total_of"), o304, o305, oE, oF, (ts 562 ["walk"]), oE, (xo 55 "words_of"), o311, o312, oE, oF, (xo 56 "walks_of_one_turn"), o316, o317, oE, oF, (xo 57 "least_to"), o321, o322, oE, oF, (xo 58 "lengthened"), o326, o327, oE, oF, (xo 59 "after_a_turn"), o331, o332, oE, oF, (xo 60 "has_honest"), o336, o337, oE, oF, (ts 599 ["rows", "s", "walks"]), oE, (xo 61 "closed_below_zero"), o343, o344, oE, oF, (xo 62 "ring"), o348, o349, oE, oF, (ts 616 ["grid"]), oE, (xo 64 "refuse_ring"), o355, o356, oE, oF, (ts 623 ["walk", "longer"]), oE, (xo 65 "lesser"), o362, o363, oE, oF, (xo 66 "least_roads"), o367, o368, oE, oF, (xo 68 "greatest"), o372, o373, oE, oF, (ts 647 ["script", "k"]), oE, (xo 70 "_law_cell"), o379, o380, oE, oF, (ts 655 ["cell", "top"]), oE, (xo 71 "_law_number"), o386, o387, oE, oF, (xo 72 "_law_names"), o391, o392, oE, oF, (xo 73 "_law_hands"), o396, o397, oE, oF, (ts 675 ["hands", "rows", "hand", "longer_ones", "row", "word"]), oE, (xo 74 "_law_rows"), o403, o404, oE, oF, (ts 687 ["hand", "word"]), oE, (xo 75 "_law_worths"), o410, o411, oE, oF, (xo 76 "_law_weights"), o415, o416, oE, oF, (xo 77 "_law_handicaps"), o420, o421, oE, oF, (ts 707 ["hands", "weights", "handicaps", "row", "found", "k", "worths", "j"]), oE, (xo 78 "_law_scores"), o427, o428, oE, oF, (xo 79 "_law_column"), o432, o433, oE, oF, (ts 727 ["grid", "weight", "pays", "t", "s", "more"]), oE, (xo 80 "_law_honest"), o439, o440, oE, oF, (xo 81 "_law_low"), o444, o445, oE, oF, (ts 745 ["grid", "weight", "pays", "high", "t"]), oE, (xo 82 "_law_bounded"), o451, o452, oE, oF, (xo 83 "law"), o456, o457]
def hf (P : Params) : Heap := absHeap (t2 P) 458 (lf P)
def s0 (w : World) (os : OsState) : SharedT := ⟨t0 w.params, 15, lf w.params, Array.mk [], boot_drawn, 187, os⟩
def s1 (w : World) (os : OsState) : SharedT := ⟨t1 w.params, 195, lf w.params, Array.mk [], boot_drawn, 421, os⟩
def s2 (w : World) (os : OsState) : SharedT := ⟨t2 w.params, 458, lf w.params, Array.mk [], boot_drawn, 759, os⟩
def l0 : List Stmt := (pr.main.body.drop 0).take 33
def l1 : List Stmt := (pr.main.body.drop 33).take 51
theorem bs : behindTheImports pr = l0 ++ (l1 ++ ([])) := by kernel_rfl
theorem r_pre (w : World) (os : OsState) : topGo treeTable pr w 11 (some (.ref 6)) 12 ⟨boot_heap w.params, Array.mk [], boot_drawn, boot_toks, os⟩ (topStub pr) = some (⟨ha w.params, Array.mk [], boot_drawn, 187, os⟩, ⟨denote treeTable cd, cd, ⟨0, 0, 0, 0⟩, [topFrame qp]⟩) := by kernel_rfl
theorem zg7 (w : World) (os : OsState) : segRun treeTable pr w 11 (some (.ref 6)) 1 1 ⟨ha w.params, Array.mk [], boot_drawn, 187, os⟩ (blockOf (behindTheImports pr) env cd ⟨0, 0, 0, 0⟩ [topFrame qp]) = some (.next, (s0 w os).abs, cd, ⟨0, 0, 0, 0⟩) := by kernel_rfl
theorem r0 (w : World) (os : OsState) : segRunT treeTable pr w 11 (some (.ref 6)) 1 1496 (s0 w os) (piecesOf l0 env cd ⟨0, 0, 0, 0⟩ [topFrame qp]) = some (.next, s1 w os, cd, ⟨82, 0, 83, 19⟩) := by
  rw [PySem.W.Fast.te10110043849684766642, PySem.W.Fast.te14364793385576792824]; kernel_rfl
theorem r1 (w : World) (os : OsState) : segRunT treeTable pr w 11 (some (.ref 6)) 1 1319 (s1 w os) (piecesOf l1 env cd ⟨82, 0, 83, 19⟩ [topFrame qp]) = some (.next, s2 w os, cd, ⟨264, 0, 284, 15⟩) := by
  rw [PySem.W.Fast.te10110043849684766642, PySem.W.Fast.te14364793385576792824]; kernel_rfl
theorem r_fin (w : World) (os : OsState) : topRun treeTable pr w 11 (some (.ref 6)) 2 (s2 w os).abs ⟨doneF .next, cd, ⟨264, 0, 284, 15⟩, [topFrame qp]⟩ = some ⟨hf w.params, Array.mk [], boot_drawn, 759, os⟩ := by kernel_rfl
theorem r_rest (w : World) (os : OsState) : topRun treeTable pr w 11 (some (.ref 6)) (1496 + (1319 + (2))) (s0 w os).abs (restOf (behindTheImports pr) env cd ⟨0, 0, 0, 0⟩ [topFrame qp]) = some ⟨hf w.params, Array.mk [], boot_drawn, 759, os⟩ := by
  have k := piece_app (segRun_of (r0 w os)) (piece_app (segRun_of (r1 w os)) (piece_nil (r_fin w os)));exact (congrArg (fun b => topRun treeTable pr w 11 (some (.ref 6)) (1496 + (1319 + (2))) (s0 w os).abs (restOf b env cd ⟨0, 0, 0, 0⟩ [topFrame qp])) bs).trans k
theorem r_all (w : World) (os : OsState) : topRun treeTable pr w 11 (some (.ref 6)) (12 + (1 + (1496 + (1319 + (2))))) ⟨boot_heap w.params, Array.mk [], boot_drawn, boot_toks, os⟩ (topStub pr) = some ⟨hf w.params, Array.mk [], boot_drawn, 759, os⟩ := go_top (r_pre w os) (piece_block (zg7 w os) (r_rest w os))
def ks : List Addr := [3, 13, 17, 20, 23, 24, 30, 33, 36, 37, 42, 45, 48, 49, 54, 57, 60, 61, 69, 70, 76, 77, 81, 82, 88, 89, 95, 96, 102, 103, 107, 108, 112, 113, 117, 118, 124, 125, 131, 132, 136, 137, 143, 144, 150, 151, 157, 158, 164, 165, 169, 170, 174, 175, 179, 180, 186, 187, 193, 194, 198, 199, 205, 206, 212, 213, 219, 220, 224, 225, 231, 232, 238, 239, 243, 244, 248, 249, 253, 254, 260, 261, 267, 268, 272, 273, 277, 278, 282, 283, 287, 288, 292, 293, 297, 298, 304, 305, 311, 312, 316, 317, 321, 322, 326, 327, 331, 332, 336, 337, 343, 344, 348, 349, 355, 356, 362, 363, 367, 368, 372, 373, 379, 380, 386, 387, 391, 392, 396, 397, 403, 404, 410, 411, 415, 416, 420, 421, 427, 428, 432, 433, 439, 440, 444, 445, 451, 452, 456, 457]
def K : Params -> Frag := fun P => (nat_lit 3, o3_1 P) :: (nat_lit 13, o13) :: (nat_lit 17, o17 P) :: (nat_lit 20, o20) :: (nat_lit 23, o23 P) :: (nat_lit 24, o24) :: (nat_lit 30, o30 P) :: (nat_lit 33, o33) :: (nat_lit 36, o36 P) :: (nat_lit 37, o37) :: (nat_lit 42, o42 P) :: (nat_lit 45, o45) :: (nat_lit 48, o48 P) :: (nat_lit 49, o49) :: (nat_lit 54, o54 P) :: (nat_lit 57, o57) :: (nat_lit 60, o60 P) :: (nat_lit 61, o61) :: (nat_lit 69, o69) :: (nat_lit 70, o70) :: (nat_lit 76, o76) :: (nat_lit 77, o77) :: (nat_lit 81, o81) :: (nat_lit 82, o82) :: (nat_lit 88, o88) :: (nat_lit 89, o89) :: (nat_lit 95, o95) :: (nat_lit 96, o96) :: (nat_lit 102, o102) :: (nat_lit 103, o103) :: (nat_lit 107, o107) :: (nat_lit 108, o108) :: (nat_lit 112, o112) :: (nat_lit 113, o113) :: (nat_lit 117, o117) :: (nat_lit 118, o118) :: (nat_lit 124, o124) :: (nat_lit 125, o125) :: (nat_lit 131, o131) :: (nat_lit 132, o132) :: (nat_lit 136, o136) :: (nat_lit 137, o137) :: (nat_lit 143, o143) :: (nat_lit 144, o144) :: (nat_lit 150, o150) :: (nat_lit 151, o151) :: (nat_lit 157, o157) :: (nat_lit 158, o158) :: (nat_lit 164, o164) :: (nat_lit 165, o165) :: (nat_lit 169, o169) :: (nat_lit 170, o170) :: (nat_lit 174, o174) :: (nat_lit 175, o175) :: (nat_lit 179, o179) :: (nat_lit 180, o180) :: (nat_lit 186, o186) :: (nat_lit 187, o187) :: (nat_lit 193, o193) :: (nat_lit 194, o194) :: (nat_lit 198, o198) :: (nat_lit 199, o199) :: (nat_lit 205, o205) :: (nat_lit 206, o206) :: (nat_lit 212, o212) :: (nat_lit 213, o213) :: (nat_lit 219, o219) :: (nat_lit 220, o220) :: (nat_lit 224, o224) :: (nat_lit 225, o225) :: (nat_lit 231, o231) :: (nat_lit 232, o232) :: (nat_lit 238, o238) :: (nat_lit 239, o239) :: (nat_lit 243, o243) :: (nat_lit 244, o244) :: (nat_lit 248, o248) :: (nat_lit 249, o249) :: (nat_lit 253, o253) :: (nat_lit 254, o254) :: (nat_lit 260, o260) :: (nat_lit 261, o261) :: (nat_lit 267, o267) :: (nat_lit 268, o268) :: (nat_lit 272, o272) :: (nat_lit 273, o273) :: (nat_lit 277, o277) :: (nat_lit 278, o278) :: (nat_lit 282, o282) :: (nat_lit 283, o283) :: (nat_lit 287, o287) :: (nat_lit 288, o288) :: (nat_lit 292, o292) :: (nat_lit 293, o293) :: (nat_lit 297, o297) :: (nat_lit 298, o298) :: (nat_lit 304, o304) :: (nat_lit 305, o305) :: (nat_lit 311, o311) :: (nat_lit 312, o312) :: (nat_lit 316, o316) :: (nat_lit 317, o317) :: (nat_lit 321, o321) :: (nat_lit 322, o322) :: (nat_lit 326, o326) :: (nat_lit 327, o327) :: (nat_lit 331, o331) :: (nat_lit 332, o332) :: (nat_lit 336, o336) :: (nat_lit 337, o337) :: (nat_lit 343, o343) :: (nat_lit 344, o344) :: (nat_lit 348, o348) :: (nat_lit 349, o349) :: (nat_lit 355, o355) :: (nat_lit 356, o356) :: (nat_lit 362, o362) :: (nat_lit 363, o363) :: (nat_lit 367, o367) :: (nat_lit 368, o368) :: (nat_lit 372, o372) :: (nat_lit 373, o373) :: (nat_lit 379, o379) :: (nat_lit 380, o380) :: (nat_lit 386, o386) :: (nat_lit 387, o387) :: (nat_lit 391, o391) :: (nat_lit 392, o392) :: (nat_lit 396, o396) :: (nat_lit 397, o397) :: (nat_lit 403, o403) :: (nat_lit 404, o404) :: (nat_lit 410, o410) :: (nat_lit 411, o411) :: (nat_lit 415, o415) :: (nat_lit 416, o416) :: (nat_lit 420, o420) :: (nat_lit 421, o421) :: (nat_lit 427, o427) :: (nat_lit 428, o428) :: (nat_lit 432, o432) :: (nat_lit 433, o433) :: (nat_lit 439, o439) :: (nat_lit 440, o440) :: (nat_lit 444, o444) :: (nat_lit 445, o445) :: (nat_lit 451, o451) :: (nat_lit 452, o452) :: (nat_lit 456, o456) :: (nat_lit 457, o457) :: []
theorem ke (P : Params) : ks = (K P).map (·.1) := by kernel_rfl
def lo : List Str := pr.main.scope.names.map (·.1)
def vw : Program := { pr with main := { pr.main with body := [Mine.nz] } }
def fs (w : World) (os : OsState) : Shared := ⟨hf w.params, Array.mk [], boot_drawn, 759, os⟩
theorem z_size (w : World) : ((boot_heap w.params).isNs mainGlobals && (Array.mk [] : Array GenState).size == 0, (boot_heap w.params).objs.size, (boot_heap w.params).nsMap mainGlobals "__annotations__") = (true, 11, (some (.ref 6))) := by kernel_rfl
theorem z_one (w : World) (os : OsState) : (staticsOk (importedModules pr.main.body) (boot_heap w.params) (hf w.params) && namesBound pr (hf w.params) && gensDone (fs w os) && laidKept (boot_heap w.params) (hf w.params)) = true := by kernel_rfl
theorem z_two (w : World) (os : OsState) : openSeen vw lo (importedModules pr.main.body) (fun _ => true) true (fs w os) = openGood vw lo := by
  rw [PySem.W.Fast.te4187177175401517315]; kernel_rfl
theorem zhi (w : World) (os : OsState) : (kHook K ks ke).obs (fs w os) = (kHook K ks ke).val w := by kernel_rfl
theorem z_open : opening pr = plainProg pr.main.scope.names := by kernel_rfl
theorem zh5 (s : Shared) : fenceModules? pr s = some s := by kernel_rfl
theorem left : LeftO pr vw lo (fun _ => true) (kHook K ks ke).obs (kHook K ks ke).val 1000000 :=
  LeftO.of_pieces (boot_open z_open rfl zh5) z_size r_all rfl fun w => funext fun os => looks_pair (z_one w os) (looks_pair (z_two w os) (zhi w os))
end
end Tp
open PySem PySem.W PyProof.Rows
set_option maxRecDepth 100000 in
set_option maxHeartbeats 0 in
theorem PySem.Challenge.cw_trueword_k55_whole_pivots_are_honest_holds : PySem.Challenge.rw_trueword_k55_whole_pivots_are_honest.Holds := by
  refine holds_law (by rw [PySem.W.Fast.te9446332074065402090]; kernel_rfl) fun said => ?_
  refine holds_open (q := Tp.vw) (loose := Tp.lo) (Xt := fun _ => true) (XP := fun _ _ => True) (Yf := (kHook Tp.K Tp.ks Tp.ke).obs) (Ya := (kHook Tp.K Tp.ks Tp.ke).val) (YP := (kHook Tp.K Tp.ks Tp.ke).says) (N := 1000000) Tp.left (kHook Tp.K Tp.ks Tp.ke).of (kHook Tp.K Tp.ks Tp.ke).keeps (fun _ _ => trivial) (fun _ _ _ _ _ => trivial) (by rfl) (by rfl) (by rfl) (fun _ _ => recFacts_nil rfl) (by rfl) said (by decide +kernel) ⟨rfl, rfl, rfl, rfl, rfl, by decide +kernel⟩ ?hw ?hc
  case hw => w_witness2
  k_fill
  refine L2.zf2 (l := PySem.Challenge.rw_trueword_k55_whole_pivots_are_honest) (n := 63) (k := 9) (x := "script") (CX := L2.CX0) (sp := Mine.zdd) rfl (by decide) rfl ⟨rfl, by decide, by decide⟩ (fun w h Y => PySem.W.kIn_of Y) ?F ?S ?C
  case F =>
    intro w mg fa h KX G hmg
    have N : mg "abs" = none /\ mg "all" = none /\ mg "bool" = none /\ mg "dict" = none /\ mg "enumerate" = none /\ mg "int" = none /\ mg "isinstance" = none /\ mg "len" = none /\ mg "list" = none /\ mg "max" = none /\ mg "min" = none /\ mg "range" = none /\ mg "set" = none /\ mg "str" = none /\ mg "tuple" = none /\ mg "zip" = none /\ True := by
      refine ⟨?_, ?_, ?_, ?_, ?_, ?_, ?_, ?_, ?_, ?_, ?_, ?_, ?_, ?_, ?_, ?_, trivial⟩ <;> (refine' PySem.W.mg_none_of KX G ?a; (case a => k_is))
    obtain ⟨n_abs, n_all, n_bool, n_dict, n_enumerate, n_int, n_isinstance, n_len, n_list, n_max, n_min, n_range, n_set, n_str, n_tuple, n_zip, -⟩ := N;have k0_MOST_WORDS := PySem.W.mg_of (n := "MOST_WORDS") KX G (by k_is);have k_MOST_WORDS : ∃ t, mg "MOST_WORDS" = some (Value.int 8 t) := ⟨_, k0_MOST_WORDS⟩;have k0_MOST_LETTERS := PySem.W.mg_of (n := "MOST_LETTERS") KX G (by k_is);have k_MOST_LETTERS : ∃ t, mg "MOST_LETTERS" = some (Value.int 8 t) := ⟨_, k0_MOST_LETTERS⟩;have k0_MOST_OUTCOMES := PySem.W.mg_of (n := "MOST_OUTCOMES") KX G (by k_is);have k_MOST_OUTCOMES : ∃ t, mg "MOST_OUTCOMES" = some (Value.int 8 t) := ⟨_, k0_MOST_OUTCOMES⟩;have k0_MOST_HANDS := PySem.W.mg_of (n := "MOST_HANDS") KX G (by k_is);have k_MOST_HANDS : ∃ t, mg "MOST_HANDS" = some (Value.int 4 t) := ⟨_, k0_MOST_HANDS⟩;have k0_MOST_ROWS := PySem.W.mg_of (n := "MOST_ROWS") KX G (by k_is);have k_MOST_ROWS : ∃ t, mg "MOST_ROWS" = some (Value.int 256 t) := ⟨_, k0_MOST_ROWS⟩;have B : Mine.Bt mg := ⟨n_abs, n_all, n_bool, n_dict, n_enumerate, n_int, n_isinstance, n_len, n_list, n_max, n_min, n_range, n_set, n_str, n_tuple, n_zip, k_MOST_WORDS, k_MOST_LETTERS, k_MOST_OUTCOMES, k_MOST_HANDS, k_MOST_ROWS⟩;have z_NoHouse := L2.zaf (name := "NoHouse") KX G (by k_is) (by k_exc) (by k_is) (by k_is) (by k_is);have z_NoWeight := L2.zaf (name := "NoWeight") KX G (by k_is) (by k_exc) (by k_is) (by k_is) (by k_is);have z_NoPays := L2.zaf (name := "NoPays") KX G (by k_is) (by k_exc) (by k_is) (by k_is) (by k_is);have C := Mine.Ct.mk (mg := mg) (a := ⟨_, _, _⟩) (z_NoHouse.1) (z_NoHouse.2) (z_NoWeight.1) (z_NoWeight.2) (z_NoPays.1) (z_NoPays.2)
    have D : L2.zc (L2.KOf KX) mg "is_whole" Mine.p0 ["thing"] /\ L2.zc (L2.KOf KX) mg "is_bounded" Mine.re ["thing"] /\ L2.zc (L2.KOf KX) mg "is_grid_row" Mine.u0 ["thing", "width"] /\ L2.zc (L2.KOf KX) mg "turn" Mine.fb ["grid", "s", "t"] /\ L2.zc (L2.KOf KX) mg "gain" Mine.fi ["grid", "pays", "t", "s"] /\ L2.zc (L2.KOf KX) mg "first_gain" Mine.sw ["grid", "pays"] /\ L2.zc (L2.KOf KX) mg "is_name" Mine.ni ["thing"] /\ L2.zc (L2.KOf KX) mg "are_names" Mine.qf ["thing", "most"] /\ L2.zc (L2.KOf KX) mg "are_worths" Mine.sx ["thing", "height", "width"] /\ L2.zc (L2.KOf KX) mg "is_hand" Mine.mh ["thing", "width"] /\ L2.zc (L2.KOf KX) mg "name_of" Mine.nt ["hand"] /\ L2.zc (L2.KOf KX) mg "names_of" Mine.q9 ["hands"] /\ L2.zc (L2.KOf KX) mg "words_of_hand" Mine.w5 ["hand"] /\ L2.zc (L2.KOf KX) mg "worths_of_hand" Mine.wf ["hand"] /\ L2.zc (L2.KOf KX) mg "worths_by" Mine.qd ["hand", "word"] /\ L2.zc (L2.KOf KX) mg "count_of_rows" Mine.vv ["hands"] /\ L2.zc (L2.KOf KX) mg "makes_house" Mine.u9 ["outcomes", "hands"] /\ L2.zc (L2.KOf KX) mg "kept_hand" Mine.qi ["hand"] /\ L2.zc (L2.KOf KX) mg "house_of" Mine.pk ["outcomes", "hands"] /\ L2.zc (L2.KOf KX) mg "outcomes_of" Mine.uy ["house"] /\ L2.zc (L2.KOf KX) mg "hands_of" Mine.p8 ["house"] /\ L2.zc (L2.KOf KX) mg "with_each" Mine.rp ["rows", "words"] /\ L2.zc (L2.KOf KX) mg "rows_over" Mine.r6 ["hands"] /\ L2.zc (L2.KOf KX) mg "rows_of" Mine.me ["house"] /\ L2.zc (L2.KOf KX) mg "row_with" Mine.pq ["others", "k", "word"] /\ L2.zc (L2.KOf KX) mg "are_weights" Mine.ux ["house", "thing"] /\ L2.zc (L2.KOf KX) mg "are_handicaps" Mine.vz ["house", "thing"] /\ L2.zc (L2.KOf KX) mg "refuse_weights" Mine.vf ["house", "weights", "handicaps"] /\ L2.zc (L2.KOf KX) mg "part_of" Mine.ma ["hand", "weight", "word"] /\ L2.zc (L2.KOf KX) mg "parts_of" Mine.px ["house", "weights", "row"] /\ L2.zc (L2.KOf KX) mg "scores" Mine.kg ["house", "weights", "handicaps", "row"] /\ L2.zc (L2.KOf KX) mg "best_place" Mine.ra ["totals"] /\ L2.zc (L2.KOf KX) mg "best_outcome" Mine.ug ["house", "weights", "handicaps", "row"] /\ L2.zc (L2.KOf KX) mg "best_table" Mine.t9 ["house", "weights", "handicaps"] /\ L2.zc (L2.KOf KX) mg "pivot" Mine.j5 ["totals", "part"] /\ L2.zc (L2.KOf KX) mg "pivots" Mine.km ["house", "weights", "handicaps", "row"] /\ L2.zc (L2.KOf KX) mg "dealt_places" Mine.uh ["house", "table", "k", "others"] /\ L2.zc (L2.KOf KX) mg "worths_at" Mine.r9 ["worths", "places"] /\ L2.zc (L2.KOf KX) mg "grid_of" Mine.mf ["house", "table", "k", "others"] /\ L2.zc (L2.KOf KX) mg "total_of" Mine.pc ["walk"] /\ L2.zc (L2.KOf KX) mg "words_of" Mine.p6 ["walk"] /\ L2.zc (L2.KOf KX) mg "walks_of_one_turn" Mine.wp ["grid", "s"] /\ L2.zc (L2.KOf KX) mg "least_to" Mine.sf ["grid", "walks", "t"] /\ L2.zc (L2.KOf KX) mg "lengthened" Mine.v7 ["grid", "walks"] /\ L2.zc (L2.KOf KX) mg "after_a_turn" Mine.ui ["grid", "totals", "t"] /\ L2.zc (L2.KOf KX) mg "has_honest" Mine.sd ["grid"] /\ L2.zc (L2.KOf KX) mg "closed_below_zero" Mine.wq ["rows"] /\ L2.zc (L2.KOf KX) mg "ring" Mine.g0 ["grid"] /\ L2.zc (L2.KOf KX) mg "refuse_ring" Mine.uz ["grid"] /\ L2.zc (L2.KOf KX) mg "lesser" Mine.k8 ["walk", "longer"] /\ L2.zc (L2.KOf KX) mg "least_roads" Mine.u8 ["grid", "walks"] /\ L2.zc (L2.KOf KX) mg "greatest" Mine.pz ["grid"] /\ L2.zc (L2.KOf KX) mg "_law_cell" Mine.pj ["script", "k"] /\ L2.zc (L2.KOf KX) mg "_law_number" Mine.sh ["cell", "top"] /\ L2.zc (L2.KOf KX) mg "_law_names" Mine.yg ["cell", "many"] /\ L2.zc (L2.KOf KX) mg "_law_hands" Mine.rq ["script", "places", "top"] /\ L2.zc (L2.KOf KX) mg "_law_rows" Mine.ph ["hands"] /\ L2.zc (L2.KOf KX) mg "_law_weights" Mine.u7 ["script", "many"] /\ L2.zc (L2.KOf KX) mg "_law_handicaps" Mine.vx ["script", "places"] /\ L2.zc (L2.KOf KX) mg "_law_column" Mine.rc ["hands", "outcomes", "table", "k", "others"] /\ L2.zc (L2.KOf KX) mg "_law_honest" Mine.si ["grid", "weight", "pays"] /\ L2.zc (L2.KOf KX) mg "_law_low" Mine.nk ["hand"] /\ L2.zc (L2.KOf KX) mg "_law_bounded" Mine.uw ["grid", "weight", "pays", "high"] /\ L2.zc (L2.KOf KX) mg "law" Mine.nz ["script"] /\ True := by
      refine ⟨?_, ?_, ?_, ?_, ?_, ?_, ?_, ?_, ?_, ?_, ?_, ?_, ?_, ?_, ?_, ?_, ?_, ?_, ?_, ?_, ?_, ?_, ?_, ?_, ?_, ?_, ?_, ?_, ?_, ?_, ?_, ?_, ?_, ?_, ?_, ?_, ?_, ?_, ?_, ?_, ?_, ?_, ?_, ?_, ?_, ?_, ?_, ?_, ?_, ?_, ?_, ?_, ?_, ?_, ?_, ?_, ?_, ?_, ?_, ?_, ?_, ?_, ?_, ?_, trivial⟩ <;> (dsimp only [L2.KOf]; refine' L2.def_mk KX G ?a ?l ?c ?k ?h; (case a => k_is); (case l => k_is); (case c => k_is); (case k => k_is); (case h => first | exact (fun _ _ _ _ _ _ us hl => match us, hl with | [_], _ => rfl) | exact (fun _ _ _ _ _ _ us hl => match us, hl with | [_, _], _ => rfl) | exact (fun _ _ _ _ _ _ us hl => match us, hl with | [_, _, _], _ => rfl) | exact (fun _ _ _ _ _ _ us hl => match us, hl with | [_, _, _, _], _ => rfl) | exact (fun _ _ _ _ _ _ us hl => match us, hl with | [_, _, _, _, _], _ => rfl)))
    obtain ⟨d_is_whole, d_is_bounded, d_is_grid_row, d_turn, d_gain, d_first_gain, d_is_name, d_are_names, d_are_worths, d_is_hand, d_name_of, d_names_of, d_words_of_hand, d_worths_of_hand, d_worths_by, d_count_of_rows, d_makes_house, d_kept_hand, d_house_of, d_outcomes_of, d_hands_of, d_with_each, d_rows_over, d_rows_of, d_row_with, d_are_weights, d_are_handicaps, d_refuse_weights, d_part_of, d_parts_of, d_scores, d_best_place, d_best_outcome, d_best_table, d_pivot, d_pivots, d_dealt_places, d_worths_at, d_grid_of, d_total_of, d_words_of, d_walks_of_one_turn, d_least_to, d_lengthened, d_after_a_turn, d_has_honest, d_closed_below_zero, d_ring, d_refuse_ring, d_lesser, d_least_roads, d_greatest, d_law_cell, d_law_number, d_law_names, d_law_hands, d_law_rows, d_law_weights, d_law_handicaps, d_law_column, d_law_honest, d_law_low, d_law_bounded, d_law, -⟩ := D;obtain ⟨f, fd, e1, F1, b1⟩ := d_law.ex;have e2 := hmg.symm.trans e1;cases e2;refine ⟨fd, fun s u => ?_, fun base kb nb => ?_⟩
    . exact Mine.zex F1 s u
    . exact Mine.law_ok B C d_is_whole d_is_bounded d_is_grid_row d_turn d_gain d_first_gain d_is_name d_are_names d_are_worths d_is_hand d_name_of d_names_of d_words_of_hand d_worths_of_hand d_worths_by d_count_of_rows d_makes_house d_kept_hand d_house_of d_outcomes_of d_hands_of d_with_each d_rows_over d_rows_of d_row_with d_are_weights d_are_handicaps d_refuse_weights d_part_of d_parts_of d_scores d_best_place d_best_outcome d_best_table d_pivot d_pivots d_dealt_places d_worths_at d_grid_of d_total_of d_words_of d_walks_of_one_turn d_least_to d_lengthened d_after_a_turn d_has_honest d_closed_below_zero d_ring d_refuse_ring d_lesser d_least_roads d_greatest d_law_cell d_law_number d_law_names d_law_hands d_law_rows d_law_weights d_law_handicaps d_law_column d_law_honest d_law_low d_law_bounded base F1
  case S => exact fun K H a ns hl hO hS => ⟨a, ns, rfl, hS, hl, fun _ => rfl⟩
  case C => exact fun _ _ _ _ z => z
#print axioms PySem.Challenge.cw_trueword_k55_whole_pivots_are_honest_holds
